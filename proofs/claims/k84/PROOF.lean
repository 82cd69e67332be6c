import PyProof.Rows.All
import Wide.All
import OpenK.AllK
import Wide.FinOn
import HandS.ForMost
import HandS.Walk
import HandS.Wide
import HandS.IsInst
import HandS.NoneIn
import HandS.Style
import HandS.Codes
import PyProof.Rows.MatchSeqLen
import HandS.TupAny
import KE.KUnpackStar
import HandS.FStr
import HandS.FStrTup
import HandS.RaiseMore
import PySem.Challenge.RW_knotpurse_k84_lines_as_text
set_option Elab.async false
set_option maxRecDepth 100000
set_option linter.all false
/-! the statement match over a tuple: cases whose first part is a written text and whose other parts are names -/
namespace KM
open PySem PySem.Spec PyProof.Rows L2
/-- the patterns ps, each a bare name of ns in turn -/
structure Caps (env : Env) (ps : List Pattern) (ns : List Str) : Prop where
  run : ∀ {M : Model} {A : Around} {E : Value → Shared → Prop} (us : List Value) (s : Shared) (Q : Option (List (Str × Value)) → Shared → Prop), us.length = ns.length → Q (some (ns.zip us)) s → wpAny M A (matchEach ps env us) Q E s
theorem caps_nil {env : Env} : Caps env [] [] := ⟨fun us s Q hl h => by
  cases us with
  | nil => exact wpAny_matchEach_nil h
  | cons u r => exact absurd hl (by simp)⟩
theorem caps_cons {env : Env} {n : Str} {pos : Pos} {ps : List Pattern} {ns : List Str} (c : Caps env ps ns) : Caps env (.MatchAs none (some n) pos :: ps) (n :: ns) := ⟨fun us s Q hl h => by
  cases us with
  | nil => exact absurd hl (by simp)
  | cons u r =>
    refine wpAny_matchEach_cons (wpAny_matchPattern_Capture ?_)
    refine c.run r s _ (by simpa using hl) ?_
    exact h⟩
/-- the slots js take the values vs in turn -/
def setAll : L2.St → List Nat → List V → L2.St
  | σ, j :: js, v :: vs => setAll (σ.set j (some v)) js vs
  | σ, _, _ => σ
structure Stor (X : Cx) (ns : List Str) (js : List Nat) : Prop where
  run : ∀ {M : Model} {A : Around} {E : Value → Shared → Prop} (pins : List (Addr × Obj)) (s : Shared) (σ : L2.St) (H : Hp) (vs : List V) (us : List Value) (Q : Unit → Shared → Prop), Inv X pins σ H s → Vals vs us → us.length = ns.length →
    (∀ s', Inv X pins (setAll σ js vs) H s' → Q () s') → wpAny M A (assignInOrder ((ns.zip us).map fun (n, _) => bindName X.env n) ((ns.zip us).map (·.2))) Q E s
theorem stores_nil {X : Cx} : Stor X [] [] := ⟨fun pins s σ H vs us Q I r hl h => by
  cases r with
  | nil => exact wpAny_assignInOrder_none (h s I)
  | cons r t => exact absurd hl (by simp)⟩
theorem stores_cons {X : Cx} {i : Nat} {x : Str} {ns : List Str} {js : List Nat} (hN : X.N.Nodup) (c : Stor X ns js) (hi : X.N[i]? = some x) (hx : Loc X.env.scope x)
    (hf : X.fn x = true ∨ X.env.scope.names.lookup x = some .local := by first | exact .inl rfl | exact .inr rfl | assumption) : Stor X (x :: ns) (i :: js) := ⟨fun pins s σ H vs us Q I r hl h => by
  cases r with
  | nil => exact absurd hl (by simp)
  | cons r t =>
    refine wpAny_assignInOrder_more (wpAny_bindName (store_ok I hN hi hx r (fun s' I' => ?_) hf))
    exact c.run pins s' _ H _ _ Q I' t (by simpa using hl) h⟩
/-- the cases, of a subject's value -/
structure PM (X : Cx) (cs : List MatchCase) (t : V → TS) : Prop where
  run : ∀ (first : Bool) (pins : List (Addr × Obj)) (s : Shared) (σ : L2.St) (H : Hp) (D : Ends) (v : V) (u : Value), Inv X pins σ H s → RelV v u → t v D σ H → wpAny (model X.prog X.w) X.A (matchCases cs X.env u first) (SP X pins D) X.xe s
def mNil : V → TS := fun _ D σ H => D.nx σ H
theorem pm_nil {X : Cx} : PM X [] mNil := ⟨fun _ _ s σ H _ _ _ I _ h => wpAny_matchCases_nil ⟨σ, H, I, h⟩⟩
/-- case ("k", a, b, ..): n names, r the rule of == -/
def mCase (K : PySem.W.Frag) (r : R2) (k : Str) (n : Nat) (js : List Nat) (tb : TS) (rest : V → TS) : V → TS := fun v D σ H => ∃ a xs, v = .ref a ∧ SqT K H a xs ∧
  ((xs.length ≠ n + 1 ∧ rest v D σ H) ∨ (xs.length = n + 1 ∧ ∃ y ys, xs = y :: ys ∧ r y (.str k) H fun z H1 => ∃ b, z = .bl b ∧ if b = true then tb D (setAll σ js ys) H1 else rest v D σ H1))
theorem pm_case {X : Cx} {r : R2} {k : Str} {j : Nat} {p1 p2 p3 : Pos} {ps : List Pattern} {ns : List Str} {js : List Nat} {n : Nat} {body : List Stmt} {cs : List MatchCase} {tb : TS} {rest : V → TS}
    (hc : X.calm = true) (ho : OpR X (compareOp .Eq) r) (hp : Caps X.env ps ns) (hs : Stor X ns js) (hb : PSs X body tb) (hr : PM X cs rest) (hn : ns.length = n := by rfl) (hpn : ps.length = n := by rfl)
    (hstar : (Pattern.MatchValue (.Constant (.str k) j p1) p2 :: ps).findIdx? (·.isStar) = none := by rfl)
    (hwild : ((Pattern.MatchValue (.Constant (.str k) j p1) p2 :: ps).all fun p => p.isWildcard || (p.isStar && p.names.isEmpty)) = false := by rfl) :
    PM X (⟨.MatchSequence (.MatchValue (.Constant (.str k) j p1) p2 :: ps) p3, none, body⟩ :: cs) (mCase X.K r k n js tb rest) := by
  refine ⟨fun first pins s σ H D v u I rv h => ?_⟩
  obtain ⟨a, xs, rfl, hq, h⟩ := h
  cases rv
  obtain ⟨its, rx, ht, hz⟩ := I.tuple hq
  have hsz : its.toArray.size = xs.length := by simp [rx.length]
  have hfit : ((its.toArray.size : Nat) : Int) < 2 ^ 63 := by
    have : xs.length ≤ sizeLine := hz
    have e : sizeLine = 16777216 := by decide
    omega
  refine wpAny_matchCases_cons ?_
  rcases h with ⟨hne, h⟩ | ⟨hlen, y, ys, rfl, h⟩
  · refine matchSeq_tuple_miss ht hfit (by rw [hsz, List.length_cons, hpn]; exact hne) ?_ hstar hwild
    exact hr.run false pins _ σ H D (.ref a) (.ref a) (I.tok _) rfl h
  · refine matchSeq_tuple_hit ht hfit (by rw [hsz, hlen]; show n + 1 = ps.length + 1; rw [hpn]) ?_ hstar hwild
    have I1 : Inv X pins σ H { s with toks := s.toks + 1 + 1 } := I.tok _
    have hl2 : (Pattern.MatchValue (.Constant (.str k) j p1) p2 :: ps).length = its.toArray.size := by rw [hsz, hlen]; show ps.length + 1 = n + 1; rw [hpn]
    rw [hl2]
    refine unpackItems_tuple (I.ok.hd hc) (show IsTup ({ s with toks := s.toks + 1 + 1 } : Shared).heap a its.toArray from ht) fun h' hx' => ?_
    have I2 := I1.kept (h' := h') (t' := s.toks + 1 + 1) fun b o e => hx' b o (Nat.ne_of_lt (Heap.lt_size e)) e
    cases rx with
    | @cons _ u0 _ us r0 rr =>
    show wpAny _ _ (matchEach _ _ (u0 :: us)) _ _ _
    refine wpAny_matchEach_cons (wpAny_matchPattern_Value (Calls.Constant_str ?_))
    have I3 := I2.tok (s.toks + 1 + 1 + 1)
    refine thn (ho pins _ σ H y (.str k) u0 _ _ I3 r0 ⟨_, rfl⟩ h) fun c s3 ⟨z, H1, I4, rz, q⟩ => ?_
    obtain ⟨b, rfl, q⟩ := q
    cases rz
    refine wpAny_truthy_bool ?_
    cases b with
    | false =>
      rw [if_neg Bool.false_ne_true]
      exact hr.run false pins _ σ H1 D (.ref a) (.ref a) I4 rfl q
    | true =>
      rw [if_pos rfl]
      have hul : us.length = ns.length := by
        have h1 := rr.length
        have h2 : ys.length = n := by simpa using hlen
        omega
      refine hp.run us _ _ hul ?_
      refine hs.run pins _ σ H1 ys us _ I4 rr hul fun s5 I5 => ?_
      exact hb.run pins s5 _ H1 D I5 q
def tMatch (te : TE) (t : V → TS) : TS := fun D σ H => te σ H fun v H1 => t v D σ H1
theorem ps_match {X : Cx} {e : Expr} {cs : List MatchCase} {pos : Pos} {te : TE} {t : V → TS} (he : PE X e te) (hm : PM X cs t) : PS X (.Match e cs pos) (tMatch te t) := by
  refine ⟨fun pins s σ H D I h => ?_⟩
  refine wpAny_Match (thn (he.run pins s σ H _ I h) fun v s1 ⟨x, H1, I1, r1, q1⟩ => ?_)
  exact hm.run true pins s1 σ H1 D x v I1 r1 q1
end KM
namespace KP
open PySem L2 KM
def top (i : Nat) : Stmt := PySem.Challenge.pw_knotpurse_k84_lines_as_text.main.body.getD i (.Pass ⟨0, 0, 0, 0⟩)
/-! ### how a def of the text is known, and called -/
structure DefT (K : PySem.W.Frag) (mg : Str → Option Value) (x : Str) (st : Stmt) (ps : List Str) : Prop where
  ex : ∃ f fd, Fun K x x st f fd ∧ Binds K fd ps [] ∧ mg x = some (.ref f)
structure Cal (P : Program) (w : World) (K : PySem.W.Frag) (mg : Str → Option Value) (base : Heap) (k : Nat) (x : Str) (sp : Sp) : Prop where
  ex : ∃ f fd ps, FnOk P w K mg base CX0 k f fd ps sp ∧ mg x = some (.ref f) ∧ PySem.W.keepIn K (.ref f) = true ∧ Binds K fd ps []
section
variable {P : Program} {w : World} {K : PySem.W.Frag} {mg : Str → Option Value} {base : Heap}
theorem cal {x : Str} {st : Stmt} {N ps : List Str} {k : Nat} {sp : Sp} (D : DefT K mg x st ps) (S : FnScope N ps (defScope st)) (len : ∀ vs H Q E, sp vs H Q E → vs.length = ps.length)
    (hbody : ∀ (f : Addr) (cdv : Value) (A : Around) (outer : List Env) (s : Shared) (H : Hp) (vs : List V) (Q : VK) (E : XK), Room k (A.deeper (PyProof.Rows.envOfC x (defScope st) s.heap.objs.size f cdv)) → sp vs H Q E →
      ∃ t, PSs (cxOf CX0 P w K mg base N x (defScope st) f cdv A outer s H E).nox (defBody st) t ∧ t { nx := fun _ H' => Q .non H', rt := Q } (start N vs) H) : Cal P w K mg base (k + 1) x sp := by
  obtain ⟨f, fd, F, b, m⟩ := D.ex
  exact ⟨f, fd, ps, F.ok S len (hbody f), m, F.kp, b⟩
end
section
variable {X : Cx} {k j : Nat} {x : Str} {sp : Sp} {p pos : Pos} {e : Expr} {es : List Expr} {t : TA}
/-- f(e, ..) -/
theorem pe_cl (c : Cal X.prog X.w X.K X.mg X.base k x sp) (hr : Room j X.A) (hk : k ≤ j) (hg : Gl X x) (ha : PA X (e :: es) t)
    (hdb : (x == ("__debug__" : Str)) = false := by decide) (he : starEach (e :: es) X.env = (false, eval e X.env) :: starEach es X.env := by rfl) (hpl : (backTo pos (starEach es X.env)).any (·.1) = false := by rfl) :
    PE X (.Call (.Name x p) (e :: es) [] pos) (tCall sp [] E0 t) := by
  obtain ⟨f, fd, ps, F, m, kp, b⟩ := c.ex
  exact pe_call F (hr.mono hk) hg m kp b .nil pass0 ha hdb he hpl
end
theorem yes {σ : L2.St} {H : Hp} {Q : Bool → Hp → Prop} (h : Q true H) : tYes σ H Q := h
/-! ### texts of letters -/
def letters : Str := "abcdefghijklmnopqrstuvwxyz"
def Ltr (c : Nat) : Prop := c ∈ letters.cps.toList
def IsW (x : Str) : Prop := (∀ c ∈ x.cps.toList, Ltr c) ∧ 1 ≤ x.length ∧ x.length ≤ 8
def IsN (x : Str) : Prop := x = "" ∨ IsW x
/-! ### the written part: what of it the walk asks -/
structure Base (K : PySem.W.Frag) (mg : Str → Option Value) : Prop where
  isi : mg "isinstance" = none
  bool : mg "bool" = none
  int : mg "int" = none
  str : mg "str" = none
  tuple : mg "tuple" = none
  len : mg "len" = none
  all : mg "all" = none
  range : mg "range" = none
  letters : ∃ t, mg "LETTERS" = some (.str letters t)
  mostL : ∃ t, mg "MOST_LETTERS" = some (.int 8 t)
  mostC : ∃ t, mg "MOST_COINS" = some (.int 1000000000000 t)
  leastU : ∃ t, mg "LEAST_UNTIL" = some (.int 2 t)
  mostU : ∃ t, mg "MOST_UNTIL" = some (.int 31 t)
abbrev sWhole : Stmt := top 7
abbrev sWord : Stmt := top 8
abbrev sNote : Stmt := top 9
abbrev sCheck : Stmt := top 14
def spWhole : Sp := fun vs H Q _ => ∃ v lo hi : Int, vs = [.int v, .int lo, .int hi] ∧ Q (.bl (decide (lo ≤ v ∧ v ≤ hi))) H
def spWord : Sp := fun vs H Q _ => ∃ x : Str, vs = [.str x] ∧ IsW x ∧ ∀ H', Same H H' → Q (.bl true) H'
def spNote : Sp := fun vs H Q _ => ∃ x : Str, vs = [.str x] ∧ IsN x ∧ ∀ H', Same H H' → Q (.bl true) H'
def spCheck : Sp := fun vs H Q _ => ∃ (a : Addr) (ws : List Str) (c : Int) (n : Str), vs = [.ref a, .int c, .str n] ∧ H a = some (.lst (ws.map V.str)) ∧ (∀ x ∈ ws, IsW x) ∧ ws.length ≤ 2 ∧ 1 ≤ c ∧ c ≤ 1000000000000 ∧ IsN n ∧ ∀ H', Same H H' → Q .non H'
section
variable {P : Program} {w : World} {K : PySem.W.Frag} {mg : Str → Option Value} {base : Heap}
theorem scWhole : FnScope ["value", "least", "most"] ["value", "least", "most"] (defScope sWhole) := ⟨rfl, rfl, rfl, by decide +kernel, rfl, by decide +kernel, by decide +kernel⟩
theorem c_whole (B : Base K mg) (D : DefT K mg "is_whole" sWhole ["value", "least", "most"]) : Cal P w K mg base 1 "is_whole" spWhole := by
  refine cal D scWhole (fun vs H Q E h => ?_) (fun f cdv A outer s H vs Q E hr h => ?_)
  · obtain ⟨v, lo, hi, rfl, _⟩ := h
    rfl
  · obtain ⟨v, lo, hi, rfl, k⟩ := h
    refine ⟨_, pss_cons (ps_if (PW.pt (pw_or (pt_val (pe_callB call_isi (by rfl) B.isi (by decide +kernel) (pa_cons (pv 0) (pa_cons (pe_bltn (v := .ty "bool") (by rfl) B.bool (by decide +kernel) rfl) pa_nil))))
        (pw_or1 (pt_not (pt_val (pe_callB call_isi (by rfl) B.isi (by decide +kernel) (pa_cons (pv 0) (pa_cons (pe_bltn (v := .ty "int") (by rfl) B.int (by decide +kernel) rfl) pa_nil)))))))) (pss_one (ps_ret pe_bl)) pss_nil)
      (pss_one (ps_ret (pe_chain op_le op_le (pv 1) (pv 0) (pv 2)))), ?_⟩
    refine ⟨_, rfl, _, _, _, _, false, rfl, .ty _, .base (.int _), kit_ty (by decide +kernel), _, rfl, iteF ?_⟩
    refine ⟨_, rfl, _, _, _, _, true, rfl, .ty _, .base (.int _), kit_ty (by decide +kernel), _, rfl, iteF ?_⟩
    refine ⟨_, rfl, _, rfl, _, _, rfl, rfl, _, rfl, ?_⟩
    by_cases h1 : lo ≤ v
    · rw [if_pos (decide_eq_true h1)]
      refine ⟨_, rfl, _, _, rfl, rfl, ?_⟩
      by_cases h2 : v ≤ hi
      · show Q (.bl (decide (v ≤ hi))) H
        rw [decide_eq_true h2]
        rw [decide_eq_true ⟨h1, h2⟩] at k
        exact k
      · show Q (.bl (decide (v ≤ hi))) H
        rw [decide_eq_false h2]
        rw [decide_eq_false fun z => h2 z.2] at k
        exact k
    · rw [if_neg (by rw [decide_eq_false h1]; exact Bool.false_ne_true)]
      rw [decide_eq_false fun z => h1 z.1] at k
      exact k
/-- a new object leaves the rest as it was -/
theorem same_new {H : Hp} {a : Addr} {o : HO} (h : H a = none) : Same H (upd H a o) := fun b u e => by
  rw [upd_ne (ne_of_none e h)]
  exact e
theorem map_rep {n : Nat} : (List.replicate n true).map V.bl = List.replicate n (V.bl true) := by simp
theorem all_rep {n : Nat} : (List.replicate n true).all id = true := by
  rw [List.all_eq_true]
  intro x hx
  exact (List.mem_replicate.mp hx).2
theorem scWord : FnScope ["value", "sign"] ["value"] (defScope sWord) := ⟨rfl, rfl, rfl, by decide +kernel, rfl, by decide +kernel, by decide +kernel⟩
theorem c_word (B : Base K mg) (D : DefT K mg "is_word" sWord ["value"]) : Cal P w K mg base 1 "is_word" spWord := by
  obtain ⟨tL, hL⟩ := B.letters
  obtain ⟨tM, hM⟩ := B.mostL
  refine cal D scWord (fun vs H Q E h => ?_) (fun f cdv A outer s H vs Q E hr h => ?_)
  · obtain ⟨x, rfl, _⟩ := h
    rfl
  · obtain ⟨x, rfl, ⟨hl, h1, h8⟩, k⟩ := h
    refine ⟨_, pss_cons (ps_if (PW.pt (pw_or (pt_not (pt_val (pe_callB call_isi (by rfl) B.isi (by decide +kernel) (pa_cons (pv 0) (pa_cons (pe_bltn (v := .ty "str") (by rfl) B.str (by decide +kernel) rfl) pa_nil)))))
        (pw_or1 (pt_not (pt_chain op_le op_le pe_int (pe_callB call_len_str (by rfl) B.len (by decide +kernel) (pa_cons (pv 0) pa_nil)) (pe_glob (v := .int 8) rfl hM ⟨_, rfl⟩)))))) (pss_one (ps_ret pe_bl)) pss_nil)
      (pss_one (ps_ret (pe_callB (cr_all rfl) (by rfl) B.all (by decide +kernel) (pa_cons (pe_lc (own := [("sign", 1)]) (g := gName 1) (tt := tYes) rfl scWord.nd (pi_str (pv 0)) (blkOk_by (N := ["value", "sign"]) (sc := defScope sWord) (by decide +kernel))
        (fun _ _ _ _ _ => pg_name (i := 1) scWord.nd rfl (Or.inl rfl)) (fun _ _ _ _ _ => pts_nil) (fun _ _ _ _ _ => pe_cmpR op_in_sign (pv 1) (pe_glob (v := .str letters) rfl hL ⟨_, rfl⟩) rfl)) pa_nil)))), ?_⟩
    refine ⟨_, rfl, _, _, _, _, true, rfl, .ty _, .base (.str _), kit_ty (by decide +kernel), _, rfl, iteF ?_⟩
    have hs : x.length ≤ sizeLine := Nat.le_trans h8 (by decide)
    refine ⟨_, rfl, _, rfl, hs, _, _, rfl, rfl, _, rfl, ?_⟩
    rw [if_pos (decide_eq_true (show (1 : Int) ≤ ((x.length : Nat) : Int) by omega))]
    refine ⟨_, _, rfl, rfl, _, rfl, ?_⟩
    have e8 : decide (((x.length : Nat) : Int) ≤ 8) = true := decide_eq_true (by omega)
    rw [e8]
    refine iteF ?_
    refine ⟨_, rfl, x, rfl, fun D hD => lc_it walk_str (fun i H' => H' = upd H D (.lst (List.replicate i (V.bl true)))) rfl (fun _ _ _ _ => trivial) ?_ ?_⟩
    · rintro i v H1 H2 hi rfl ⟨rfl, c, hc, rfl⟩
      refine ⟨rfl, yes (iteT ⟨_, rfl, c, letters, rfl, rfl, _, upd_same, ?_, ?_⟩)⟩
      · rw [List.length_replicate]
        have : x.cps.size ≤ 8 := h8
        have e : sizeLine = 16777216 := by decide
        omega
      · have ec : decide (c ∈ letters.cps.toList) = true := decide_eq_true (hl c (by
          have := Array.mem_of_getElem? hc
          simpa using this))
        rw [ec, upd_upd]
        congr 2
        exact (List.replicate_succ' (n := i) (a := V.bl true)).symm ▸ rfl
    · rintro H1 rfl
      refine ⟨D, List.replicate x.cps.size true, rfl, SqL.of (by rw [upd_same, map_rep]), ?_⟩
      rw [all_rep]
      exact k _ (same_new hD)
theorem scNote : FnScope ["value"] ["value"] (defScope sNote) := ⟨rfl, rfl, rfl, by decide +kernel, rfl, by decide +kernel, by decide +kernel⟩
theorem c_note (B : Base K mg) (W : Cal P w K mg base 1 "is_word" spWord) (D : DefT K mg "is_note" sNote ["value"]) : Cal P w K mg base 2 "is_note" spNote := by
  refine cal D scNote (fun vs H Q E h => ?_) (fun f cdv A outer s H vs Q E hr h => ?_)
  · obtain ⟨x, rfl, _⟩ := h
    rfl
  · obtain ⟨x, rfl, hx, k⟩ := h
    refine ⟨_, pss_one (ps_ret (pe_or (pe_cmpR op_eq (pv 0) pe_str (nomark _)) (pe_one (pe_cl W hr (by decide) (by rfl) (pa_cons (pv 0) pa_nil))))), ?_⟩
    refine ⟨_, rfl, rfl, _, rfl, ?_⟩
    refine ite2 (fun c => ?_) (fun c => ?_)
    · exact k _ (Same.refl _)
    · have hn : ¬ x = "" := fun e => c (by rw [e]; exact decide_eq_true rfl)
      rcases hx with e | hx
      · exact absurd e hn
      · exact ⟨_, rfl, x, rfl, hx, k⟩
theorem scCheck : FnScope ["words", "coins", "note", "word"] ["words", "coins", "note"] (defScope sCheck) := ⟨rfl, rfl, rfl, by decide +kernel, rfl, by decide +kernel, by decide +kernel⟩
theorem c_check (B : Base K mg) (Wh : Cal P w K mg base 1 "is_whole" spWhole) (W : Cal P w K mg base 1 "is_word" spWord) (N : Cal P w K mg base 2 "is_note" spNote) (D : DefT K mg "check_fields" sCheck ["words", "coins", "note"]) :
    Cal P w K mg base 3 "check_fields" spCheck := by
  obtain ⟨tC, hC⟩ := B.mostC
  refine cal D scCheck (fun vs H Q E h => ?_) (fun f cdv A outer s H vs Q E hr h => ?_)
  · obtain ⟨a, ws, c, n, rfl, _⟩ := h
    rfl
  · obtain ⟨a, ws, c, n, rfl, ha, hw, hwl, c1, c2, hn, k⟩ := h
    refine ⟨_, pss_cons (ps_if (pt_not (pt_val (pe_callB (cr_all rfl) (by rfl) B.all (by decide +kernel) (pa_cons (pe_lc (own := [("word", 3)]) (g := gName 3) (tt := tYes) rfl scCheck.nd (pi_list (pv 0)) (blkOk_by (N := ["words", "coins", "note", "word"]) (sc := defScope sCheck) (by decide +kernel))
        (fun _ _ _ _ _ => pg_name (i := 3) scCheck.nd rfl (Or.inl rfl)) (fun _ _ _ _ _ => pts_nil) (fun _ _ _ _ _ => pe_cl W hr (by decide) (by rfl) (pa_cons (pv 3) pa_nil))) pa_nil)))) (pss_one ps_never) pss_nil)
      (pss_cons (ps_if (pt_not (pt_val (pe_cl Wh hr (by decide) (by rfl) (pa_cons (pv 1) (pa_cons pe_int (pa_cons (pe_glob (v := .int 1000000000000) rfl hC ⟨_, rfl⟩) pa_nil)))))) (pss_one ps_never) pss_nil)
      (pss_one (ps_if (pt_not (pt_val (pe_cl N hr (by decide) (by rfl) (pa_cons (pv 2) pa_nil)))) (pss_one ps_never) pss_nil))), ?_⟩
    refine ⟨_, rfl, a, rfl, ⟨_, SqL.of ha⟩, fun D hD => lc_it (walk_list (xs := ws.map V.str)) (fun i H' => Same H H' ∧ H' D = some (.lst (List.replicate i (V.bl true)))) ⟨same_new hD, upd_same⟩ (fun i H' _ p => SqL.of (p.1 _ _ ha)) ?_ ?_⟩
    · rintro i v H1 H2 hi ⟨s1, d1⟩ ⟨rfl, hv⟩
      obtain ⟨x, hx, rfl⟩ : ∃ x, ws[i]? = some x ∧ v = V.str x := by
        rw [List.getElem?_map] at hv
        cases e : ws[i]? with
        | none => rw [e] at hv; cases hv
        | some x => rw [e] at hv; exact ⟨x, rfl, (Option.some.inj hv).symm⟩
      refine ⟨rfl, yes (iteT ⟨_, rfl, x, rfl, hw x (List.mem_of_getElem? hx), fun H3 s3 => ⟨_, s3 _ _ d1, ?_, ?_, ?_⟩⟩)⟩
      · rw [List.length_replicate]
        rw [List.length_map] at hi
        have e : sizeLine = 16777216 := by decide
        omega
      · intro b o e
        have hb : b ≠ D := ne_of_none e hD
        rw [upd_ne hb]
        exact s3 _ _ (s1 _ _ e)
      · rw [upd_same]
        congr 2
        exact (List.replicate_succ' (n := i) (a := V.bl true)).symm ▸ rfl
    · rintro H1 ⟨s1, d1⟩
      refine ⟨D, List.replicate (ws.map V.str).length true, rfl, SqL.of (by rw [d1, map_rep]), _, rfl, ?_⟩
      rw [all_rep]
      refine iteF ?_
      refine ⟨_, rfl, c, 1, 1000000000000, rfl, _, rfl, ?_⟩
      rw [decide_eq_true ⟨c1, c2⟩]
      refine iteF ?_
      exact ⟨_, rfl, n, rfl, hn, fun H2 s2 => ⟨_, rfl, iteF (k _ (s1.trans s2))⟩⟩
end
end KP
namespace KP
open PySem L2 KM
/-! ### entries -/
inductive En where
  | give (h : Str) (c : Int) (n : Str) | hold (h : Str) (c u : Int) (n : Str) | move (h o : Str) (c : Int) (n : Str) | spend (h : Str) (c : Int) (n : Str)
  | promise (x h : Str) (c : Int) (n : Str) | lessen (x : Str) (c : Int) (n : Str) | out (x : Str) (c : Int) (n : Str)
def Coin (c : Int) : Prop := 1 ≤ c ∧ c ≤ 1000000000000
def En.k : En → Nat
  | .give .. => 0 | .hold .. => 1 | .move .. => 2 | .spend .. => 3 | .promise .. => 4 | .lessen .. => 5 | .out .. => 6
def En.kind : En → Str
  | .give .. => "give" | .hold .. => "hold" | .move .. => "move" | .spend .. => "spend" | .promise .. => "promise" | .lessen .. => "lessen" | .out .. => "out"
def En.args : En → List V
  | .give h c n => [.str h, .int c, .str n] | .hold h c u n => [.str h, .int c, .int u, .str n] | .move h o c n => [.str h, .str o, .int c, .str n] | .spend h c n => [.str h, .int c, .str n]
  | .promise x h c n => [.str x, .str h, .int c, .str n] | .lessen x c n => [.str x, .int c, .str n] | .out x c n => [.str x, .int c, .str n]
def En.fs : En → List (Str × V)
  | .give h c n => [("head", .str h), ("coins", .int c), ("note", .str n)] | .hold h c u n => [("head", .str h), ("coins", .int c), ("until", .int u), ("note", .str n)]
  | .move h o c n => [("head", .str h), ("other", .str o), ("coins", .int c), ("note", .str n)] | .spend h c n => [("head", .str h), ("coins", .int c), ("note", .str n)]
  | .promise x h c n => [("word", .str x), ("head", .str h), ("coins", .int c), ("note", .str n)] | .lessen x c n => [("word", .str x), ("coins", .int c), ("note", .str n)] | .out x c n => [("word", .str x), ("coins", .int c), ("note", .str n)]
def En.ok : En → Prop
  | .give h c n => IsW h ∧ Coin c ∧ IsN n | .hold h c u n => IsW h ∧ Coin c ∧ (2 ≤ u ∧ u ≤ 31) ∧ IsN n | .move h o c n => IsW h ∧ IsW o ∧ h ≠ o ∧ Coin c ∧ IsN n | .spend h c n => IsW h ∧ Coin c ∧ IsN n
  | .promise x h c n => IsW x ∧ IsW h ∧ Coin c ∧ IsN n | .lessen x c n => IsW x ∧ Coin c ∧ IsN n | .out x c n => IsW x ∧ Coin c ∧ IsN n
def En.tup (e : En) : List V := .str e.kind :: e.args
/-- the entry e stands at p -/
def EntAt (C : Nat → Addr) (H : Hp) (p : Addr) (e : En) : Prop := ∃ dx, H p = some (.ins (C e.k) dx e.fs)
def spInit (C : Nat → Addr) (k : Nat) : Sp := fun vs H Q _ => ∃ (p dx : Addr) (e : En), vs = .ref p :: e.args ∧ e.k = k ∧ e.ok ∧ H p = some (.ins (C k) dx []) ∧
  ∀ H' : Hp, H' p = some (.ins (C k) dx e.fs) → (∀ b o, H b = some o → b ≠ p → H' b = some o) → Q .non H'
def spTold (C : Nat → Addr) (k : Nat) : Sp := fun vs H Q _ => ∃ (p : Addr) (e : En), vs = [.ref p] ∧ e.k = k ∧ EntAt C H p e ∧ ∀ q, H q = none → Q (.ref q) (upd H q (.tup e.tup))
theorem ne_s {a b : Str} (h : (a == b) = false) : a ≠ b := by
  intro e
  subst e
  simp at h
theorem put1 (a : Str) (x : V) : putF a x [] = [(a, x)] := rfl
theorem put2 {a b : Str} (h : a ≠ b) (x y : V) : putF b y [(a, x)] = [(a, x), (b, y)] := by
  show (if a = b then (a, y) :: [] else (a, x) :: putF b y []) = _
  rw [if_neg h]
  rfl
theorem put3 {a b c : Str} (h : a ≠ c) (h2 : b ≠ c) (x y z : V) : putF c z [(a, x), (b, y)] = [(a, x), (b, y), (c, z)] := by
  show (if a = c then _ else (a, x) :: putF c z [(b, y)]) = _
  rw [if_neg h, put2 h2]
theorem put4 {a b c d : Str} (h : a ≠ d) (h2 : b ≠ d) (h3 : c ≠ d) (x y z u : V) : putF d u [(a, x), (b, y), (c, z)] = [(a, x), (b, y), (c, z), (d, u)] := by
  show (if a = d then _ else (a, x) :: putF d u [(b, y), (c, z)]) = _
  rw [if_neg h, put3 h2 h3]
/-! ### how a class of the text is known -/
structure MakT (P : Program) (w : World) (K : PySem.W.Frag) (mg : Str → Option Value) (base : Heap) (k : Nat) (x : Str) (C : Addr) (sp : Sp) : Prop where
  ex : ∃ f fd ps, Mk K C f ∧ FnOk P w K mg base CX0 k f fd ps sp ∧ mg x = some (.ref C) ∧ Binds K fd ps []
structure MetT (P : Program) (w : World) (K : PySem.W.Frag) (mg : Str → Option Value) (base : Heap) (k : Nat) (C : Addr) (m : Str) (sp : Sp) : Prop where
  ex : ∃ f fd ps, Cls K C ∧ Meth K C m f ∧ FnOk P w K mg base CX0 k f fd ps sp ∧ Binds K fd ps []
structure ClsT (K : PySem.W.Frag) (mg : Str → Option Value) (x qI qT : Str) (C : Addr) (sI sT : Stmt) (psI fl : List Str) : Prop where
  cl : Cls K C
  mgC : mg x = some (.ref C)
  init : ∃ f fd, Mk K C f ∧ Fun K "__init__" qI sI f fd ∧ Binds K fd psI []
  told : ∃ f fd, Meth K C "told" f ∧ Fun K "told" qT sT f fd ∧ Binds K fd ["self"] []
  nF : ∀ f ∈ fl, NoAttr K C f
section
variable {X : Cx} {k j : Nat} {x m : Str} {C : Addr} {sp : Sp} {p pos apos : Pos} {e o : Expr} {es : List Expr} {ta : TE} {t : TA}
theorem pe_mkT (c : MakT X.prog X.w X.K X.mg X.base k x C sp) (hr : Room j X.A) (hk : k + 1 ≤ j) (hg : Gl X x) (ha : PA X (e :: es) t)
    (hdb : (x == ("__debug__" : Str)) = false := by decide) (he : starEach (e :: es) X.env = (false, eval e X.env) :: starEach es X.env := by rfl) (hpl : (backTo pos (starEach es X.env)).any (·.1) = false := by rfl) :
    PE X (.Call (.Name x p) (e :: es) [] pos) (tMake C sp [] E0 t) := by
  obtain ⟨f, fd, ps, M, F, m, b⟩ := c.ex
  exact pe_make M F (hr.mono hk) hg m b .nil pass0 ha hdb he hpl
theorem pe_mtT0 {pl : Sem Bool} (c : MetT X.prog X.w X.K X.mg X.base k C m sp) (hr : Room j X.A) (hk : k ≤ j) (he : PE X o ta)
    (ht : eval (.Call (.Attribute o m apos) [] [] pos) X.env = (do
      let ov ← eval o X.env
      standAt apos.atName
      let (f, first) ← holding [ov] (getMethod ov m pl)
      callWith pos f first (backTo pos (starEach [] X.env)) (backToKw pos (keywordEach [] X.env))) := by rfl) :
    PE X (.Call (.Attribute o m apos) [] [] pos) (tMeth C m sp [] E0 ta tNil) := by
  obtain ⟨f, fd, ps, c, hm, F, b⟩ := c.ex
  exact pe_meth0 he c hm F (hr.mono hk) b .nil pass0 ht
end
section
variable {P : Program} {w : World} {K : PySem.W.Frag} {mg : Str → Option Value} {base : Heap}

abbrev sIGive : Stmt := inClass (top 16) 0
abbrev sTGive : Stmt := inClass (top 16) 1
theorem scIGive : FnScope ["self", "head", "coins", "note"] ["self", "head", "coins", "note"] (defScope sIGive) := ⟨rfl, rfl, rfl, by decide +kernel, rfl, by decide +kernel, by decide +kernel⟩
theorem scTGive : FnScope ["self"] ["self"] (defScope sTGive) := ⟨rfl, rfl, rfl, by decide +kernel, rfl, by decide +kernel, by decide +kernel⟩
theorem i_give {C : Nat → Addr} (B : Base K mg) (Wh : Cal P w K mg base 1 "is_whole" spWhole) (Ck : Cal P w K mg base 3 "check_fields" spCheck) (T : ClsT K mg "Give" "Give.__init__" "Give.told" (C 0) sIGive sTGive ["self", "head", "coins", "note"] ["head", "coins", "note"]) : MakT P w K mg base 4 "Give" (C 0) (spInit C 0) := by
  obtain ⟨f, fd, M, F, b⟩ := T.init
  obtain ⟨tLU, hLU⟩ := B.leastU
  obtain ⟨tMU, hMU⟩ := B.mostU
  refine ⟨f, fd, _, M, F.ok scIGive (fun vs H Q E h => ?_) (fun cdv A outer s H vs Q E hr h => ?_), T.mgC, b⟩
  · obtain ⟨p, dx, e, rfl, hk, _⟩ := h
    cases e <;> first | rfl | (cases hk; done)
  · obtain ⟨p, dx, e, rfl, hk, hok, hp, k⟩ := h
    cases e <;> first | (cases hk; done) | skip
    rename_i x0 x1 x2
    obtain ⟨hw1, hc, hn⟩ := hok
    refine ⟨_, pss_cons (ps_expr (pe_cl Ck hr (by decide) (by rfl) (pa_cons (pe_lst (pa_cons (pv 1) pa_nil)) (pa_cons (pv 2) (pa_cons (pv 3) pa_nil)))))
      (pss_cons (ps_fld (pv 0) (pv 1) rfl)
      (pss_cons (ps_fld (pv 0) (pv 2) rfl)
      (pss_one (ps_fld (pv 0) (pv 3) rfl)))), ?_⟩
    refine ⟨_, rfl, (by show 1 ≤ sizeLine; decide), fun l hl => ⟨_, rfl, _, rfl, l, [x0], _, _, rfl, upd_same, (by intro z hz; simp at hz; subst hz; exact hw1), (by simp), hc.1, hc.2, hn, fun H1 s1 => ?_⟩⟩
    have pl : p ≠ l := ne_of_none hp hl
    have hp1 : H1 p = some (.ins (C 0) dx []) := s1 _ _ (by rw [upd_ne pl]; exact hp)
    have e12 : ("head" : Str) ≠ "coins" := by decide +kernel
    have e13 : ("head" : Str) ≠ "note" := by decide +kernel
    have e23 : ("coins" : Str) ≠ "note" := by decide +kernel
    refine ⟨_, rfl, _, rfl, p, _, dx, _, rfl, hp1, T.cl, T.nF _ (by simp), (by show 0 < 1000; decide), _, rfl, _, rfl, p, _, dx, _, rfl, upd_same, T.cl, T.nF _ (by simp), (by show 1 < 1000; decide), _, rfl, _, rfl, p, _, dx, _, rfl, upd_same, T.cl, T.nF _ (by simp), (by rw [put1, put2 e12]; show 2 < 1000; decide), ?_⟩
    refine k _ (by rw [upd_same, put1, put2 e12, put3 e13 e23]; rfl) fun b o e hb => ?_
    rw [upd_ne hb, upd_ne hb, upd_ne hb]
    exact s1 _ _ (by rw [upd_ne (ne_of_none e hl)]; exact e)
theorem t_give {C : Nat → Addr} (T : ClsT K mg "Give" "Give.__init__" "Give.told" (C 0) sIGive sTGive ["self", "head", "coins", "note"] ["head", "coins", "note"]) : MetT P w K mg base 1 (C 0) "told" (spTold C 0) := by
  obtain ⟨f, fd, M, F, b⟩ := T.told
  refine ⟨f, fd, _, T.cl, M, F.ok scTGive (fun vs H Q E h => ?_) (fun cdv A outer s H vs Q E hr h => ?_), b⟩
  · obtain ⟨p, e, rfl, _⟩ := h
    rfl
  · obtain ⟨p, e, rfl, hk, ⟨dx, hp⟩, k⟩ := h
    cases e <;> first | (cases hk; done) | skip
    rename_i x0 x1 x2
    refine ⟨_, pss_one (ps_ret (pe_tup (pa_cons pe_str (pa_cons (pe_fld (pv 0) rfl) (pa_cons (pe_fld (pv 0) rfl) (pa_cons (pe_fld (pv 0) rfl) pa_nil)))))), ?_⟩
    refine ⟨_, rfl, p, _, dx, _, _, rfl, hp, T.cl, T.nF _ (by simp), rfl, _, rfl, p, _, dx, _, _, rfl, hp, T.cl, T.nF _ (by simp), rfl, _, rfl, p, _, dx, _, _, rfl, hp, T.cl, T.nF _ (by simp), rfl, (by show 4 ≤ sizeLine; decide), fun q hq => k q hq⟩
abbrev sIHold : Stmt := inClass (top 17) 0
abbrev sTHold : Stmt := inClass (top 17) 1
theorem scIHold : FnScope ["self", "head", "coins", "until", "note"] ["self", "head", "coins", "until", "note"] (defScope sIHold) := ⟨rfl, rfl, rfl, by decide +kernel, rfl, by decide +kernel, by decide +kernel⟩
theorem scTHold : FnScope ["self"] ["self"] (defScope sTHold) := ⟨rfl, rfl, rfl, by decide +kernel, rfl, by decide +kernel, by decide +kernel⟩
theorem i_hold {C : Nat → Addr} (B : Base K mg) (Wh : Cal P w K mg base 1 "is_whole" spWhole) (Ck : Cal P w K mg base 3 "check_fields" spCheck) (T : ClsT K mg "Hold" "Hold.__init__" "Hold.told" (C 1) sIHold sTHold ["self", "head", "coins", "until", "note"] ["head", "coins", "until", "note"]) : MakT P w K mg base 4 "Hold" (C 1) (spInit C 1) := by
  obtain ⟨f, fd, M, F, b⟩ := T.init
  obtain ⟨tLU, hLU⟩ := B.leastU
  obtain ⟨tMU, hMU⟩ := B.mostU
  refine ⟨f, fd, _, M, F.ok scIHold (fun vs H Q E h => ?_) (fun cdv A outer s H vs Q E hr h => ?_), T.mgC, b⟩
  · obtain ⟨p, dx, e, rfl, hk, _⟩ := h
    cases e <;> first | rfl | (cases hk; done)
  · obtain ⟨p, dx, e, rfl, hk, hok, hp, k⟩ := h
    cases e <;> first | (cases hk; done) | skip
    rename_i x0 x1 x2 x3
    obtain ⟨hw1, hc, hu, hn⟩ := hok
    refine ⟨_, pss_cons (ps_expr (pe_cl Ck hr (by decide) (by rfl) (pa_cons (pe_lst (pa_cons (pv 1) pa_nil)) (pa_cons (pv 2) (pa_cons (pv 4) pa_nil)))))
      (pss_cons (ps_if (pt_not (pt_val (pe_cl Wh hr (by decide) (by rfl) (pa_cons (pv 3) (pa_cons (pe_glob (v := .int 2) rfl hLU ⟨_, rfl⟩) (pa_cons (pe_glob (v := .int 31) rfl hMU ⟨_, rfl⟩) pa_nil)))))) (pss_one ps_never) pss_nil)
      (pss_cons (ps_fld (pv 0) (pv 1) rfl)
      (pss_cons (ps_fld (pv 0) (pv 2) rfl)
      (pss_cons (ps_fld (pv 0) (pv 3) rfl)
      (pss_one (ps_fld (pv 0) (pv 4) rfl)))))), ?_⟩
    refine ⟨_, rfl, (by show 1 ≤ sizeLine; decide), fun l hl => ⟨_, rfl, _, rfl, l, [x0], _, _, rfl, upd_same, (by intro z hz; simp at hz; subst hz; exact hw1), (by simp), hc.1, hc.2, hn, fun H1 s1 => ?_⟩⟩
    have pl : p ≠ l := ne_of_none hp hl
    have hp1 : H1 p = some (.ins (C 1) dx []) := s1 _ _ (by rw [upd_ne pl]; exact hp)
    refine ⟨_, rfl, _, 2, 31, rfl, _, rfl, ?_⟩
    rw [decide_eq_true hu]
    refine iteF ?_
    have e12 : ("head" : Str) ≠ "coins" := by decide +kernel
    have e13 : ("head" : Str) ≠ "until" := by decide +kernel
    have e14 : ("head" : Str) ≠ "note" := by decide +kernel
    have e23 : ("coins" : Str) ≠ "until" := by decide +kernel
    have e24 : ("coins" : Str) ≠ "note" := by decide +kernel
    have e34 : ("until" : Str) ≠ "note" := by decide +kernel
    refine ⟨_, rfl, _, rfl, p, _, dx, _, rfl, hp1, T.cl, T.nF _ (by simp), (by show 0 < 1000; decide), _, rfl, _, rfl, p, _, dx, _, rfl, upd_same, T.cl, T.nF _ (by simp), (by show 1 < 1000; decide), _, rfl, _, rfl, p, _, dx, _, rfl, upd_same, T.cl, T.nF _ (by simp), (by rw [put1, put2 e12]; show 2 < 1000; decide), _, rfl, _, rfl, p, _, dx, _, rfl, upd_same, T.cl, T.nF _ (by simp), (by rw [put1, put2 e12, put3 e13 e23]; show 3 < 1000; decide), ?_⟩
    refine k _ (by rw [upd_same, put1, put2 e12, put3 e13 e23, put4 e14 e24 e34]; rfl) fun b o e hb => ?_
    rw [upd_ne hb, upd_ne hb, upd_ne hb, upd_ne hb]
    exact s1 _ _ (by rw [upd_ne (ne_of_none e hl)]; exact e)
theorem t_hold {C : Nat → Addr} (T : ClsT K mg "Hold" "Hold.__init__" "Hold.told" (C 1) sIHold sTHold ["self", "head", "coins", "until", "note"] ["head", "coins", "until", "note"]) : MetT P w K mg base 1 (C 1) "told" (spTold C 1) := by
  obtain ⟨f, fd, M, F, b⟩ := T.told
  refine ⟨f, fd, _, T.cl, M, F.ok scTHold (fun vs H Q E h => ?_) (fun cdv A outer s H vs Q E hr h => ?_), b⟩
  · obtain ⟨p, e, rfl, _⟩ := h
    rfl
  · obtain ⟨p, e, rfl, hk, ⟨dx, hp⟩, k⟩ := h
    cases e <;> first | (cases hk; done) | skip
    rename_i x0 x1 x2 x3
    refine ⟨_, pss_one (ps_ret (pe_tup (pa_cons pe_str (pa_cons (pe_fld (pv 0) rfl) (pa_cons (pe_fld (pv 0) rfl) (pa_cons (pe_fld (pv 0) rfl) (pa_cons (pe_fld (pv 0) rfl) pa_nil))))))), ?_⟩
    refine ⟨_, rfl, p, _, dx, _, _, rfl, hp, T.cl, T.nF _ (by simp), rfl, _, rfl, p, _, dx, _, _, rfl, hp, T.cl, T.nF _ (by simp), rfl, _, rfl, p, _, dx, _, _, rfl, hp, T.cl, T.nF _ (by simp), rfl, _, rfl, p, _, dx, _, _, rfl, hp, T.cl, T.nF _ (by simp), rfl, (by show 5 ≤ sizeLine; decide), fun q hq => k q hq⟩
abbrev sIMove : Stmt := inClass (top 18) 0
abbrev sTMove : Stmt := inClass (top 18) 1
theorem scIMove : FnScope ["self", "head", "other", "coins", "note"] ["self", "head", "other", "coins", "note"] (defScope sIMove) := ⟨rfl, rfl, rfl, by decide +kernel, rfl, by decide +kernel, by decide +kernel⟩
theorem scTMove : FnScope ["self"] ["self"] (defScope sTMove) := ⟨rfl, rfl, rfl, by decide +kernel, rfl, by decide +kernel, by decide +kernel⟩
theorem i_move {C : Nat → Addr} (B : Base K mg) (Wh : Cal P w K mg base 1 "is_whole" spWhole) (Ck : Cal P w K mg base 3 "check_fields" spCheck) (T : ClsT K mg "Move" "Move.__init__" "Move.told" (C 2) sIMove sTMove ["self", "head", "other", "coins", "note"] ["head", "other", "coins", "note"]) : MakT P w K mg base 4 "Move" (C 2) (spInit C 2) := by
  obtain ⟨f, fd, M, F, b⟩ := T.init
  obtain ⟨tLU, hLU⟩ := B.leastU
  obtain ⟨tMU, hMU⟩ := B.mostU
  refine ⟨f, fd, _, M, F.ok scIMove (fun vs H Q E h => ?_) (fun cdv A outer s H vs Q E hr h => ?_), T.mgC, b⟩
  · obtain ⟨p, dx, e, rfl, hk, _⟩ := h
    cases e <;> first | rfl | (cases hk; done)
  · obtain ⟨p, dx, e, rfl, hk, hok, hp, k⟩ := h
    cases e <;> first | (cases hk; done) | skip
    rename_i x0 x1 x2 x3
    obtain ⟨hw1, hw2, hne, hc, hn⟩ := hok
    refine ⟨_, pss_cons (ps_expr (pe_cl Ck hr (by decide) (by rfl) (pa_cons (pe_lst (pa_cons (pv 1) (pa_cons (pv 2) pa_nil))) (pa_cons (pv 3) (pa_cons (pv 4) pa_nil)))))
      (pss_cons (ps_if (pt_cmpR op_eq (pv 1) (pv 2) (nomark _)) (pss_one ps_never) pss_nil)
      (pss_cons (ps_fld (pv 0) (pv 1) rfl)
      (pss_cons (ps_fld (pv 0) (pv 2) rfl)
      (pss_cons (ps_fld (pv 0) (pv 3) rfl)
      (pss_one (ps_fld (pv 0) (pv 4) rfl)))))), ?_⟩
    refine ⟨_, rfl, _, rfl, (by show 2 ≤ sizeLine; decide), fun l hl => ⟨_, rfl, _, rfl, l, [x0, x1], _, _, rfl, upd_same, (by intro z hz; simp at hz; rcases hz with rfl | rfl; exact hw1; exact hw2), (by simp), hc.1, hc.2, hn, fun H1 s1 => ?_⟩⟩
    have pl : p ≠ l := ne_of_none hp hl
    have hp1 : H1 p = some (.ins (C 2) dx []) := s1 _ _ (by rw [upd_ne pl]; exact hp)
    refine ⟨_, rfl, _, rfl, rfl, _, rfl, ?_⟩
    rw [decide_eq_false (show ¬ (V.str x0 = V.str x1) from fun z => hne (by injection z))]
    refine iteF ?_
    have e12 : ("head" : Str) ≠ "other" := by decide +kernel
    have e13 : ("head" : Str) ≠ "coins" := by decide +kernel
    have e14 : ("head" : Str) ≠ "note" := by decide +kernel
    have e23 : ("other" : Str) ≠ "coins" := by decide +kernel
    have e24 : ("other" : Str) ≠ "note" := by decide +kernel
    have e34 : ("coins" : Str) ≠ "note" := by decide +kernel
    refine ⟨_, rfl, _, rfl, p, _, dx, _, rfl, hp1, T.cl, T.nF _ (by simp), (by show 0 < 1000; decide), _, rfl, _, rfl, p, _, dx, _, rfl, upd_same, T.cl, T.nF _ (by simp), (by show 1 < 1000; decide), _, rfl, _, rfl, p, _, dx, _, rfl, upd_same, T.cl, T.nF _ (by simp), (by rw [put1, put2 e12]; show 2 < 1000; decide), _, rfl, _, rfl, p, _, dx, _, rfl, upd_same, T.cl, T.nF _ (by simp), (by rw [put1, put2 e12, put3 e13 e23]; show 3 < 1000; decide), ?_⟩
    refine k _ (by rw [upd_same, put1, put2 e12, put3 e13 e23, put4 e14 e24 e34]; rfl) fun b o e hb => ?_
    rw [upd_ne hb, upd_ne hb, upd_ne hb, upd_ne hb]
    exact s1 _ _ (by rw [upd_ne (ne_of_none e hl)]; exact e)
theorem t_move {C : Nat → Addr} (T : ClsT K mg "Move" "Move.__init__" "Move.told" (C 2) sIMove sTMove ["self", "head", "other", "coins", "note"] ["head", "other", "coins", "note"]) : MetT P w K mg base 1 (C 2) "told" (spTold C 2) := by
  obtain ⟨f, fd, M, F, b⟩ := T.told
  refine ⟨f, fd, _, T.cl, M, F.ok scTMove (fun vs H Q E h => ?_) (fun cdv A outer s H vs Q E hr h => ?_), b⟩
  · obtain ⟨p, e, rfl, _⟩ := h
    rfl
  · obtain ⟨p, e, rfl, hk, ⟨dx, hp⟩, k⟩ := h
    cases e <;> first | (cases hk; done) | skip
    rename_i x0 x1 x2 x3
    refine ⟨_, pss_one (ps_ret (pe_tup (pa_cons pe_str (pa_cons (pe_fld (pv 0) rfl) (pa_cons (pe_fld (pv 0) rfl) (pa_cons (pe_fld (pv 0) rfl) (pa_cons (pe_fld (pv 0) rfl) pa_nil))))))), ?_⟩
    refine ⟨_, rfl, p, _, dx, _, _, rfl, hp, T.cl, T.nF _ (by simp), rfl, _, rfl, p, _, dx, _, _, rfl, hp, T.cl, T.nF _ (by simp), rfl, _, rfl, p, _, dx, _, _, rfl, hp, T.cl, T.nF _ (by simp), rfl, _, rfl, p, _, dx, _, _, rfl, hp, T.cl, T.nF _ (by simp), rfl, (by show 5 ≤ sizeLine; decide), fun q hq => k q hq⟩
abbrev sISpend : Stmt := inClass (top 19) 0
abbrev sTSpend : Stmt := inClass (top 19) 1
theorem scISpend : FnScope ["self", "head", "coins", "note"] ["self", "head", "coins", "note"] (defScope sISpend) := ⟨rfl, rfl, rfl, by decide +kernel, rfl, by decide +kernel, by decide +kernel⟩
theorem scTSpend : FnScope ["self"] ["self"] (defScope sTSpend) := ⟨rfl, rfl, rfl, by decide +kernel, rfl, by decide +kernel, by decide +kernel⟩
theorem i_spend {C : Nat → Addr} (B : Base K mg) (Wh : Cal P w K mg base 1 "is_whole" spWhole) (Ck : Cal P w K mg base 3 "check_fields" spCheck) (T : ClsT K mg "Spend" "Spend.__init__" "Spend.told" (C 3) sISpend sTSpend ["self", "head", "coins", "note"] ["head", "coins", "note"]) : MakT P w K mg base 4 "Spend" (C 3) (spInit C 3) := by
  obtain ⟨f, fd, M, F, b⟩ := T.init
  obtain ⟨tLU, hLU⟩ := B.leastU
  obtain ⟨tMU, hMU⟩ := B.mostU
  refine ⟨f, fd, _, M, F.ok scISpend (fun vs H Q E h => ?_) (fun cdv A outer s H vs Q E hr h => ?_), T.mgC, b⟩
  · obtain ⟨p, dx, e, rfl, hk, _⟩ := h
    cases e <;> first | rfl | (cases hk; done)
  · obtain ⟨p, dx, e, rfl, hk, hok, hp, k⟩ := h
    cases e <;> first | (cases hk; done) | skip
    rename_i x0 x1 x2
    obtain ⟨hw1, hc, hn⟩ := hok
    refine ⟨_, pss_cons (ps_expr (pe_cl Ck hr (by decide) (by rfl) (pa_cons (pe_lst (pa_cons (pv 1) pa_nil)) (pa_cons (pv 2) (pa_cons (pv 3) pa_nil)))))
      (pss_cons (ps_fld (pv 0) (pv 1) rfl)
      (pss_cons (ps_fld (pv 0) (pv 2) rfl)
      (pss_one (ps_fld (pv 0) (pv 3) rfl)))), ?_⟩
    refine ⟨_, rfl, (by show 1 ≤ sizeLine; decide), fun l hl => ⟨_, rfl, _, rfl, l, [x0], _, _, rfl, upd_same, (by intro z hz; simp at hz; subst hz; exact hw1), (by simp), hc.1, hc.2, hn, fun H1 s1 => ?_⟩⟩
    have pl : p ≠ l := ne_of_none hp hl
    have hp1 : H1 p = some (.ins (C 3) dx []) := s1 _ _ (by rw [upd_ne pl]; exact hp)
    have e12 : ("head" : Str) ≠ "coins" := by decide +kernel
    have e13 : ("head" : Str) ≠ "note" := by decide +kernel
    have e23 : ("coins" : Str) ≠ "note" := by decide +kernel
    refine ⟨_, rfl, _, rfl, p, _, dx, _, rfl, hp1, T.cl, T.nF _ (by simp), (by show 0 < 1000; decide), _, rfl, _, rfl, p, _, dx, _, rfl, upd_same, T.cl, T.nF _ (by simp), (by show 1 < 1000; decide), _, rfl, _, rfl, p, _, dx, _, rfl, upd_same, T.cl, T.nF _ (by simp), (by rw [put1, put2 e12]; show 2 < 1000; decide), ?_⟩
    refine k _ (by rw [upd_same, put1, put2 e12, put3 e13 e23]; rfl) fun b o e hb => ?_
    rw [upd_ne hb, upd_ne hb, upd_ne hb]
    exact s1 _ _ (by rw [upd_ne (ne_of_none e hl)]; exact e)
theorem t_spend {C : Nat → Addr} (T : ClsT K mg "Spend" "Spend.__init__" "Spend.told" (C 3) sISpend sTSpend ["self", "head", "coins", "note"] ["head", "coins", "note"]) : MetT P w K mg base 1 (C 3) "told" (spTold C 3) := by
  obtain ⟨f, fd, M, F, b⟩ := T.told
  refine ⟨f, fd, _, T.cl, M, F.ok scTSpend (fun vs H Q E h => ?_) (fun cdv A outer s H vs Q E hr h => ?_), b⟩
  · obtain ⟨p, e, rfl, _⟩ := h
    rfl
  · obtain ⟨p, e, rfl, hk, ⟨dx, hp⟩, k⟩ := h
    cases e <;> first | (cases hk; done) | skip
    rename_i x0 x1 x2
    refine ⟨_, pss_one (ps_ret (pe_tup (pa_cons pe_str (pa_cons (pe_fld (pv 0) rfl) (pa_cons (pe_fld (pv 0) rfl) (pa_cons (pe_fld (pv 0) rfl) pa_nil)))))), ?_⟩
    refine ⟨_, rfl, p, _, dx, _, _, rfl, hp, T.cl, T.nF _ (by simp), rfl, _, rfl, p, _, dx, _, _, rfl, hp, T.cl, T.nF _ (by simp), rfl, _, rfl, p, _, dx, _, _, rfl, hp, T.cl, T.nF _ (by simp), rfl, (by show 4 ≤ sizeLine; decide), fun q hq => k q hq⟩
abbrev sIPromise : Stmt := inClass (top 20) 0
abbrev sTPromise : Stmt := inClass (top 20) 1
theorem scIPromise : FnScope ["self", "word", "head", "coins", "note"] ["self", "word", "head", "coins", "note"] (defScope sIPromise) := ⟨rfl, rfl, rfl, by decide +kernel, rfl, by decide +kernel, by decide +kernel⟩
theorem scTPromise : FnScope ["self"] ["self"] (defScope sTPromise) := ⟨rfl, rfl, rfl, by decide +kernel, rfl, by decide +kernel, by decide +kernel⟩
theorem i_promise {C : Nat → Addr} (B : Base K mg) (Wh : Cal P w K mg base 1 "is_whole" spWhole) (Ck : Cal P w K mg base 3 "check_fields" spCheck) (T : ClsT K mg "Promise" "Promise.__init__" "Promise.told" (C 4) sIPromise sTPromise ["self", "word", "head", "coins", "note"] ["word", "head", "coins", "note"]) : MakT P w K mg base 4 "Promise" (C 4) (spInit C 4) := by
  obtain ⟨f, fd, M, F, b⟩ := T.init
  obtain ⟨tLU, hLU⟩ := B.leastU
  obtain ⟨tMU, hMU⟩ := B.mostU
  refine ⟨f, fd, _, M, F.ok scIPromise (fun vs H Q E h => ?_) (fun cdv A outer s H vs Q E hr h => ?_), T.mgC, b⟩
  · obtain ⟨p, dx, e, rfl, hk, _⟩ := h
    cases e <;> first | rfl | (cases hk; done)
  · obtain ⟨p, dx, e, rfl, hk, hok, hp, k⟩ := h
    cases e <;> first | (cases hk; done) | skip
    rename_i x0 x1 x2 x3
    obtain ⟨hw1, hw2, hc, hn⟩ := hok
    refine ⟨_, pss_cons (ps_expr (pe_cl Ck hr (by decide) (by rfl) (pa_cons (pe_lst (pa_cons (pv 1) (pa_cons (pv 2) pa_nil))) (pa_cons (pv 3) (pa_cons (pv 4) pa_nil)))))
      (pss_cons (ps_fld (pv 0) (pv 1) rfl)
      (pss_cons (ps_fld (pv 0) (pv 2) rfl)
      (pss_cons (ps_fld (pv 0) (pv 3) rfl)
      (pss_one (ps_fld (pv 0) (pv 4) rfl))))), ?_⟩
    refine ⟨_, rfl, _, rfl, (by show 2 ≤ sizeLine; decide), fun l hl => ⟨_, rfl, _, rfl, l, [x0, x1], _, _, rfl, upd_same, (by intro z hz; simp at hz; rcases hz with rfl | rfl; exact hw1; exact hw2), (by simp), hc.1, hc.2, hn, fun H1 s1 => ?_⟩⟩
    have pl : p ≠ l := ne_of_none hp hl
    have hp1 : H1 p = some (.ins (C 4) dx []) := s1 _ _ (by rw [upd_ne pl]; exact hp)
    have e12 : ("word" : Str) ≠ "head" := by decide +kernel
    have e13 : ("word" : Str) ≠ "coins" := by decide +kernel
    have e14 : ("word" : Str) ≠ "note" := by decide +kernel
    have e23 : ("head" : Str) ≠ "coins" := by decide +kernel
    have e24 : ("head" : Str) ≠ "note" := by decide +kernel
    have e34 : ("coins" : Str) ≠ "note" := by decide +kernel
    refine ⟨_, rfl, _, rfl, p, _, dx, _, rfl, hp1, T.cl, T.nF _ (by simp), (by show 0 < 1000; decide), _, rfl, _, rfl, p, _, dx, _, rfl, upd_same, T.cl, T.nF _ (by simp), (by show 1 < 1000; decide), _, rfl, _, rfl, p, _, dx, _, rfl, upd_same, T.cl, T.nF _ (by simp), (by rw [put1, put2 e12]; show 2 < 1000; decide), _, rfl, _, rfl, p, _, dx, _, rfl, upd_same, T.cl, T.nF _ (by simp), (by rw [put1, put2 e12, put3 e13 e23]; show 3 < 1000; decide), ?_⟩
    refine k _ (by rw [upd_same, put1, put2 e12, put3 e13 e23, put4 e14 e24 e34]; rfl) fun b o e hb => ?_
    rw [upd_ne hb, upd_ne hb, upd_ne hb, upd_ne hb]
    exact s1 _ _ (by rw [upd_ne (ne_of_none e hl)]; exact e)
theorem t_promise {C : Nat → Addr} (T : ClsT K mg "Promise" "Promise.__init__" "Promise.told" (C 4) sIPromise sTPromise ["self", "word", "head", "coins", "note"] ["word", "head", "coins", "note"]) : MetT P w K mg base 1 (C 4) "told" (spTold C 4) := by
  obtain ⟨f, fd, M, F, b⟩ := T.told
  refine ⟨f, fd, _, T.cl, M, F.ok scTPromise (fun vs H Q E h => ?_) (fun cdv A outer s H vs Q E hr h => ?_), b⟩
  · obtain ⟨p, e, rfl, _⟩ := h
    rfl
  · obtain ⟨p, e, rfl, hk, ⟨dx, hp⟩, k⟩ := h
    cases e <;> first | (cases hk; done) | skip
    rename_i x0 x1 x2 x3
    refine ⟨_, pss_one (ps_ret (pe_tup (pa_cons pe_str (pa_cons (pe_fld (pv 0) rfl) (pa_cons (pe_fld (pv 0) rfl) (pa_cons (pe_fld (pv 0) rfl) (pa_cons (pe_fld (pv 0) rfl) pa_nil))))))), ?_⟩
    refine ⟨_, rfl, p, _, dx, _, _, rfl, hp, T.cl, T.nF _ (by simp), rfl, _, rfl, p, _, dx, _, _, rfl, hp, T.cl, T.nF _ (by simp), rfl, _, rfl, p, _, dx, _, _, rfl, hp, T.cl, T.nF _ (by simp), rfl, _, rfl, p, _, dx, _, _, rfl, hp, T.cl, T.nF _ (by simp), rfl, (by show 5 ≤ sizeLine; decide), fun q hq => k q hq⟩
abbrev sILessen : Stmt := inClass (top 21) 0
abbrev sTLessen : Stmt := inClass (top 21) 1
theorem scILessen : FnScope ["self", "word", "coins", "note"] ["self", "word", "coins", "note"] (defScope sILessen) := ⟨rfl, rfl, rfl, by decide +kernel, rfl, by decide +kernel, by decide +kernel⟩
theorem scTLessen : FnScope ["self"] ["self"] (defScope sTLessen) := ⟨rfl, rfl, rfl, by decide +kernel, rfl, by decide +kernel, by decide +kernel⟩
theorem i_lessen {C : Nat → Addr} (B : Base K mg) (Wh : Cal P w K mg base 1 "is_whole" spWhole) (Ck : Cal P w K mg base 3 "check_fields" spCheck) (T : ClsT K mg "Lessen" "Lessen.__init__" "Lessen.told" (C 5) sILessen sTLessen ["self", "word", "coins", "note"] ["word", "coins", "note"]) : MakT P w K mg base 4 "Lessen" (C 5) (spInit C 5) := by
  obtain ⟨f, fd, M, F, b⟩ := T.init
  obtain ⟨tLU, hLU⟩ := B.leastU
  obtain ⟨tMU, hMU⟩ := B.mostU
  refine ⟨f, fd, _, M, F.ok scILessen (fun vs H Q E h => ?_) (fun cdv A outer s H vs Q E hr h => ?_), T.mgC, b⟩
  · obtain ⟨p, dx, e, rfl, hk, _⟩ := h
    cases e <;> first | rfl | (cases hk; done)
  · obtain ⟨p, dx, e, rfl, hk, hok, hp, k⟩ := h
    cases e <;> first | (cases hk; done) | skip
    rename_i x0 x1 x2
    obtain ⟨hw1, hc, hn⟩ := hok
    refine ⟨_, pss_cons (ps_expr (pe_cl Ck hr (by decide) (by rfl) (pa_cons (pe_lst (pa_cons (pv 1) pa_nil)) (pa_cons (pv 2) (pa_cons (pv 3) pa_nil)))))
      (pss_cons (ps_fld (pv 0) (pv 1) rfl)
      (pss_cons (ps_fld (pv 0) (pv 2) rfl)
      (pss_one (ps_fld (pv 0) (pv 3) rfl)))), ?_⟩
    refine ⟨_, rfl, (by show 1 ≤ sizeLine; decide), fun l hl => ⟨_, rfl, _, rfl, l, [x0], _, _, rfl, upd_same, (by intro z hz; simp at hz; subst hz; exact hw1), (by simp), hc.1, hc.2, hn, fun H1 s1 => ?_⟩⟩
    have pl : p ≠ l := ne_of_none hp hl
    have hp1 : H1 p = some (.ins (C 5) dx []) := s1 _ _ (by rw [upd_ne pl]; exact hp)
    have e12 : ("word" : Str) ≠ "coins" := by decide +kernel
    have e13 : ("word" : Str) ≠ "note" := by decide +kernel
    have e23 : ("coins" : Str) ≠ "note" := by decide +kernel
    refine ⟨_, rfl, _, rfl, p, _, dx, _, rfl, hp1, T.cl, T.nF _ (by simp), (by show 0 < 1000; decide), _, rfl, _, rfl, p, _, dx, _, rfl, upd_same, T.cl, T.nF _ (by simp), (by show 1 < 1000; decide), _, rfl, _, rfl, p, _, dx, _, rfl, upd_same, T.cl, T.nF _ (by simp), (by rw [put1, put2 e12]; show 2 < 1000; decide), ?_⟩
    refine k _ (by rw [upd_same, put1, put2 e12, put3 e13 e23]; rfl) fun b o e hb => ?_
    rw [upd_ne hb, upd_ne hb, upd_ne hb]
    exact s1 _ _ (by rw [upd_ne (ne_of_none e hl)]; exact e)
theorem t_lessen {C : Nat → Addr} (T : ClsT K mg "Lessen" "Lessen.__init__" "Lessen.told" (C 5) sILessen sTLessen ["self", "word", "coins", "note"] ["word", "coins", "note"]) : MetT P w K mg base 1 (C 5) "told" (spTold C 5) := by
  obtain ⟨f, fd, M, F, b⟩ := T.told
  refine ⟨f, fd, _, T.cl, M, F.ok scTLessen (fun vs H Q E h => ?_) (fun cdv A outer s H vs Q E hr h => ?_), b⟩
  · obtain ⟨p, e, rfl, _⟩ := h
    rfl
  · obtain ⟨p, e, rfl, hk, ⟨dx, hp⟩, k⟩ := h
    cases e <;> first | (cases hk; done) | skip
    rename_i x0 x1 x2
    refine ⟨_, pss_one (ps_ret (pe_tup (pa_cons pe_str (pa_cons (pe_fld (pv 0) rfl) (pa_cons (pe_fld (pv 0) rfl) (pa_cons (pe_fld (pv 0) rfl) pa_nil)))))), ?_⟩
    refine ⟨_, rfl, p, _, dx, _, _, rfl, hp, T.cl, T.nF _ (by simp), rfl, _, rfl, p, _, dx, _, _, rfl, hp, T.cl, T.nF _ (by simp), rfl, _, rfl, p, _, dx, _, _, rfl, hp, T.cl, T.nF _ (by simp), rfl, (by show 4 ≤ sizeLine; decide), fun q hq => k q hq⟩
abbrev sIOut : Stmt := inClass (top 22) 0
abbrev sTOut : Stmt := inClass (top 22) 1
theorem scIOut : FnScope ["self", "word", "coins", "note"] ["self", "word", "coins", "note"] (defScope sIOut) := ⟨rfl, rfl, rfl, by decide +kernel, rfl, by decide +kernel, by decide +kernel⟩
theorem scTOut : FnScope ["self"] ["self"] (defScope sTOut) := ⟨rfl, rfl, rfl, by decide +kernel, rfl, by decide +kernel, by decide +kernel⟩
theorem i_out {C : Nat → Addr} (B : Base K mg) (Wh : Cal P w K mg base 1 "is_whole" spWhole) (Ck : Cal P w K mg base 3 "check_fields" spCheck) (T : ClsT K mg "Out" "Out.__init__" "Out.told" (C 6) sIOut sTOut ["self", "word", "coins", "note"] ["word", "coins", "note"]) : MakT P w K mg base 4 "Out" (C 6) (spInit C 6) := by
  obtain ⟨f, fd, M, F, b⟩ := T.init
  obtain ⟨tLU, hLU⟩ := B.leastU
  obtain ⟨tMU, hMU⟩ := B.mostU
  refine ⟨f, fd, _, M, F.ok scIOut (fun vs H Q E h => ?_) (fun cdv A outer s H vs Q E hr h => ?_), T.mgC, b⟩
  · obtain ⟨p, dx, e, rfl, hk, _⟩ := h
    cases e <;> first | rfl | (cases hk; done)
  · obtain ⟨p, dx, e, rfl, hk, hok, hp, k⟩ := h
    cases e <;> first | (cases hk; done) | skip
    rename_i x0 x1 x2
    obtain ⟨hw1, hc, hn⟩ := hok
    refine ⟨_, pss_cons (ps_expr (pe_cl Ck hr (by decide) (by rfl) (pa_cons (pe_lst (pa_cons (pv 1) pa_nil)) (pa_cons (pv 2) (pa_cons (pv 3) pa_nil)))))
      (pss_cons (ps_fld (pv 0) (pv 1) rfl)
      (pss_cons (ps_fld (pv 0) (pv 2) rfl)
      (pss_one (ps_fld (pv 0) (pv 3) rfl)))), ?_⟩
    refine ⟨_, rfl, (by show 1 ≤ sizeLine; decide), fun l hl => ⟨_, rfl, _, rfl, l, [x0], _, _, rfl, upd_same, (by intro z hz; simp at hz; subst hz; exact hw1), (by simp), hc.1, hc.2, hn, fun H1 s1 => ?_⟩⟩
    have pl : p ≠ l := ne_of_none hp hl
    have hp1 : H1 p = some (.ins (C 6) dx []) := s1 _ _ (by rw [upd_ne pl]; exact hp)
    have e12 : ("word" : Str) ≠ "coins" := by decide +kernel
    have e13 : ("word" : Str) ≠ "note" := by decide +kernel
    have e23 : ("coins" : Str) ≠ "note" := by decide +kernel
    refine ⟨_, rfl, _, rfl, p, _, dx, _, rfl, hp1, T.cl, T.nF _ (by simp), (by show 0 < 1000; decide), _, rfl, _, rfl, p, _, dx, _, rfl, upd_same, T.cl, T.nF _ (by simp), (by show 1 < 1000; decide), _, rfl, _, rfl, p, _, dx, _, rfl, upd_same, T.cl, T.nF _ (by simp), (by rw [put1, put2 e12]; show 2 < 1000; decide), ?_⟩
    refine k _ (by rw [upd_same, put1, put2 e12, put3 e13 e23]; rfl) fun b o e hb => ?_
    rw [upd_ne hb, upd_ne hb, upd_ne hb]
    exact s1 _ _ (by rw [upd_ne (ne_of_none e hl)]; exact e)
theorem t_out {C : Nat → Addr} (T : ClsT K mg "Out" "Out.__init__" "Out.told" (C 6) sIOut sTOut ["self", "word", "coins", "note"] ["word", "coins", "note"]) : MetT P w K mg base 1 (C 6) "told" (spTold C 6) := by
  obtain ⟨f, fd, M, F, b⟩ := T.told
  refine ⟨f, fd, _, T.cl, M, F.ok scTOut (fun vs H Q E h => ?_) (fun cdv A outer s H vs Q E hr h => ?_), b⟩
  · obtain ⟨p, e, rfl, _⟩ := h
    rfl
  · obtain ⟨p, e, rfl, hk, ⟨dx, hp⟩, k⟩ := h
    cases e <;> first | (cases hk; done) | skip
    rename_i x0 x1 x2
    refine ⟨_, pss_one (ps_ret (pe_tup (pa_cons pe_str (pa_cons (pe_fld (pv 0) rfl) (pa_cons (pe_fld (pv 0) rfl) (pa_cons (pe_fld (pv 0) rfl) pa_nil)))))), ?_⟩
    refine ⟨_, rfl, p, _, dx, _, _, rfl, hp, T.cl, T.nF _ (by simp), rfl, _, rfl, p, _, dx, _, _, rfl, hp, T.cl, T.nF _ (by simp), rfl, _, rfl, p, _, dx, _, _, rfl, hp, T.cl, T.nF _ (by simp), rfl, (by show 4 ≤ sizeLine; decide), fun q hq => k q hq⟩
end
end KP
namespace KP
open PySem L2 KM
theorem ifT {c A B : Prop} [Decidable c] (h : c) (ha : A) : if c then A else B := by
  rw [if_pos h]
  exact ha
theorem ifF {c A B : Prop} [Decidable c] (h : ¬ c) (hb : B) : if c then A else B := by
  rw [if_neg h]
  exact hb
/-- all seven classes, as they are made and told -/
structure All7 (P : Program) (w : World) (K : PySem.W.Frag) (mg : Str → Option Value) (base : Heap) (C : Nat → Addr) : Prop where
  i0 : MakT P w K mg base 4 "Give" (C 0) (spInit C 0)
  t0 : MetT P w K mg base 1 (C 0) "told" (spTold C 0)
  i1 : MakT P w K mg base 4 "Hold" (C 1) (spInit C 1)
  t1 : MetT P w K mg base 1 (C 1) "told" (spTold C 1)
  i2 : MakT P w K mg base 4 "Move" (C 2) (spInit C 2)
  t2 : MetT P w K mg base 1 (C 2) "told" (spTold C 2)
  i3 : MakT P w K mg base 4 "Spend" (C 3) (spInit C 3)
  t3 : MetT P w K mg base 1 (C 3) "told" (spTold C 3)
  i4 : MakT P w K mg base 4 "Promise" (C 4) (spInit C 4)
  t4 : MetT P w K mg base 1 (C 4) "told" (spTold C 4)
  i5 : MakT P w K mg base 4 "Lessen" (C 5) (spInit C 5)
  t5 : MetT P w K mg base 1 (C 5) "told" (spTold C 5)
  i6 : MakT P w K mg base 4 "Out" (C 6) (spInit C 6)
  t6 : MetT P w K mg base 1 (C 6) "told" (spTold C 6)
/-- of a tuple that tells e: a new entry, e -/
def spMade (C : Nat → Addr) : Sp := fun vs H Q _ => ∃ (t : Addr) (e : En), vs = [.ref t] ∧ H t = some (.tup e.tup) ∧ e.ok ∧ ∀ p H', Same H H' → H p = none → EntAt C H' p e → Q (.ref p) H'
abbrev sRead : Stmt := top 23
section
variable {P : Program} {w : World} {K : PySem.W.Frag} {mg : Str → Option Value} {base : Heap}
theorem scRead : FnScope ["told", "head", "coins", "note", "until", "other", "word"] ["told"] (defScope sRead) := ⟨rfl, rfl, rfl, by decide +kernel, rfl, by decide +kernel, by decide +kernel⟩
theorem c_read {C : Nat → Addr} (B : Base K mg) (S : All7 P w K mg base C) (D : DefT K mg "read_entry" sRead ["told"]) : Cal P w K mg base 6 "read_entry" (spMade C) := by
  refine cal D scRead (fun vs H Q E h => ?_) (fun f cdv A outer s H vs Q E hr h => ?_)
  · obtain ⟨t, e, rfl, _⟩ := h
    rfl
  · obtain ⟨t, e, rfl, ht, hok, k⟩ := h
    refine ⟨_, pss_cons (ps_if (pt_not (pt_val (pe_callB call_isi (by rfl) B.isi (by decide +kernel) (pa_cons (pv 0) (pa_cons (pe_bltn (v := .ty "tuple") (by rfl) B.tuple (by decide +kernel) rfl) pa_nil))))) (pss_one ps_never) pss_nil)
      (pss_cons (ps_match (pv 0)
        (pm_case rfl op_eq (caps_cons (caps_cons (caps_cons caps_nil))) (stores_cons (i := 1) scRead.nd (stores_cons (i := 2) scRead.nd (stores_cons (i := 3) scRead.nd stores_nil rfl (Or.inl rfl)) rfl (Or.inl rfl)) rfl (Or.inl rfl)) (pss_one (ps_ret (pe_mkT S.i0 hr (by decide) (by rfl) (pa_cons (pv 1) (pa_cons (pv 2) (pa_cons (pv 3) pa_nil))))))
        (pm_case rfl op_eq (caps_cons (caps_cons (caps_cons (caps_cons caps_nil)))) (stores_cons (i := 1) scRead.nd (stores_cons (i := 2) scRead.nd (stores_cons (i := 4) scRead.nd (stores_cons (i := 3) scRead.nd stores_nil rfl (Or.inl rfl)) rfl (Or.inl rfl)) rfl (Or.inl rfl)) rfl (Or.inl rfl)) (pss_one (ps_ret (pe_mkT S.i1 hr (by decide) (by rfl) (pa_cons (pv 1) (pa_cons (pv 2) (pa_cons (pv 4) (pa_cons (pv 3) pa_nil)))))))
        (pm_case rfl op_eq (caps_cons (caps_cons (caps_cons (caps_cons caps_nil)))) (stores_cons (i := 1) scRead.nd (stores_cons (i := 5) scRead.nd (stores_cons (i := 2) scRead.nd (stores_cons (i := 3) scRead.nd stores_nil rfl (Or.inl rfl)) rfl (Or.inl rfl)) rfl (Or.inl rfl)) rfl (Or.inl rfl)) (pss_one (ps_ret (pe_mkT S.i2 hr (by decide) (by rfl) (pa_cons (pv 1) (pa_cons (pv 5) (pa_cons (pv 2) (pa_cons (pv 3) pa_nil)))))))
        (pm_case rfl op_eq (caps_cons (caps_cons (caps_cons caps_nil))) (stores_cons (i := 1) scRead.nd (stores_cons (i := 2) scRead.nd (stores_cons (i := 3) scRead.nd stores_nil rfl (Or.inl rfl)) rfl (Or.inl rfl)) rfl (Or.inl rfl)) (pss_one (ps_ret (pe_mkT S.i3 hr (by decide) (by rfl) (pa_cons (pv 1) (pa_cons (pv 2) (pa_cons (pv 3) pa_nil))))))
        (pm_case rfl op_eq (caps_cons (caps_cons (caps_cons (caps_cons caps_nil)))) (stores_cons (i := 6) scRead.nd (stores_cons (i := 1) scRead.nd (stores_cons (i := 2) scRead.nd (stores_cons (i := 3) scRead.nd stores_nil rfl (Or.inl rfl)) rfl (Or.inl rfl)) rfl (Or.inl rfl)) rfl (Or.inl rfl)) (pss_one (ps_ret (pe_mkT S.i4 hr (by decide) (by rfl) (pa_cons (pv 6) (pa_cons (pv 1) (pa_cons (pv 2) (pa_cons (pv 3) pa_nil)))))))
        (pm_case rfl op_eq (caps_cons (caps_cons (caps_cons caps_nil))) (stores_cons (i := 6) scRead.nd (stores_cons (i := 2) scRead.nd (stores_cons (i := 3) scRead.nd stores_nil rfl (Or.inl rfl)) rfl (Or.inl rfl)) rfl (Or.inl rfl)) (pss_one (ps_ret (pe_mkT S.i5 hr (by decide) (by rfl) (pa_cons (pv 6) (pa_cons (pv 2) (pa_cons (pv 3) pa_nil))))))
        (pm_case rfl op_eq (caps_cons (caps_cons (caps_cons caps_nil))) (stores_cons (i := 6) scRead.nd (stores_cons (i := 2) scRead.nd (stores_cons (i := 3) scRead.nd stores_nil rfl (Or.inl rfl)) rfl (Or.inl rfl)) rfl (Or.inl rfl)) (pss_one (ps_ret (pe_mkT S.i6 hr (by decide) (by rfl) (pa_cons (pv 6) (pa_cons (pv 2) (pa_cons (pv 3) pa_nil))))))
        pm_nil))))))))
      (pss_one ps_never)), ?_⟩
    refine ⟨_, rfl, _, _, _, _, true, rfl, .ty _, .base (.tup ht), kit_ty (by decide +kernel), _, rfl, iteF ?_⟩
    refine ⟨_, rfl, ?_⟩
    cases e with
    | give x0 x1 x2 =>
      refine ⟨t, _, rfl, SqT.of ht, Or.inr ⟨rfl, _, _, rfl, rfl, _, rfl, ifT (decide_eq_true rfl) ?_⟩⟩
      refine ⟨_, rfl, _, rfl, _, rfl, fun x dx nx ndx nex => ⟨x, dx, .give x0 x1 x2, rfl, rfl, hok, upd_same, fun H1 h1 k1 => ⟨rfl, ?_⟩⟩⟩
      exact k x H1 (Same.made nx ndx k1) nx ⟨dx, h1⟩
    | hold x0 x1 x2 x3 =>
      refine ⟨t, _, rfl, SqT.of ht, Or.inl ⟨(by show 5 ≠ 4; decide), ?_⟩⟩
      refine ⟨t, _, rfl, SqT.of ht, Or.inr ⟨rfl, _, _, rfl, rfl, _, rfl, ifT (decide_eq_true rfl) ?_⟩⟩
      refine ⟨_, rfl, _, rfl, _, rfl, _, rfl, fun x dx nx ndx nex => ⟨x, dx, .hold x0 x1 x2 x3, rfl, rfl, hok, upd_same, fun H1 h1 k1 => ⟨rfl, ?_⟩⟩⟩
      exact k x H1 (Same.made nx ndx k1) nx ⟨dx, h1⟩
    | move x0 x1 x2 x3 =>
      refine ⟨t, _, rfl, SqT.of ht, Or.inl ⟨(by show 5 ≠ 4; decide), ?_⟩⟩
      refine ⟨t, _, rfl, SqT.of ht, Or.inr ⟨rfl, _, _, rfl, rfl, _, rfl, ifF (show ¬ decide (V.str "move" = V.str "hold") = true by decide +kernel) ?_⟩⟩
      refine ⟨t, _, rfl, SqT.of ht, Or.inr ⟨rfl, _, _, rfl, rfl, _, rfl, ifT (decide_eq_true rfl) ?_⟩⟩
      refine ⟨_, rfl, _, rfl, _, rfl, _, rfl, fun x dx nx ndx nex => ⟨x, dx, .move x0 x1 x2 x3, rfl, rfl, hok, upd_same, fun H1 h1 k1 => ⟨rfl, ?_⟩⟩⟩
      exact k x H1 (Same.made nx ndx k1) nx ⟨dx, h1⟩
    | spend x0 x1 x2 =>
      refine ⟨t, _, rfl, SqT.of ht, Or.inr ⟨rfl, _, _, rfl, rfl, _, rfl, ifF (show ¬ decide (V.str "spend" = V.str "give") = true by decide +kernel) ?_⟩⟩
      refine ⟨t, _, rfl, SqT.of ht, Or.inl ⟨(by show 4 ≠ 5; decide), ?_⟩⟩
      refine ⟨t, _, rfl, SqT.of ht, Or.inl ⟨(by show 4 ≠ 5; decide), ?_⟩⟩
      refine ⟨t, _, rfl, SqT.of ht, Or.inr ⟨rfl, _, _, rfl, rfl, _, rfl, ifT (decide_eq_true rfl) ?_⟩⟩
      refine ⟨_, rfl, _, rfl, _, rfl, fun x dx nx ndx nex => ⟨x, dx, .spend x0 x1 x2, rfl, rfl, hok, upd_same, fun H1 h1 k1 => ⟨rfl, ?_⟩⟩⟩
      exact k x H1 (Same.made nx ndx k1) nx ⟨dx, h1⟩
    | promise x0 x1 x2 x3 =>
      refine ⟨t, _, rfl, SqT.of ht, Or.inl ⟨(by show 5 ≠ 4; decide), ?_⟩⟩
      refine ⟨t, _, rfl, SqT.of ht, Or.inr ⟨rfl, _, _, rfl, rfl, _, rfl, ifF (show ¬ decide (V.str "promise" = V.str "hold") = true by decide +kernel) ?_⟩⟩
      refine ⟨t, _, rfl, SqT.of ht, Or.inr ⟨rfl, _, _, rfl, rfl, _, rfl, ifF (show ¬ decide (V.str "promise" = V.str "move") = true by decide +kernel) ?_⟩⟩
      refine ⟨t, _, rfl, SqT.of ht, Or.inl ⟨(by show 5 ≠ 4; decide), ?_⟩⟩
      refine ⟨t, _, rfl, SqT.of ht, Or.inr ⟨rfl, _, _, rfl, rfl, _, rfl, ifT (decide_eq_true rfl) ?_⟩⟩
      refine ⟨_, rfl, _, rfl, _, rfl, _, rfl, fun x dx nx ndx nex => ⟨x, dx, .promise x0 x1 x2 x3, rfl, rfl, hok, upd_same, fun H1 h1 k1 => ⟨rfl, ?_⟩⟩⟩
      exact k x H1 (Same.made nx ndx k1) nx ⟨dx, h1⟩
    | lessen x0 x1 x2 =>
      refine ⟨t, _, rfl, SqT.of ht, Or.inr ⟨rfl, _, _, rfl, rfl, _, rfl, ifF (show ¬ decide (V.str "lessen" = V.str "give") = true by decide +kernel) ?_⟩⟩
      refine ⟨t, _, rfl, SqT.of ht, Or.inl ⟨(by show 4 ≠ 5; decide), ?_⟩⟩
      refine ⟨t, _, rfl, SqT.of ht, Or.inl ⟨(by show 4 ≠ 5; decide), ?_⟩⟩
      refine ⟨t, _, rfl, SqT.of ht, Or.inr ⟨rfl, _, _, rfl, rfl, _, rfl, ifF (show ¬ decide (V.str "lessen" = V.str "spend") = true by decide +kernel) ?_⟩⟩
      refine ⟨t, _, rfl, SqT.of ht, Or.inl ⟨(by show 4 ≠ 5; decide), ?_⟩⟩
      refine ⟨t, _, rfl, SqT.of ht, Or.inr ⟨rfl, _, _, rfl, rfl, _, rfl, ifT (decide_eq_true rfl) ?_⟩⟩
      refine ⟨_, rfl, _, rfl, _, rfl, fun x dx nx ndx nex => ⟨x, dx, .lessen x0 x1 x2, rfl, rfl, hok, upd_same, fun H1 h1 k1 => ⟨rfl, ?_⟩⟩⟩
      exact k x H1 (Same.made nx ndx k1) nx ⟨dx, h1⟩
    | out x0 x1 x2 =>
      refine ⟨t, _, rfl, SqT.of ht, Or.inr ⟨rfl, _, _, rfl, rfl, _, rfl, ifF (show ¬ decide (V.str "out" = V.str "give") = true by decide +kernel) ?_⟩⟩
      refine ⟨t, _, rfl, SqT.of ht, Or.inl ⟨(by show 4 ≠ 5; decide), ?_⟩⟩
      refine ⟨t, _, rfl, SqT.of ht, Or.inl ⟨(by show 4 ≠ 5; decide), ?_⟩⟩
      refine ⟨t, _, rfl, SqT.of ht, Or.inr ⟨rfl, _, _, rfl, rfl, _, rfl, ifF (show ¬ decide (V.str "out" = V.str "spend") = true by decide +kernel) ?_⟩⟩
      refine ⟨t, _, rfl, SqT.of ht, Or.inl ⟨(by show 4 ≠ 5; decide), ?_⟩⟩
      refine ⟨t, _, rfl, SqT.of ht, Or.inr ⟨rfl, _, _, rfl, rfl, _, rfl, ifF (show ¬ decide (V.str "out" = V.str "lessen") = true by decide +kernel) ?_⟩⟩
      refine ⟨t, _, rfl, SqT.of ht, Or.inr ⟨rfl, _, _, rfl, rfl, _, rfl, ifT (decide_eq_true rfl) ?_⟩⟩
      refine ⟨_, rfl, _, rfl, _, rfl, fun x dx nx ndx nex => ⟨x, dx, .out x0 x1 x2, rfl, rfl, hok, upd_same, fun H1 h1 k1 => ⟨rfl, ?_⟩⟩⟩
      exact k x H1 (Same.made nx ndx k1) nx ⟨dx, h1⟩
end
end KP
namespace KP
open PySem L2 KM
/-! ### numbers drawn -/
def WellAt (H : Hp) (a : Addr) : Prop := ∃ x y z : Int, H a = some (.lst [.int x, .int y, .int z])
/-- all but a is as it was -/
def SameB (a : Addr) (H H' : Hp) : Prop := ∀ b o, H b = some o → b ≠ a → H' b = some o
theorem SameB.trans {a : Addr} {H H1 H2 : Hp} (p : SameB a H H1) (q : SameB a H1 H2) : SameB a H H2 := fun b o e hb => q b o (p b o e hb) hb
theorem SameB.refl {a : Addr} {H : Hp} : SameB a H H := fun _ _ e _ => e
theorem SameB.of {a : Addr} {H H' : Hp} (s : Same H H') : SameB a H H' := fun b o e _ => s b o e
theorem SameB.newD {a D : Addr} {H H1 H2 : Hp} {o : HO} (hD : H D = none) (p : SameB a H H1) : SameB a H (upd H1 D o) := fun b u e hb => by
  rw [upd_ne (ne_of_none e hD)]
  exact p b u e hb
theorem WellAt.up {H : Hp} {a D : Addr} {o : HO} (h : WellAt H a) (hn : a ≠ D) : WellAt (upd H D o) a := by
  obtain ⟨x, y, z, e⟩ := h
  exact ⟨x, y, z, by rw [upd_ne hn]; exact e⟩
theorem WellAt.new {H : Hp} {a D : Addr} {o : HO} (h : WellAt H a) (hD : H D = none) : WellAt (upd H D o) a := by
  obtain ⟨x, y, z, e⟩ := id h
  exact h.up (ne_of_none e hD)
theorem WellAt.ne {H : Hp} {a D : Addr} (h : WellAt H a) (hD : H D = none) : a ≠ D := by
  obtain ⟨x, y, z, e⟩ := h
  exact ne_of_none e hD
abbrev sWell : Stmt := top 43
abbrev sDraw : Stmt := top 44
abbrev sName : Stmt := top 45
def spWell : Sp := fun vs H Q _ => ∃ c : Int, vs = [.int c] ∧ ∀ a H', Same H H' → H a = none → WellAt H' a → Q (.ref a) H'
def spDraw : Sp := fun vs H Q _ => ∃ (a : Addr) (m : Int), vs = [.ref a, .int m] ∧ WellAt H a ∧ 0 < m ∧ m < 1180591620717411303424 ∧ ∀ r H', 0 ≤ r → r < m → WellAt H' a → SameB a H H' → Q (.int r) H'
def spName : Sp := fun vs H Q _ => ∃ a : Addr, vs = [.ref a] ∧ WellAt H a ∧ ∀ x H', IsW x → WellAt H' a → SameB a H H' → Q (.str x) H'
section
variable {P : Program} {w : World} {K : PySem.W.Frag} {mg : Str → Option Value} {base : Heap}
theorem scWell : FnScope ["_law_cell"] ["_law_cell"] (defScope sWell) := ⟨rfl, rfl, rfl, by decide +kernel, rfl, by decide +kernel, by decide +kernel⟩
theorem c_well (B : Base K mg) (D : DefT K mg "_law_well" sWell ["_law_cell"]) : Cal P w K mg base 1 "_law_well" spWell := by
  refine cal D scWell (fun vs H Q E h => ?_) (fun f cdv A outer s H vs Q E hr h => ?_)
  · obtain ⟨c, rfl, _⟩ := h
    rfl
  · obtain ⟨c, rfl, k⟩ := h
    refine ⟨_, pss_one (ps_ret (pe_lst (pa_cons (pe_op op_mul (pv 0) (pe_callTy call_int1 (by rfl) B.int (by decide +kernel) (pa_cons (pe_cmpR op_ge (pv 0) (pe_op op_pow pe_int pe_int) (nomark _)) pa_nil)))
      (pa_cons (pe_op op_mod (pv 0) pe_int) (pa_cons pe_int pa_nil))))), ?_⟩
    refine ⟨_, rfl, _, rfl, _, _, rfl, rfl, ⟨by decide, by decide, by decide⟩, _, _, rfl, rfl, Or.inr ⟨_, rfl, _, _, rfl, rfl, Or.inr ?_, ?_⟩⟩
    · split <;> constructor <;> decide
    · refine ⟨_, rfl, _, _, rfl, rfl, (by show (0 : Int) < 2147483647; decide), (by show 3 ≤ sizeLine; decide), fun l hl => ?_⟩
      exact k l _ (same_new hl) hl ⟨_, _, _, upd_same⟩
theorem scDraw : FnScope ["_law_well_here", "_law_many", "_law_found", "_law_number"] ["_law_well_here", "_law_many"] (defScope sDraw) := ⟨rfl, rfl, rfl, by decide +kernel, rfl, by decide +kernel, by decide +kernel⟩
theorem c_draw (D : DefT K mg "_law_draw" sDraw ["_law_well_here", "_law_many"]) : Cal P w K mg base 1 "_law_draw" spDraw := by
  refine cal D scDraw (fun vs H Q E h => ?_) (fun f cdv A outer s H vs Q E hr h => ?_)
  · obtain ⟨a, m, rfl, _⟩ := h
    rfl
  · obtain ⟨a, m, rfl, ⟨x, y, z, ha⟩, m0, m1, k⟩ := h
    refine ⟨_, pss_cons (ps_if (pt_cmpR op_gt (pe_ix ix_list (pv 0) pe_int (fun _ _ => rfl)) pe_int (nomark _))
        (pss_cons (ps_set (i := 2) scDraw.nd rfl (Or.inl rfl) (pe_op op_mod (pe_ix ix_list (pv 0) pe_int (fun _ _ => rfl)) (pv 1)))
        (pss_cons (ps_asg (pe_op op_fdivW (pe_ix ix_list (pv 0) pe_int (fun _ _ => rfl)) (pv 1)) (pg_sub (pv 0) pe_int set_list))
        (pss_one (ps_ret (pv 2))))) pss_nil)
      (pss_cons (ps_asg (pe_op op_add (pe_ix ix_list (pv 0) pe_int (fun _ _ => rfl)) pe_int) (pg_sub (pv 0) pe_int set_list))
      (pss_cons (ps_set (i := 3) scDraw.nd rfl (Or.inl rfl) (pe_op op_mod (pe_op op_mul (pe_op op_add (pe_op op_add (pe_ix ix_list (pv 0) pe_int (fun _ _ => rfl)) (pe_op op_mul pe_int (pe_ix ix_list (pv 0) pe_int (fun _ _ => rfl)))) pe_int) pe_int) pe_int))
      (pss_cons (ps_set (i := 3) scDraw.nd rfl (Or.inl rfl) (pe_op op_mod (pe_op op_mul (pv 3) (pe_op op_add (pe_op op_fdiv (pv 3) pe_int) pe_int)) pe_int))
      (pss_one (ps_ret (pe_op op_mod (pe_op op_mod (pe_op op_mul (pv 3) (pe_op op_add (pe_op op_fdiv (pv 3) pe_int) pe_int)) pe_int) (pv 1))))))), ?_⟩
    refine ⟨_, rfl, a, _, 0, .int x, rfl, rfl, SqL.of ha, rfl, _, _, rfl, rfl, _, rfl, ite2 (fun c => ?_) (fun c => ?_)⟩
    · refine ⟨_, rfl, a, _, 0, .int x, rfl, rfl, SqL.of ha, rfl, _, rfl, _, _, rfl, rfl, m0, ?_⟩
      refine ⟨_, rfl, a, _, 0, .int x, rfl, rfl, SqL.of ha, rfl, _, rfl, _, _, rfl, rfl, wide_div m0 (b := 70) (by omega) (by decide) (by decide), ?_⟩
      refine ⟨_, rfl, a, _, 0, 0, rfl, rfl, ha, rfl, ?_⟩
      refine ⟨_, rfl, k _ _ (Int.emod_nonneg _ (by omega)) (Int.emod_lt_of_pos _ m0) ⟨_, _, _, upd_same⟩ fun b o e hb => ?_⟩
      rw [upd_ne hb]
      exact e
    · refine ⟨_, rfl, a, _, 2, .int z, rfl, rfl, SqL.of ha, rfl, _, _, rfl, rfl, _, rfl, a, _, 2, 2, rfl, rfl, ha, rfl, ?_⟩
      have h1 : ∀ n : Int, -(2 ^ 64) < n % 2147483647 ∧ n % 2147483647 < 2 ^ 64 := fun n => by omega
      refine ⟨_, rfl, a, _, 1, .int y, rfl, rfl, SqL.of upd_same, rfl, _, rfl, a, _, 2, .int (z + 1), rfl, rfl, SqL.of upd_same, rfl, _, _, rfl, rfl, Or.inl ⟨by decide, by decide⟩, _, _, rfl, rfl, _, _, rfl, rfl, _, _, rfl, rfl, Or.inr ⟨by decide, by decide⟩, _, _, rfl, rfl, (by show (0 : Int) < 2147483647; decide), ?_⟩
      refine ⟨_, rfl, _, rfl, _, _, rfl, rfl, ⟨by decide, by decide⟩, _, _, rfl, rfl, _, _, rfl, rfl, Or.inl (h1 _), _, _, rfl, rfl, (by show (0 : Int) < 2147483647; decide), ?_⟩
      refine ⟨_, rfl, _, rfl, _, _, rfl, rfl, ⟨by decide, by decide⟩, _, _, rfl, rfl, _, _, rfl, rfl, Or.inl (h1 _), _, _, rfl, rfl, (by show (0 : Int) < 2147483399; decide), _, rfl, _, _, rfl, rfl, m0, ?_⟩
      refine k _ _ (Int.emod_nonneg _ (by omega)) (Int.emod_lt_of_pos _ m0) ⟨_, _, _, upd_same⟩ fun b o e hb => ?_
      rw [upd_ne hb]
      exact e
theorem join_signs : ∀ cs : List Nat, TL.joinL [] (cs.map fun c => [c]) = cs
  | [] => rfl
  | [c] => rfl
  | c :: d :: r => by
    show [c] ++ ([] ++ TL.joinL [] ((d :: r).map fun c => [c])) = c :: d :: r
    rw [join_signs (d :: r)]
    rfl
theorem join_is (cs : List Nat) : Txt.join "" (cs.map fun c => (⟨#[c]⟩ : Str)) = SX.S cs := by
  have h := SX.join_S [] (cs.map fun c => [c])
  rw [join_signs, List.map_map] at h
  exact h
theorem isW_S {cs : List Nat} (h : ∀ c ∈ cs, Ltr c) (h1 : 1 ≤ cs.length) (h8 : cs.length ≤ 8) : IsW (SX.S cs) := ⟨fun c hc => h c (by simpa using hc), by rw [SX.S_len]; exact h1, by rw [SX.S_len]; exact h8⟩
def names16 : List Str := ["in", "year", "head", "limit", "rule", "back", "right", "give", "hold", "move", "spend", "promise", "lessen", "out", "none", "carried"]
def wordB (x : Str) : Bool := x.cps.toList.all (fun c => decide (c ∈ letters.cps.toList)) && decide (1 ≤ x.length) && decide (x.length ≤ 8)
theorem isW_of {x : Str} (h : wordB x = true) : IsW x := by
  unfold wordB at h
  simp only [Bool.and_eq_true, List.all_eq_true, decide_eq_true_eq] at h
  exact ⟨h.1.1, h.1.2, h.2⟩
theorem names16_ok : ∀ x ∈ names16, IsW x := by
  have h : names16.all wordB = true := by decide +kernel
  intro x hx
  exact isW_of (List.all_eq_true.mp h x hx)
theorem get_lt {α : Type} {l : List α} {r : Int} (h0 : 0 ≤ r) (h1 : r < (l.length : Int)) : ∃ v, atI l r = some v ∧ v ∈ l := by
  obtain ⟨j, rfl⟩ : ∃ j : Nat, r = (j : Int) := ⟨r.toNat, by omega⟩
  have hj : j < l.length := by omega
  exact ⟨l[j], atI_nat (List.getElem?_eq_getElem hj), List.getElem_mem hj⟩
theorem let_get {r : Int} (h0 : 0 ≤ r) (h1 : r < 26) : ∃ c, letters.cps[r.toNat]? = some c ∧ Ltr c := by
  have e : letters.cps.size = 26 := by decide +kernel
  have hj : r.toNat < letters.cps.size := by omega
  refine ⟨letters.cps[r.toNat], by simp [hj], ?_⟩
  show _ ∈ letters.cps.toList
  simp
theorem scName : FnScope ["_law_well_here", "_law_some", "_law_signs", "_law_k"] ["_law_well_here"] (defScope sName) := ⟨rfl, rfl, rfl, by decide +kernel, rfl, by decide +kernel, by decide +kernel⟩
theorem c_name (B : Base K mg) (Dr : Cal P w K mg base 1 "_law_draw" spDraw) (D : DefT K mg "_law_name" sName ["_law_well_here"]) : Cal P w K mg base 2 "_law_name" spName := by
  refine cal D scName (fun vs H Q E h => ?_) (fun f cdv A outer s H vs Q E hr h => ?_)
  · obtain ⟨a, rfl, _⟩ := h
    rfl
  · obtain ⟨a, rfl, ha, k⟩ := h
    refine ⟨_, pss_cons (ps_if (pt_cmpR op_eq (pe_cl Dr hr (by decide) (by rfl) (pa_cons (pv 0) (pa_cons pe_int pa_nil))) pe_int (nomark _))
        (pss_cons (ps_set (i := 1) scName.nd rfl (Or.inl rfl) (pe_lst (pa_cons pe_str (pa_cons pe_str (pa_cons pe_str (pa_cons pe_str (pa_cons pe_str (pa_cons pe_str (pa_cons pe_str (pa_cons pe_str (pa_cons pe_str (pa_cons pe_str (pa_cons pe_str (pa_cons pe_str pa_nil))))))))))))))
        (pss_one (ps_ret (pe_ix ix_list (pe_op op_cat (pv 1) (pe_lst (pa_cons pe_str (pa_cons pe_str (pa_cons pe_str (pa_cons pe_str pa_nil)))))) (pe_cl Dr hr (by decide) (by rfl) (pa_cons (pv 0) (pa_cons pe_int pa_nil))) (fun _ _ => rfl))))) pss_nil)
      (pss_cons (ps_set (i := 2) scName.nd rfl (by first | exact Or.inl rfl | exact Or.inr rfl) pe_str)
      (pss_one (ps_ret (pe_join pe_str (pe_lc (own := [("_law_k", 3)]) (g := gName 3) (tt := tYes) rfl scName.nd (pi_range1 (by rfl) B.range (pa_cons (pe_op op_add pe_int (pe_cl Dr hr (by decide) (by rfl) (pa_cons (pv 0) (pa_cons pe_int pa_nil)))) pa_nil))
        (blkOk_by (N := ["_law_well_here", "_law_some", "_law_signs", "_law_k"]) (sc := defScope sName) (by decide +kernel)) (fun _ _ _ _ _ => pg_name (i := 3) scName.nd rfl (Or.inl rfl)) (fun _ _ _ _ _ => pts_nil)
        (fun _ _ _ _ _ => pe_item_str (pv 2) (pe_cl Dr hr (by decide) (by rfl) (pa_cons (pv 0) (pa_cons pe_int pa_nil))) (fun _ _ => rfl))))))), ?_⟩
    refine ⟨_, rfl, a, 8, rfl, ha, by decide, by decide, fun r H1 r0 r8 w1 s1 => ⟨rfl, _, rfl, ite2 (fun _ => ?_) (fun _ => ?_)⟩⟩
    · refine ⟨(by show 12 ≤ sizeLine; decide), fun p hp => ?_⟩
      refine ⟨_, rfl, (by show 4 ≤ sizeLine; decide), fun q hq => ?_⟩
      have pq : p ≠ q := ne_of_none upd_same hq
      refine ⟨p, q, _, _, rfl, rfl, (by rw [upd_ne pq]; exact upd_same), upd_same, (by show 12 + 4 ≤ sizeLine; decide), fun t ht => ?_⟩
      refine ⟨_, rfl, a, 16, rfl, ((w1.new hp).new hq).new ht, by decide, by decide, fun r2 H2 r20 r216 w2 s2 => ?_⟩
      obtain ⟨v, hv, hm⟩ := get_lt (l := names16.map V.str) r20 (by show r2 < 16; exact r216)
      obtain ⟨x, hx, rfl⟩ := List.mem_map.mp hm
      have ta : a ≠ t := ((w1.new hp).new hq).ne ht
      refine ⟨t, _, r2, .str x, rfl, rfl, SqL.of (s2 t _ upd_same ta.symm), hv, ?_⟩
      refine k x H2 (names16_ok x hx) w2 (s1.trans fun b o e hb => s2 b o ?_ hb)
      exact same_new ht b o (same_new hq b o (same_new hp b o e))
    · refine ⟨⟨_, rfl⟩, _, rfl, a, 8, rfl, w1, by decide, by decide, fun r2 H2 r20 r28 w2 s2 => ?_⟩
      have hn : (1 + r2).toNat ≤ 8 := by omega
      refine ⟨_, _, rfl, rfl, (1 + r2), rfl, by omega, by omega, fun D hD => lc_range (lo := 0) (n := (1 + r2).toNat)
        (fun i H' => ∃ cs : List Nat, cs.length = i ∧ (∀ c ∈ cs, Ltr c) ∧ H' D = some (.lst (cs.map fun c => V.str ⟨#[c]⟩)) ∧ WellAt H' a ∧ SameB a H H')
        ⟨[], rfl, (fun _ h => nomatch h), upd_same, w2.new hD, ?_⟩ ?_ ?_⟩
      · exact (s1.trans s2).trans (SameB.of (same_new hD))
      · rintro i H3 hi ⟨cs, hl, hL, hd, wd, sd⟩
        refine ⟨rfl, yes (iteT ⟨_, rfl, _, rfl, a, 26, rfl, wd, by decide, by decide, fun r3 H4 r30 r326 w4 s4 => ?_⟩)⟩
        obtain ⟨c, hc, hcl⟩ := let_get r30 r326
        have e26 : (letters.length : Int) = 26 := by decide +kernel
        refine ⟨letters, r3, c, rfl, rfl, r30, by omega, by rw [e26]; exact r326, hc, _, s4 D _ hd (w2.ne hD).symm, ?_, cs ++ [c], by simp [hl], ?_, ?_, w4.up (w2.ne hD), ?_⟩
        · rw [List.length_map, hl]
          have e : sizeLine = 16777216 := by decide
          omega
        · intro x hx
          rcases List.mem_append.mp hx with hx | hx
          · exact hL x hx
          · rw [List.mem_singleton.mp hx]; exact hcl
        · rw [upd_same, List.map_append]; rfl
        · intro b o e hb
          by_cases hbD : b = D
          · subst hbD
            have q1 := (s1.trans s2) b o e hb
            rw [hD] at q1; cases q1
          · rw [upd_ne hbD]; exact (sd.trans s4) b o e hb
      · rintro H3 ⟨cs, hl, hL, hd, wd, sd⟩
        refine ⟨_, D, cs.map fun c => (⟨#[c]⟩ : Str), rfl, rfl, Or.inl (SqL.of (by rw [hd, List.map_map]; rfl)), ?_, ?_⟩
        · rw [List.map_map, List.length_map, hl]
          have e1 : ∀ l : List Nat, (l.map (Function.comp (fun x : Str => x.length) fun c => (⟨#[c]⟩ : Str))).sum = l.length := by
            intro l
            induction l with
            | nil => rfl
            | cons c l ih => rw [List.map_cons, List.sum_cons, ih]; show 1 + l.length = _; rw [List.length_cons]; omega
          rw [e1, hl]
          show _ + _ * 0 ≤ _
          omega
        · rw [join_is]
          exact k _ H3 (isW_S hL (by omega) (by omega)) wd sd
end
end KP
namespace KP
open PySem L2
/-! ### the mathematics of names -/
theorem len_le_of_sub {α : Type} [DecidableEq α] : ∀ {l m : List α}, l.Nodup → (∀ x ∈ l, x ∈ m) → l.length ≤ m.length
  | [], _, _, _ => Nat.zero_le _
  | a :: l, m, hn, hs => by
    have ha : a ∈ m := hs a List.mem_cons_self
    have hn' := List.nodup_cons.mp hn
    have ih := len_le_of_sub (l := l) (m := m.erase a) hn'.2 (fun x hx => (List.mem_erase_of_ne (fun (e : x = a) => hn'.1 (e ▸ hx))).mpr (hs x (List.mem_cons_of_mem _ hx)))
    have e := List.length_erase_of_mem ha
    have p := List.length_pos_of_mem ha
    rw [List.length_cons]
    omega
def stem (y : Str) : Str := cutS y none (some 7)
def cands (y : Str) : List Str := y :: letters.cps.toList.map fun c => stem y ++ (⟨#[c]⟩ : Str)
theorem stem_S (y : Str) : stem y = SX.S (y.cps.toList.take 7) := by
  unfold stem
  rw [C8.cutS_slice]
  have h := SX.slice_to (a := y.cps.toList) (i := 7) (by decide)
  rw [SX.S_tl] at h
  exact h
theorem cand_S (y : Str) (c : Nat) : stem y ++ (⟨#[c]⟩ : Str) = SX.S (y.cps.toList.take 7 ++ [c]) := by
  rw [stem_S]
  exact SX.S_cat _ [c]
theorem cands_ok {y : Str} (h : IsW y) : ∀ x ∈ cands y, IsW x := by
  intro x hx
  rcases List.mem_cons.mp hx with rfl | hx
  · exact h
  · obtain ⟨c, hc, rfl⟩ := List.mem_map.mp hx
    rw [cand_S]
    refine isW_S (fun d hd => ?_) (by simp) (by simp; omega)
    rcases List.mem_append.mp hd with hd | hd
    · exact h.1 d (List.mem_of_mem_take hd)
    · rw [List.mem_singleton.mp hd]; exact hc
theorem letters_nd : letters.cps.toList.Nodup := by decide +kernel
theorem letters_len : letters.cps.toList.length = 26 := by decide +kernel
theorem nodup_map {α β : Type} {f : α → β} (hf : ∀ a b, f a = f b → a = b) : ∀ {l : List α}, l.Nodup → (l.map f).Nodup
  | [], _ => List.nodup_nil
  | a :: l, h => by
    have h' := List.nodup_cons.mp h
    rw [List.map_cons, List.nodup_cons]
    refine ⟨fun hm => ?_, nodup_map hf h'.2⟩
    obtain ⟨b, hb, e⟩ := List.mem_map.mp hm
    exact h'.1 (hf b a e ▸ hb)
def fresh (y : Str) (xs : List Str) : List Str := (cands y).filter fun c => !decide (c ∈ xs)
theorem fresh_ne {y : Str} {xs : List Str} (h : xs.length ≤ 8) : ∃ z zs, fresh y xs = z :: zs ∧ z ∈ cands y ∧ ¬ z ∈ xs := by
  cases e : fresh y xs with
  | nil =>
    exfalso
    have nd : (letters.cps.toList.map fun c => stem y ++ (⟨#[c]⟩ : Str)).Nodup := nodup_map (fun a b q => by
      rw [cand_S, cand_S] at q
      have := List.append_cancel_left (SX.S_inj q)
      simpa using this) letters_nd
    have hle := len_le_of_sub (m := xs) nd (fun x hx => by
      by_cases hm : x ∈ xs
      · exact hm
      · have : x ∈ fresh y xs := List.mem_filter.mpr ⟨List.mem_cons_of_mem _ hx, by simp [hm]⟩
        rw [e] at this
        cases this)
    rw [List.length_map, letters_len] at hle
    omega
  | cons z zs =>
    have hz : z ∈ fresh y xs := by rw [e]; exact List.mem_cons_self
    have h2 := List.mem_filter.mp hz
    exact ⟨z, zs, rfl, h2.1, by simpa using h2.2⟩
theorem strOk_W {x : Str} (h : IsW x) : PyData.strOk x = true := by
  have hb : letters.cps.toList.all (· < 0x110000) = true := by decide +kernel
  unfold PyData.strOk
  rw [← Array.all_toList, List.all_eq_true]
  intro c hc
  exact List.all_eq_true.mp hb c (h.1 c hc)
theorem canLay_strs : ∀ {xs : List Str}, (∀ x ∈ xs, PyData.strOk x = true) → PyData.canLayAll0 (xs.map PyData.str) = true
  | [], _ => rfl
  | x :: xs, h => by
    show (PyData.strOk x && PyData.canLayAll0 (xs.map PyData.str)) = true
    rw [h x List.mem_cons_self, canLay_strs fun y hy => h y (List.mem_cons_of_mem _ hy)]
    rfl
theorem depth_strs : ∀ {xs : List Str}, PyData.depthAll (xs.map PyData.str) = 0
  | [] => rfl
  | x :: xs => by
    show max 0 (PyData.depthAll (xs.map PyData.str)) = 0
    rw [depth_strs]
    rfl
theorem shaped_strs {xs : List Str} (h : ∀ x ∈ xs, PyData.strOk x = true) : SeqAt.shaped (.list (xs.map PyData.str)) = true := by
  have h1 : (PyData.list (xs.map PyData.str)).canLay0 = true := canLay_strs h
  have h2 : (PyData.list (xs.map PyData.str)).depth ≤ 64 := by
    show PyData.depthAll (xs.map PyData.str) + 1 ≤ 64
    rw [depth_strs]; decide
  unfold SeqAt.shaped
  rw [h1, decide_eq_true h2]
  rfl
theorem dp_strs {K : PySem.W.Frag} {H : Hp} : ∀ (xs : List Str), DpAll K H (xs.map V.str) (xs.map PyData.str)
  | [] => .nil
  | x :: xs => .cons (.str x) (dp_strs xs)
theorem inV_str {x : Str} : ∀ {xs : List Str}, inV (.str x) (xs.map V.str) = decide (x ∈ xs)
  | [] => by simp [inV]
  | y :: xs => by
    have ih := inV_str (x := x) (xs := xs)
    unfold inV at ih ⊢
    rw [List.map_cons, List.any_cons, ih]
    show ((y == x) || decide (x ∈ xs)) = decide (x ∈ y :: xs)
    by_cases h : y = x
    · subst h; simp
    · have h' : (y == x) = false := beq_eq_false_iff_ne.mpr h
      have h'' : ¬ x = y := fun e => h e.symm
      rw [h']; simp [h'']
theorem flat_strs {xs : List Str} : (xs.map V.str).all flatV = true := by
  rw [List.all_eq_true]
  intro v hv
  obtain ⟨x, _, rfl⟩ := List.mem_map.mp hv
  rfl
theorem take_more {α : Type} : ∀ {l : List α} {i : Nat} {x : α}, l[i]? = some x → l.take (i + 1) = l.take i ++ [x]
  | [], i, x, h => by simp at h
  | a :: l, 0, x, h => by
    have e : a = x := Option.some.inj h
    subst e
    rfl
  | a :: l, i + 1, x, h => by
    have ih := take_more (l := l) (i := i) (x := x) h
    show a :: l.take (i + 1) = a :: l.take i ++ [x]
    rw [ih]
    rfl
abbrev sNames : Stmt := top 46
def spNames : Sp := fun vs H Q _ => ∃ (a : Addr) (m : Nat), vs = [.ref a, .int (m : Int)] ∧ WellAt H a ∧ m ≤ 8 ∧ ∀ (p : Addr) (xs : List Str) (H' : Hp), xs.length = m → (∀ x ∈ xs, IsW x) → xs.Nodup → H p = none → H' p = some (.lst (xs.map V.str)) → WellAt H' a → SameB a H H' → Q (.ref p) H'
section
variable {P : Program} {w : World} {K : PySem.W.Frag} {mg : Str → Option Value} {base : Heap}
abbrev nNames : List Str := ["_law_well_here", "_law_many", "_law_found", "_law_k", "_law_name_here", "_law_some", "_law_sign", "_law_one"]
theorem scNames : FnScope nNames ["_law_well_here", "_law_many"] (defScope sNames) := ⟨rfl, rfl, rfl, by decide +kernel, rfl, by decide +kernel, by decide +kernel⟩
theorem c_names (B : Base K mg) (Dr : Cal P w K mg base 1 "_law_draw" spDraw) (Nm : Cal P w K mg base 2 "_law_name" spName) (D : DefT K mg "_law_names" sNames ["_law_well_here", "_law_many"]) : Cal P w K mg base 3 "_law_names" spNames := by
  refine cal D scNames (fun vs H Q E h => ?_) (fun f cdv A outer s H vs Q E hr h => ?_)
  · obtain ⟨a, m, rfl, _⟩ := h
    rfl
  · obtain ⟨a, m, rfl, ha, m8, k⟩ := h
    refine ⟨_, pss_cons (ps_set (i := 2) scNames.nd rfl (by first | exact Or.inl rfl | exact Or.inr rfl) (pe_lst pa_nil))
      (pss_cons (ps_for PassesOwn.never rfl (pi_range1 (by rfl) B.range (pa_cons (pv 1) pa_nil)) (pg_name (i := 3) scNames.nd rfl (Or.inl rfl))
        (pss_cons (ps_set (i := 4) scNames.nd rfl (by first | exact Or.inl rfl | exact Or.inr rfl) (pe_cl Nm hr (by decide) (by rfl) (pa_cons (pv 0) pa_nil)))
        (C8.pss_cut (ps_if (PW.pt (pw_and (pt_cmpR (op_neD hr.units) (pv 2) (pe_lst pa_nil) (nomark _)) (pw_and1 (pt_cmpR op_eq (pe_cl Dr hr (by decide) (by rfl) (pa_cons (pv 0) (pa_cons pe_int pa_nil))) pe_int (nomark _)))))
          (pss_one (ps_set (i := 4) scNames.nd rfl (by first | exact Or.inl rfl | exact Or.inr rfl) (pe_ix ix_list (pv 2) (pe_cl Dr hr (by decide) (by rfl) (pa_cons (pv 0) (pa_cons (pe_callB call_len_seq (by rfl) B.len PySem.boot_len (pa_cons (pv 2) pa_nil)) pa_nil))) (fun _ _ => rfl)))) pss_nil)
        (pss_cons (ps_set (i := 5) scNames.nd rfl (by first | exact Or.inl rfl | exact Or.inr rfl) (pe_op op_cat (pe_lst (pa_cons (pv 4) pa_nil))
          (pe_lc (own := [("_law_sign", 6)]) (g := gName 6) (tt := tYes) rfl scNames.nd (pi_str pe_str) (blkOk_by (N := nNames) (sc := defScope sNames) (by decide +kernel)) (fun _ _ _ _ _ => pg_name (i := 6) scNames.nd rfl (Or.inl rfl)) (fun _ _ _ _ _ => pts_nil)
            (fun _ _ _ _ _ => pe_op op_add_str (pe_slice sl_str (pv 4) po_none (po_some pe_int)) (pv 6)))))
        (pss_one (ps_expr (pe_bm PySem.F.plainAttrs_list PySem.F.slot_list_append PySem.F.type_list_append mt_append (pv 2) (pa_cons (pe_ix ix_list
          (pe_lc (own := [("_law_one", 7)]) (g := gName 7) (tt := tTest (tOp (rIn K true) (tVar 7) (tVar 2))) rfl scNames.nd (pi_list (pv 5)) (blkOk_by (N := nNames) (sc := defScope sNames) (by decide +kernel)) (fun _ _ _ _ _ => pg_name (i := 7) scNames.nd rfl (Or.inl rfl))
            (fun _ _ _ _ _ => pts_one (pt_cmpR op_notIn_seq (pv 7) (pv 2) rfl)) (fun _ _ _ _ _ => pv 7)) pe_int (fun _ _ => rfl)) pa_nil))))))))
      (pss_one (ps_ret (pv 2)))), ?_⟩
    refine ⟨(by show 0 ≤ sizeLine; decide), fun F hF => ?_⟩
    have aF : a ≠ F := ha.ne hF
    refine ⟨_, rfl, _, rfl, by omega, by omega, for_range (lo := 0) (n := (m : Int).toNat) (fun i σ H' => ∃ (xs : List Str) (v3 v4 v5 : Option V), σ = [some (.ref a), some (.int (m : Int)), some (.ref F), v3, v4, v5, none, none] ∧ xs.length = i ∧ (∀ x ∈ xs, IsW x) ∧ xs.Nodup ∧ H' F = some (.lst (xs.map V.str)) ∧ WellAt H' a ∧ SameB a H H')
      ⟨[], none, none, none, rfl, rfl, (fun _ h => nomatch h), List.nodup_nil, upd_same, ha.new hF, SameB.of (same_new hF)⟩ ?_ ?_⟩
    · rintro i σ H1 hi ⟨xs, v3, v4, v5, rfl, hl, hw, hnd, hx, w1, s1⟩
      have hl8 : xs.length ≤ 8 := by omega
      have hz : sizeLine = 16777216 := by decide
      refine ⟨_, rfl, a, rfl, w1, fun y H2 hy w2 s2 => ?_⟩
      have hx2 : H2 F = some (.lst (xs.map V.str)) := s2 F _ hx aF.symm
      refine ⟨fun σ' H' => ∃ (y : Str) (v3 v5 : Option V), σ' = [some (.ref a), some (.int (m : Int)), some (.ref F), v3, some (.str y), v5, none, none] ∧ IsW y ∧ H' F = some (.lst (xs.map V.str)) ∧ WellAt H' a ∧ SameB a H H', ?_, ?_⟩
      · refine ⟨_, rfl, (by show 0 ≤ sizeLine; decide), fun t ht => ?_⟩
        have Ft : F ≠ t := ne_of_none hx2 ht
        refine ⟨.list (xs.map PyData.str), .list [], .lst (SqL.of (by rw [upd_ne Ft]; exact hx2)) (dp_strs xs), .lst (SqL.of upd_same) .nil, shaped_strs (fun x h => strOk_W (hw x h)), by decide +kernel, _, rfl, ?_⟩
        have s3 : SameB a H (upd H2 t (.lst [])) := (s1.trans s2).trans (SameB.of (same_new ht))
        have w3 : WellAt (upd H2 t (.lst [])) a := w2.new ht
        have hx3 : (upd H2 t (.lst [])) F = some (.lst (xs.map V.str)) := by rw [upd_ne Ft]; exact hx2
        refine ite2 (fun c => ?_) (fun _ => ?_)
        · refine ⟨_, rfl, a, 3, rfl, w3, by decide, by decide, fun r H4 r0 r3 w4 s4 => ⟨rfl, _, rfl, ite2 (fun _ => ?_) (fun _ => ?_)⟩⟩
          · have hx4 : H4 F = some (.lst (xs.map V.str)) := s4 F _ hx3 aF.symm
            have hp : 0 < xs.length := by
              rcases Nat.eq_zero_or_pos xs.length with e | e
              · have e2 := List.length_eq_zero_iff.mp e
                subst e2
                exact absurd c (by decide +kernel)
              · exact e
            refine ⟨_, rfl, _, rfl, _, rfl, F, _, rfl, .inl (SqL.of hx4), a, _, rfl, w4, (by rw [List.length_map]; omega), (by rw [List.length_map]; omega), fun r2 H5 r20 r21 w5 s5 => ?_⟩
            obtain ⟨v, hv, hm⟩ := get_lt (l := xs.map V.str) r20 r21
            obtain ⟨z, hzm, rfl⟩ := List.mem_map.mp hm
            exact ⟨F, _, r2, .str z, rfl, rfl, SqL.of (s5 F _ hx4 aF.symm), hv, z, _, _, rfl, hw z hzm, s5 F _ hx4 aF.symm, w5, (s3.trans s4).trans s5⟩
          · exact ⟨y, _, _, rfl, hy, s4 F _ hx3 aF.symm, w4, s3.trans s4⟩
        · exact iteF ⟨y, _, _, rfl, hy, hx3, w3, s3⟩
      · rintro σ H3 ⟨y, v3, v5, rfl, hy, hx3, w3, s3⟩
        refine ⟨_, rfl, (by show 1 ≤ sizeLine; decide), fun l hl2 => ?_⟩
        refine ⟨_, rfl, fun D hD => lc_it walk_str (fun i H' => H' = upd (upd H3 l (.lst [.str y])) D (.lst ((letters.cps.toList.take i).map fun c => V.str (stem y ++ (⟨#[c]⟩ : Str))))) rfl (fun _ _ _ _ => trivial) ?_ ?_⟩
        · rintro i v H4 H5 hi rfl ⟨rfl, c, hc, rfl⟩
          have hi26 : i < 26 := by
            have e : (Str.cps "abcdefghijklmnopqrstuvwxyz").size = 26 := by decide +kernel
            omega
          have hst : (stem y).length ≤ 8 := Nat.le_trans (cutS_length y none (some 7)) hy.2.2
          refine ⟨rfl, yes (iteT ⟨_, rfl, _, rfl, y, rfl, (by have := hy.2.2; omega), _, rfl, _, _, rfl, rfl, ?_, _, upd_same, ?_, ?_⟩)⟩
          · show (stem y).length + 1 ≤ sizeLine
            omega
          · rw [List.length_map, List.length_take]
            omega
          · rw [upd_upd]
            congr 2
            rw [take_more (l := letters.cps.toList) (x := c) (by rw [← hc]; exact Array.getElem?_toList ..), List.map_append]
            rfl
        · rintro H4 rfl
          have lD : l ≠ D := ne_of_none upd_same hD
          have e26 : (letters.cps.toList.take (Str.cps "abcdefghijklmnopqrstuvwxyz").size) = letters.cps.toList := List.take_of_length_le (by rw [letters_len]; decide +kernel)
          rw [e26]
          refine ⟨l, D, _, _, rfl, rfl, (by rw [upd_ne lD]; exact upd_same), upd_same, (by rw [List.length_map, letters_len]; show 1 + 26 ≤ sizeLine; decide), fun p hp => ?_⟩
          have hxl : (upd H3 l (.lst [.str y])) F = some (.lst (xs.map V.str)) := same_new hl2 _ _ hx3
          have hxD := same_new (o := .lst (letters.cps.toList.map fun c => V.str (stem y ++ (⟨#[c]⟩ : Str)))) hD _ _ hxl
          have hxp := same_new (o := .lst ([V.str y] ++ letters.cps.toList.map fun c => V.str (stem y ++ (⟨#[c]⟩ : Str)))) hp _ _ hxD
          have w4 := ((w3.new (o := .lst [.str y]) hl2).new (o := .lst (letters.cps.toList.map fun c => V.str (stem y ++ (⟨#[c]⟩ : Str)))) hD).new (o := .lst ([V.str y] ++ letters.cps.toList.map fun c => V.str (stem y ++ (⟨#[c]⟩ : Str)))) hp
          have s4 : SameB a H _ := ((s3.trans (SameB.of (same_new (o := .lst [.str y]) hl2))).trans (SameB.of (same_new (o := .lst (letters.cps.toList.map fun c => V.str (stem y ++ (⟨#[c]⟩ : Str)))) hD))).trans (SameB.of (same_new (o := .lst ([V.str y] ++ letters.cps.toList.map fun c => V.str (stem y ++ (⟨#[c]⟩ : Str)))) hp))
          have ec : [V.str y] ++ letters.cps.toList.map (fun c => V.str (stem y ++ (⟨#[c]⟩ : Str))) = (cands y).map V.str := by
            unfold cands
            rw [List.map_cons, List.map_map]
            rfl
          generalize hH4 : upd (upd (upd H3 l (.lst [.str y])) D (.lst (letters.cps.toList.map fun c => V.str (stem y ++ (⟨#[c]⟩ : Str))))) p (.lst ([V.str y] ++ letters.cps.toList.map fun c => V.str (stem y ++ (⟨#[c]⟩ : Str)))) = H4 at *
          have hp4 : H4 p = some (.lst ((cands y).map V.str)) := by rw [← hH4, upd_same, ec]
          refine ⟨_, rfl, .inl ⟨rfl, _, SqL.of hxp⟩, _, rfl, p, rfl, ⟨_, SqL.of hp4⟩, fun D2 hD2 => lc_it (walk_list (xs := (cands y).map V.str))
            (fun i H' => H' = upd H4 D2 (.lst ((((cands y).take i).filter fun c => !decide (c ∈ xs)).map V.str))) rfl (fun i H' _ e => by rw [e]; exact SqL.of (same_new hD2 _ _ hp4)) ?_ ?_⟩
          · rintro i v H5 H6 hi rfl ⟨rfl, hv⟩
            obtain ⟨z, hz2, rfl⟩ : ∃ z, (cands y)[i]? = some z ∧ v = V.str z := by
              rw [List.getElem?_map] at hv
              cases e : (cands y)[i]? with
              | none => rw [e] at hv; cases hv
              | some z => rw [e] at hv; exact ⟨z, rfl, (Option.some.inj hv).symm⟩
            refine ⟨rfl, _, rfl, _, rfl, F, _, rfl, .inl (SqL.of (same_new hD2 _ _ hxp)), rfl, flat_strs, _, rfl, ?_⟩
            show if (!inV (.str z) (xs.map V.str)) = true then _ else _
            rw [inV_str]
            have et := take_more hz2
            refine ite2 (fun c => ?_) (fun c => ?_)
            · refine ⟨_, rfl, _, upd_same, ?_, ?_⟩
              · have h1 : (((cands y).take i).filter fun c => !decide (c ∈ xs)).length ≤ ((cands y).take i).length := List.length_filter_le _ _
                rw [List.length_map]
                rw [List.length_take] at h1
                have h2 : (cands y).length = 27 := by unfold cands; rw [List.length_cons, List.length_map, letters_len]
                omega
              · rw [upd_upd, et, List.filter_append, List.map_append]
                congr 2
                rw [List.filter_cons, if_pos c]
                rfl
            · rw [et, List.filter_append, List.filter_cons, if_neg c]
              simp
          · rintro H5 rfl
            rw [List.length_map, List.take_length]
            obtain ⟨z, zs, ef, hzc, hzn⟩ := fresh_ne (y := y) hl8
            have ef2 : (cands y).filter (fun c => !decide (c ∈ xs)) = z :: zs := ef
            rw [ef2]
            refine ⟨D2, _, 0, .str z, rfl, rfl, SqL.of upd_same, atI_nat (j := 0) rfl, F, _, _, rfl, rfl, same_new hD2 _ _ hxp, (by rw [List.length_map]; omega), ?_⟩
            refine ⟨xs ++ [z], _, _, _, rfl, by rw [List.length_append, hl]; rfl, ?_, ?_, ?_, ?_, ?_⟩
            · intro x hx
              rcases List.mem_append.mp hx with hx | hx
              · exact hw x hx
              · rw [List.mem_singleton.mp hx]; exact cands_ok hy z hzc
            · refine List.nodup_append.mpr ⟨hnd, by simp, fun x hx u hu => ?_⟩
              rw [List.mem_singleton.mp hu]
              intro e
              exact hzn (e ▸ hx)
            · rw [upd_same, List.map_append]; rfl
            · exact (w4.new hD2).up aF
            · intro b o e hb
              have hbF : b ≠ F := ne_of_none e hF
              rw [upd_ne hbF]
              exact same_new hD2 _ _ (s4 b o e hb)
    · rintro σ H1 ⟨xs, v3, v4, v5, rfl, hl, hw, hnd, hx, w1, s1⟩
      exact ⟨_, rfl, k F xs H1 (by rw [hl]; rfl) hw hnd hF hx w1 s1⟩
end
end KP
namespace KP
open PySem L2 KM
abbrev sCoins : Stmt := top 47
abbrev sTold : Stmt := top 48
def spCoins : Sp := fun vs H Q _ => ∃ a : Addr, vs = [.ref a] ∧ WellAt H a ∧ ∀ c H', Coin c → WellAt H' a → SameB a H H' → Q (.int c) H'
def spToldT : Sp := fun vs H Q _ => ∃ a : Addr, vs = [.ref a] ∧ WellAt H a ∧ ∀ (q : Addr) (e : En) (H' : Hp), e.ok → H q = none → H' q = some (.tup e.tup) → WellAt H' a → SameB a H H' → Q (.ref q) H'
theorem free_of {a q : Addr} {H H1 : Hp} (w : WellAt H1 a) (s : SameB a H H1) (h : H1 q = none) : H q = none := by
  cases e : H q with
  | none => rfl
  | some o =>
    by_cases hq : q = a
    · subst hq
      obtain ⟨x, y, z, e1⟩ := w
      rw [h] at e1; cases e1
    · have := s q o e hq
      rw [h] at this; cases this
section
variable {P : Program} {w : World} {K : PySem.W.Frag} {mg : Str → Option Value} {base : Heap}
theorem scCoins : FnScope ["_law_well_here"] ["_law_well_here"] (defScope sCoins) := ⟨rfl, rfl, rfl, by decide +kernel, rfl, by decide +kernel, by decide +kernel⟩
theorem c_coins (Dr : Cal P w K mg base 1 "_law_draw" spDraw) (D : DefT K mg "_law_coins" sCoins ["_law_well_here"]) : Cal P w K mg base 2 "_law_coins" spCoins := by
  refine cal D scCoins (fun vs H Q E h => ?_) (fun f cdv A outer s H vs Q E hr h => ?_)
  · obtain ⟨a, rfl, _⟩ := h
    rfl
  · obtain ⟨a, rfl, ha, k⟩ := h
    refine ⟨_, pss_one (ps_ret (pe_ix ix_list (pe_lst (pa_cons pe_int (pa_cons (pe_op op_pow pe_int pe_int) (pa_cons (pe_op op_add pe_int (pe_cl Dr hr (by decide) (by rfl) (pa_cons (pv 0) (pa_cons (pe_op op_pow pe_int pe_int) pa_nil))))
      (pa_cons (pe_op op_add pe_int (pe_cl Dr hr (by decide) (by rfl) (pa_cons (pv 0) (pa_cons pe_int pa_nil)))) pa_nil))))) (pe_cl Dr hr (by decide) (by rfl) (pa_cons (pv 0) (pa_cons pe_int pa_nil))) (fun _ _ => rfl))), ?_⟩
    refine ⟨_, _, rfl, rfl, ⟨by decide, by decide, by decide⟩, _, rfl, _, _, rfl, rfl, ⟨by decide, by decide, by decide⟩, a, _, rfl, ha, by decide, by decide, fun r1 H1 r10 r11 w1 s1 => ?_⟩
    refine ⟨_, _, rfl, rfl, _, rfl, a, 50, rfl, w1, by decide, by decide, fun r2 H2 r20 r21 w2 s2 => ⟨_, _, rfl, rfl, (by show 4 ≤ sizeLine; decide), fun l hl => ?_⟩⟩
    refine ⟨_, rfl, a, 4, rfl, w2.new hl, by decide, by decide, fun r3 H3 r30 r31 w3 s3 => ?_⟩
    have hl3 := s3 l _ upd_same (w2.ne hl).symm
    have r11' : r1 < 1000000000000 := r11
    have s4 : SameB a H H3 := ((s1.trans s2).trans (SameB.of (same_new hl))).trans s3
    rcases (by omega : r3 = 0 ∨ r3 = 1 ∨ r3 = 2 ∨ r3 = 3) with rfl | rfl | rfl | rfl
    · exact ⟨l, _, _, _, rfl, rfl, SqL.of hl3, rfl, k 1 H3 ⟨by decide, by decide⟩ w3 s4⟩
    · exact ⟨l, _, _, _, rfl, rfl, SqL.of hl3, rfl, k 1000000000000 H3 ⟨by decide, by decide⟩ w3 s4⟩
    · exact ⟨l, _, _, _, rfl, rfl, SqL.of hl3, rfl, k (1 + r1) H3 ⟨by omega, by omega⟩ w3 s4⟩
    · exact ⟨l, _, _, _, rfl, rfl, SqL.of hl3, rfl, k (1 + r2) H3 ⟨by omega, by omega⟩ w3 s4⟩
def kinds7 : List Str := ["give", "hold", "move", "spend", "promise", "lessen", "out"]
abbrev nTold : List Str := ["_law_well_here", "_law_kind", "_law_one", "_law_other", "_law_coins_here", "_law_note"]
theorem scToldT : FnScope nTold ["_law_well_here"] (defScope sTold) := ⟨rfl, rfl, rfl, by decide +kernel, rfl, by decide +kernel, by decide +kernel⟩
theorem c_told (Dr : Cal P w K mg base 1 "_law_draw" spDraw) (Nm : Cal P w K mg base 2 "_law_name" spName) (Ns : Cal P w K mg base 3 "_law_names" spNames) (Cn : Cal P w K mg base 2 "_law_coins" spCoins) (D : DefT K mg "_law_told" sTold ["_law_well_here"]) :
    Cal P w K mg base 4 "_law_told" spToldT := by
  refine cal D scToldT (fun vs H Q E h => ?_) (fun f cdv A outer s H vs Q E hr h => ?_)
  · obtain ⟨a, rfl, _⟩ := h
    rfl
  · obtain ⟨a, rfl, ha, k⟩ := h
    refine ⟨_, pss_cons (ps_set (i := 1) scToldT.nd rfl (Or.inl rfl) (pe_ix ix_list (pe_lst (pa_cons pe_str (pa_cons pe_str (pa_cons pe_str (pa_cons pe_str (pa_cons pe_str (pa_cons pe_str (pa_cons pe_str pa_nil)))))))) (pe_cl Dr hr (by decide) (by rfl) (pa_cons (pv 0) (pa_cons pe_int pa_nil))) (fun _ _ => rfl)))
      (pss_cons (ps_asg (pe_cl Ns hr (by decide) (by rfl) (pa_cons (pv 0) (pa_cons pe_int pa_nil))) (pg_unl rfl (pgs_cons (pg_name (i := 2) scToldT.nd rfl (Or.inl rfl)) (pgs_cons (pg_name (i := 3) scToldT.nd rfl (Or.inl rfl)) pgs_nil))))
      (pss_cons (ps_set (i := 4) scToldT.nd rfl (Or.inl rfl) (pe_cl Cn hr (by decide) (by rfl) (pa_cons (pv 0) pa_nil)))
      (pss_cons (ps_set (i := 5) scToldT.nd rfl (Or.inl rfl) (pe_ix ix_list (pe_lst (pa_cons pe_str (pa_cons (pe_cl Nm hr (by decide) (by rfl) (pa_cons (pv 0) pa_nil)) (pa_cons (pv 2) (pa_cons (pv 3) pa_nil))))) (pe_cl Dr hr (by decide) (by rfl) (pa_cons (pv 0) (pa_cons pe_int pa_nil))) (fun _ _ => rfl)))
      (pss_cons (ps_if (pt_cmpR op_eq (pv 1) pe_str (nomark _)) (pss_one (ps_ret (pe_tup (pa_cons (pv 1) (pa_cons (pv 2) (pa_cons (pv 4) (pa_cons (pe_ix ix_list (pe_lst (pa_cons pe_int (pa_cons pe_int (pa_cons (pe_op op_add pe_int (pe_cl Dr hr (by decide) (by rfl) (pa_cons (pv 0) (pa_cons pe_int pa_nil)))) pa_nil))))
          (pe_cl Dr hr (by decide) (by rfl) (pa_cons (pv 0) (pa_cons pe_int pa_nil))) (fun _ _ => rfl)) (pa_cons (pv 5) pa_nil)))))))) pss_nil)
      (pss_cons (ps_if (pt_cmpR op_eq (pv 1) pe_str (nomark _)) (pss_one (ps_ret (pe_tup (pa_cons (pv 1) (pa_cons (pv 2) (pa_cons (pv 3) (pa_cons (pv 4) (pa_cons (pv 5) pa_nil)))))))) pss_nil)
      (pss_cons (ps_if (pt_cmpR op_eq (pv 1) pe_str (nomark _)) (pss_one (ps_ret (pe_tup (pa_cons (pv 1) (pa_cons (pe_ix ix_list (pe_lst (pa_cons (pv 3) (pa_cons (pv 2) pa_nil))) (pe_cl Dr hr (by decide) (by rfl) (pa_cons (pv 0) (pa_cons pe_int pa_nil))) (fun _ _ => rfl)) (pa_cons (pv 2) (pa_cons (pv 4) (pa_cons (pv 5) pa_nil)))))))) pss_nil)
      (pss_one (ps_ret (pe_tup (pa_cons (pv 1) (pa_cons (pv 2) (pa_cons (pv 4) (pa_cons (pv 5) pa_nil))))))))))))), ?_⟩
    refine ⟨(by show 7 ≤ sizeLine; decide), fun l hl => ⟨_, rfl, a, 7, rfl, ha.new hl, by decide, by decide, fun r1 H1 r10 r11 w1 s1 => ?_⟩⟩
    have hl1 := s1 l _ upd_same (ha.ne hl).symm
    have s1' : SameB a H H1 := (SameB.of (same_new hl)).trans s1
    obtain ⟨v, hv, hm⟩ := get_lt (l := kinds7.map V.str) r10 r11
    obtain ⟨kd, hkd, rfl⟩ := List.mem_map.mp hm
    refine ⟨l, _, r1, .str kd, rfl, rfl, SqL.of hl1, hv, ?_⟩
    refine ⟨_, rfl, a, 2, rfl, w1, by decide, fun p xs H2 xl xw xn np hp w2 s2 => ?_⟩
    obtain ⟨x, y, rfl⟩ : ∃ x y, xs = [x, y] := by
      match xs, xl with
      | [x, y], _ => exact ⟨x, y, rfl⟩
    have hx : IsW x := xw x (by simp)
    have hy : IsW y := xw y (by simp)
    have hxy : x ≠ y := fun e => by subst e; simp at xn
    refine ⟨p, _, rfl, SqL.of hp, rfl, _, _, rfl, _, _, rfl, rfl, ?_⟩
    refine ⟨_, rfl, a, rfl, w2, fun c H3 hc w3 s3 => ?_⟩
    refine ⟨_, rfl, a, rfl, w3, fun nm H4 hnm w4 s4 => ⟨_, rfl, _, rfl, (by show 4 ≤ sizeLine; decide), fun l2 hl2 => ?_⟩⟩
    refine ⟨_, rfl, a, 4, rfl, w4.new hl2, by decide, by decide, fun r2 H5 r20 r21 w5 s5 => ?_⟩
    have hl5 := s5 l2 _ upd_same (w4.ne hl2).symm
    obtain ⟨v, hv2, hm2⟩ := get_lt (l := ([("" : Str), nm, x, y]).map V.str) r20 r21
    obtain ⟨n, hn, rfl⟩ := List.mem_map.mp hm2
    have hN : IsN n := by
      simp at hn
      rcases hn with rfl | rfl | rfl | rfl
      · exact Or.inl rfl
      · exact Or.inr hnm
      · exact Or.inr hx
      · exact Or.inr hy
    refine ⟨l2, _, r2, .str n, rfl, rfl, SqL.of hl5, hv2, ?_⟩
    have s5' : SameB a H H5 := ((((s1'.trans s2).trans s3).trans s4).trans (SameB.of (same_new hl2))).trans s5
    have fin : ∀ (e : En) (H6 : Hp), e.ok → WellAt H6 a → SameB a H H6 → ∀ q, H6 q = none → Q (.ref q) (upd H6 q (.tup e.tup)) := fun e H6 he w6 s6 q hq => k q e _ he (free_of w6 s6 hq) upd_same (w6.new hq) (s6.trans (SameB.of (same_new hq)))
    refine ⟨_, rfl, rfl, _, rfl, ite2 (fun c1 => ?_) (fun c1 => ?_)⟩
    · have ek : kd = "hold" := by have := of_decide_eq_true c1; injection this
      subst ek
      refine ⟨_, rfl, _, rfl, _, rfl, _, rfl, a, 30, rfl, w5, by decide, by decide, fun r3 H6 r30 r31 w6 s6 => ⟨_, _, rfl, rfl, (by show 3 ≤ sizeLine; decide), fun l3 hl3 => ?_⟩⟩
      refine ⟨_, rfl, a, 3, rfl, w6.new hl3, by decide, by decide, fun r4 H7 r40 r41 w7 s7 => ?_⟩
      have hl7 := s7 l3 _ upd_same (w6.ne hl3).symm
      have s7' : SameB a H H7 := ((s5'.trans s6).trans (SameB.of (same_new hl3))).trans s7
      rcases (by omega : r4 = 0 ∨ r4 = 1 ∨ r4 = 2) with rfl | rfl | rfl
      · exact ⟨l3, _, _, _, rfl, rfl, SqL.of hl7, rfl, _, rfl, (by show 5 ≤ sizeLine; decide), fin (.hold x c 2 n) H7 ⟨hx, hc, ⟨by decide, by decide⟩, hN⟩ w7 s7'⟩
      · exact ⟨l3, _, _, _, rfl, rfl, SqL.of hl7, rfl, _, rfl, (by show 5 ≤ sizeLine; decide), fin (.hold x c 31 n) H7 ⟨hx, hc, ⟨by decide, by decide⟩, hN⟩ w7 s7'⟩
      · exact ⟨l3, _, _, _, rfl, rfl, SqL.of hl7, rfl, _, rfl, (by show 5 ≤ sizeLine; decide), fin (.hold x c (2 + r3) n) H7 ⟨hx, hc, ⟨by omega, by omega⟩, hN⟩ w7 s7'⟩
    · refine ⟨_, rfl, rfl, _, rfl, ite2 (fun c2 => ?_) (fun c2 => ?_)⟩
      · have ek : kd = "move" := by have := of_decide_eq_true c2; injection this
        subst ek
        exact ⟨_, rfl, _, rfl, _, rfl, _, rfl, _, rfl, (by show 5 ≤ sizeLine; decide), fin (.move x y c n) H5 ⟨hx, hy, hxy, hc, hN⟩ w5 s5'⟩
      · refine ⟨_, rfl, rfl, _, rfl, ite2 (fun c3 => ?_) (fun c3 => ?_)⟩
        · have ek : kd = "promise" := by have := of_decide_eq_true c3; injection this
          subst ek
          refine ⟨_, rfl, _, rfl, _, rfl, (by show 2 ≤ sizeLine; decide), fun l3 hl3 => ?_⟩
          refine ⟨_, rfl, a, 2, rfl, w5.new hl3, by decide, by decide, fun r4 H7 r40 r41 w7 s7 => ?_⟩
          have hl7 := s7 l3 _ upd_same (w5.ne hl3).symm
          have s7' : SameB a H H7 := (s5'.trans (SameB.of (same_new hl3))).trans s7
          rcases (by omega : r4 = 0 ∨ r4 = 1) with rfl | rfl
          · exact ⟨l3, _, _, _, rfl, rfl, SqL.of hl7, rfl, _, rfl, _, rfl, _, rfl, (by show 5 ≤ sizeLine; decide), fin (.promise y x c n) H7 ⟨hy, hx, hc, hN⟩ w7 s7'⟩
          · exact ⟨l3, _, _, _, rfl, rfl, SqL.of hl7, rfl, _, rfl, _, rfl, _, rfl, (by show 5 ≤ sizeLine; decide), fin (.promise x x c n) H7 ⟨hx, hx, hc, hN⟩ w7 s7'⟩
        · refine ⟨_, rfl, _, rfl, _, rfl, _, rfl, (by show 4 ≤ sizeLine; decide), ?_⟩
          simp only [kinds7, List.mem_cons, List.not_mem_nil, or_false] at hkd
          rcases hkd with rfl | rfl | rfl | rfl | rfl | rfl | rfl
          · exact fin (.give x c n) H5 ⟨hx, hc, hN⟩ w5 s5'
          · exact absurd (decide_eq_true rfl) c1
          · exact absurd (decide_eq_true rfl) c2
          · exact fin (.spend x c n) H5 ⟨hx, hc, hN⟩ w5 s5'
          · exact absurd (decide_eq_true rfl) c3
          · exact fin (.lessen x c n) H5 ⟨hx, hc, hN⟩ w5 s5'
          · exact fin (.out x c n) H5 ⟨hx, hc, hN⟩ w5 s5'
end
end KP
/-! the rules of new objects, told by what is there behind them, not by the store -/
namespace KD
open PySem PySem.Spec PyProof.Rows L2
section
variable {X : Cx}
def tA (t : TA) : TA := fun σ H Q => ∃ Q' : List V → Hp → Prop, t σ H Q' ∧ ∀ vs H', Q' vs H' → Q vs H'
theorem pa_up {es : List Expr} {t : TA} (h : PA X es t) : PA X es (tA t) := ⟨fun pos pins s σ H Q I ⟨Q', h1, h2⟩ => thn (h.run pos pins s σ H Q' I h1) fun us s1 ⟨vs, H1, I1, r, q⟩ => ⟨vs, H1, I1, r, h2 _ _ q⟩⟩
theorem pe_le {e : Expr} {t u : TE} (h : PE X e t) (f : ∀ σ H Q, u σ H Q → t σ H Q) : PE X e u := ⟨fun pins s σ H Q I hu => h.run pins s σ H Q I (f σ H Q hu)⟩
def tLstW (t : TA) : TE := fun σ H Q => t σ H fun xs H1 => xs.length ≤ sizeLine ∧ ∀ p H', Same H1 H' → H1 p = none → H' p = some (.lst xs) → Q (.ref p) H'
def tTupW (t : TA) : TE := fun σ H Q => t σ H fun xs H1 => xs.length ≤ sizeLine ∧ ∀ p H', Same H1 H' → H1 p = none → H' p = some (.tup xs) → Q (.ref p) H'
theorem pe_lstW {es : List Expr} {t : TA} {pos : Pos} (ha : PA X es t) : PE X (.List es pos) (tLstW t) :=
  pe_le (pe_lst (pa_up ha)) fun σ H Q h => ⟨_, h, fun vs H1 ⟨a, b⟩ => ⟨a, fun p hp => b p _ (KP.same_new hp) hp upd_same⟩⟩
theorem pe_tupW {es : List Expr} {x1 : _} {t : TA} {pos : Pos} (ha : PA X es t) : PE X (.Tuple es x1 pos) (tTupW t) :=
  pe_le (pe_tup (pa_up ha)) fun σ H Q h => ⟨_, h, fun vs H1 ⟨a, b⟩ => ⟨a, fun p hp => b p _ (KP.same_new hp) hp upd_same⟩⟩
/-- t + u, t[lo:hi]: a tuple of these items, a new one or one that was there -/
def rCatW (K : PySem.W.Frag) : R2 := fun x y H Q => ∃ a b xs ys, x = .ref a ∧ y = .ref b ∧ H a = some (.tup xs) ∧ H b = some (.tup ys) ∧ xs.length + ys.length ≤ sizeLine ∧ ∀ p H', Same H H' → H' p = some (.tup (xs ++ ys)) → Q (.ref p) H'
theorem op_catW : OpR X (binaryOp .Add) (rCatW X.K) := by
  intro pins s σ H x y v u Q I rx ry h
  obtain ⟨a, b, xs, ys, rfl, rfl, ha, hb, hz, q⟩ := h
  refine op_catA pins s σ H _ _ v u Q I rx ry ⟨a, b, xs, ys, rfl, rfl, SqT.of ha, SqT.of hb, hz, fun e => ?_, fun _ e => ?_, fun _ _ p hp => ?_⟩
  · subst e
    exact q b H (Same.refl _) hb
  · subst e
    exact q a H (Same.refl _) (by rw [List.append_nil]; exact ha)
  · exact q p _ (KP.same_new hp) upd_same
def rSlW (K : PySem.W.Frag) : V → Option Int → Option Int → Hp → VK → Prop := fun x lo hi H Q => ∃ a xs, x = .ref a ∧ H a = some (.tup xs) ∧ ∀ p H', Same H H' → H' p = some (.tup (cutV xs lo hi)) → Q (.ref p) H'
theorem sl_tupW : SlR X (rSlW X.K) := by
  intro pins s σ H x v vl vu lo hi sl Q I rx hs pl pu h
  obtain ⟨a, xs, rfl, ha, q⟩ := h
  refine sl_tupA pins s σ H _ v vl vu lo hi sl Q I rx hs pl pu ⟨a, xs, rfl, SqT.of ha, fun e => ?_, fun _ p hp => q p _ (KP.same_new hp) upd_same⟩
  refine q a H (Same.refl _) ?_
  unfold cutV
  rw [e.1, e.2, List.drop_zero, Nat.sub_zero, List.take_length]
  exact ha
/-- l + m of lists -/
def rCatLW : R2 := fun x y H Q => ∃ a b xs ys, x = .ref a ∧ y = .ref b ∧ H a = some (.lst xs) ∧ H b = some (.lst ys) ∧ xs.length + ys.length ≤ sizeLine ∧ ∀ p H', Same H H' → H p = none → H' p = some (.lst (xs ++ ys)) → Q (.ref p) H'
theorem op_catLW : OpR X (binaryOp .Add) rCatLW := by
  intro pins s σ H x y v u Q I rx ry h
  obtain ⟨a, b, xs, ys, rfl, rfl, ha, hb, hz, q⟩ := h
  exact op_cat pins s σ H _ _ v u Q I rx ry ⟨a, b, xs, ys, rfl, rfl, ha, hb, hz, fun p hp => q p _ (KP.same_new hp) hp upd_same⟩
def rSlLW (K : PySem.W.Frag) : V → Option Int → Option Int → Hp → VK → Prop := fun x lo hi H Q => ∃ a xs, x = .ref a ∧ SqL K H a xs ∧ ∀ p H', Same H H' → H p = none → H' p = some (.lst (cutV xs lo hi)) → Q (.ref p) H'
theorem sl_listW : SlR X (rSlLW X.K) := by
  intro pins s σ H x v vl vu lo hi sl Q I rx hs pl pu h
  obtain ⟨a, xs, rfl, ha, q⟩ := h
  exact sl_list pins s σ H _ v vl vu lo hi sl Q I rx hs pl pu ⟨a, xs, rfl, ha, fun p hp => q p _ (KP.same_new hp) hp upd_same⟩
/-- list(x) -/
def rListW (K : PySem.W.Frag) : List V → Hp → VK → Prop := fun xs H Q => ∃ p ys, xs = [.ref p] ∧ (SqL K H p ys ∨ SqT K H p ys) ∧ ∀ l H', Same H H' → H l = none → H' l = some (.lst ys) → Q (.ref l) H'
theorem call_listW : CallR X (.type "list") (rListW X.K) := by
  intro pins s σ H xs us Q I r h
  obtain ⟨p, ys, rfl, hy, q⟩ := h
  exact call_list_of pins s σ H _ us Q I r ⟨p, ys, rfl, hy, fun l hl => q l _ (KP.same_new hl) hl upd_same⟩
/-- tuple(x) of a list -/
def rTupleW (K : PySem.W.Frag) : List V → Hp → VK → Prop := fun xs H Q => ∃ p ys, xs = [.ref p] ∧ SqL K H p ys ∧ ∀ l H', Same H H' → H l = none → H' l = some (.tup ys) → Q (.ref l) H'
theorem call_tupleW : CallR X (.type "tuple") (rTupleW X.K) := by
  intro pins s σ H xs us Q I r h
  obtain ⟨p, ys, rfl, hy, q⟩ := h
  exact call_tuple_of pins s σ H _ us Q I r ⟨p, ys, rfl, .inl ⟨hy, fun l hl => q l _ (KP.same_new hl) hl upd_same⟩⟩
/-- str(x) of an int or a truth: some text -/
def rStrX : List V → Hp → VK → Prop := fun xs H Q => ((∃ i, xs = [.int i] ∧ i.natAbs.log2 < 1920) ∨ ∃ b, xs = [.bl b]) ∧ ∀ z : Str, z.length ≤ sizeLine → Q (.str z) H
theorem call_strX : CallR X (.type "str") rStrX := by
  intro pins s σ H xs us Q I r h
  obtain ⟨⟨i, rfl, hz⟩ | ⟨b, rfl⟩, q⟩ := h
  · obtain ⟨u, rfl, t, rfl⟩ := vals1 r
    exact PySem.P.str_of_int hz ⟨.str _, H, I.tok _, ⟨_, rfl⟩, q _ (int_text_fits hz)⟩
  · obtain ⟨u, rfl, r1⟩ := vals1 r
    cases (show u = Value.bool b from r1)
    exact PySem.P.str_of_bool ⟨.str _, H, I.tok _, ⟨_, rfl⟩, q _ (by cases b <;> decide)⟩
end
end KD
/-! unpacking with a star; match over a list -/
namespace KT
open PySem PySem.Spec PyProof.Rows L2 KM
section
variable {X : Cx} {pins : List (Addr × Obj)} {σ : L2.St} {H : Hp} {s : Shared}
theorem vals_take : ∀ {xs : List V} {us : List Value} (n : Nat), Vals xs us → Vals (xs.take n) (us.take n)
  | _, _, 0, _ => .nil
  | _, _, n + 1, .nil => .nil
  | _, _, n + 1, .cons a r => .cons a (vals_take n r)
theorem vals_drop : ∀ {xs : List V} {us : List Value} (n : Nat), Vals xs us → Vals (xs.drop n) (us.drop n)
  | _, _, 0, r => r
  | _, _, n + 1, .nil => .nil
  | _, _, n + 1, .cons a r => vals_drop n r
theorem vals_app : ∀ {xs ys : List V} {us ws : List Value}, Vals xs us → Vals ys ws → Vals (xs ++ ys) (us ++ ws)
  | _, _, _, _, .nil, r => r
  | _, _, _, _, .cons a q, r => .cons a (vals_app q r)
/-- a list taken apart around a star -/
theorem unpackStar {a : Addr} {xs : List V} {n i : Nat} {R : List Value → Shared → Prop} (hc : X.calm = true) (I : Inv X pins σ H s) (hq : SqL X.K H a xs) (hi : i < n) (hn : n ≤ xs.length + 1)
    (h : ∀ D us s', H D = none → Inv X pins σ (upd H D (.lst ((xs.drop i).take (xs.length + 1 - n)))) s' → Vals (xs.take i ++ [.ref D] ++ (xs.drop i).drop (xs.length + 1 - n)) us → R us s') :
    wpAny (model X.prog X.w) X.A (unpackItems (.ref a) n (some i)) R X.xe s := by
  obtain ⟨its, rv, pl, hz⟩ := I.list hq
  have hl : s.heap.IsList a its.toArray := by
    obtain ⟨o, m, e, c, d, q⟩ := pl
    exact ⟨o, e, c, m, q⟩
  have hlen : xs.length = its.length := rv.length
  have hh := I.ok.hd hc
  have hsz : its.toArray.size = its.length := by simp
  have hlt : a ≠ s.heap.objs.size := by obtain ⟨o, ho, _⟩ := hl; exact Nat.ne_of_lt (Heap.lt_size ho)
  unfold unpackItems
  refine wpAny_bind ?_
  unfold notIterableAtAll
  refine wpAny_bind (wpAny_specialOf hl.typeIs slot_list_iter.lookup ?_)
  refine wpAny_pure ?_
  simp only [Bool.false_eq_true, if_false]
  refine wpAny_bind (wpAny_holding (wpAny_pyIter_list hl ?_))
  refine wpAny_bind (wpAny_holding (PySem.W.kun_draw hlt i 0 _ _ ⟨_, Heap.get?_push_size _ rfl, rfl, rfl⟩ (hl.push _) (by omega) fun h₁ hit₁ hs₁ => ?_))
  have hl₁ : h₁.IsList a its.toArray := (hl.push _).extBut hs₁.extBut hlt
  rw [Nat.zero_add] at hit₁
  have hit₁' := hit₁
  obtain ⟨oi, hoi, _⟩ := hit₁'
  have hl₁' := hl₁
  obtain ⟨ol, hol, _⟩ := hl₁'
  rw [List.drop_zero]
  have hfl : (its.take i).length = i := by rw [List.length_take]; omega
  show wpAny _ _ (if (its.take i).length < i then _ else _) _ _ _
  rw [if_neg (by rw [hfl]; omega)]
  refine wpAny_bind (wpAny_holding (PySem.W.kun_collect (s := { s with heap := h₁ }) (T := "list_iterator") (.inr (.inr (.inl rfl))) (Walks.list (A := X.A.in1) hh s.heap.objs.size a hlt its.toArray) (fun j u st => st.1.typeIs) (k := i) (by omega) ⟨hit₁, hl₁⟩ (Heap.lt_size hoi) (Heap.lt_size hol) (fun h₂ tk hk => ?_) (by omega)))
  have hrl : (its.drop i).length = its.length - i := List.length_drop ..
  have hmid : (its.drop i).length - (n - 1 - i) = its.length + 1 - n := by rw [hrl]; omega
  show wpAny _ _ (if (its.drop i).length < n - 1 - i then _ else _) _ _ _
  rw [if_neg (by rw [hrl]; omega)]
  show wpAny _ _ (newList ((its.drop i).take ((its.drop i).length - (n - 1 - i))) >>= fun d => pure (its.take i ++ [d] ++ (its.drop i).drop ((its.drop i).length - (n - 1 - i)))) _ _ _
  rw [hmid]
  have he : ∀ b o, s.heap.get? b = some o → h₂.get? b = some o := fun b o e => hk b o (Nat.ne_of_lt (Heap.lt_size e)) (hs₁.extBut b o (Nat.ne_of_lt (Heap.lt_size e)) (Heap.get?_push_of_some _ e))
  have I2 : Inv X pins σ H { s with heap := h₂, toks := tk } := I.kept he
  have hf : H h₂.objs.size = none := I2.hok.fresh (Nat.le_refl _)
  have hlm : ((its.drop i).take (its.length + 1 - n)).length ≤ sizeLine := by
    rw [List.length_take, hrl]
    omega
  refine wpAny_bind (wpAny_newList (s := { s with heap := h₂, toks := tk }) (wpAny_pure ?_) hlm)
  refine h h₂.objs.size _ _ hf (I2.laid (t' := tk) (fun b u e => Heap.get?_push_of_some _ e) (Nat.le_refl _) ?_) ?_
  · refine ⟨?_, _, 0, ?_, Heap.get?_push_size _ rfl⟩
    · rw [List.length_take, List.length_drop]
      omega
    · rw [hlen]
      exact vals_take _ (vals_drop _ rv)
  · rw [hlen]
    exact vals_app (vals_app (vals_take _ rv) (.cons rfl .nil)) (vals_drop _ (vals_drop _ rv))
end
section
variable {X : Cx} {pos : Pos}
/-- (.., *a, ..) = a list: n targets, the star's at i -/
def gStar (K : PySem.W.Frag) (n i : Nat) (t : TGs) : TG := fun v σ H Q => ∃ a xs, v = .ref a ∧ SqL K H a xs ∧ n ≤ xs.length + 1 ∧ ∀ D, H D = none → t (xs.take i ++ [.ref D] ++ (xs.drop i).drop (xs.length + 1 - n)) σ (upd H D (.lst ((xs.drop i).take (xs.length + 1 - n)))) Q
theorem pg_star {es : List Expr} {k : Nat} {t : TGs} {n i : Nat} (hc : X.calm = true) (h : PGs X es t)
    (hn : (assignEach es X.env).length = n := by rfl) (hst : (assignEach es X.env).findIdx? (·.1) = some i := by rfl) (hi : i < n := by decide) : PG X (.Tuple es k pos) (gStar X.K n i t) := by
  refine ⟨fun pins s σ H v u Q I r hw => ?_⟩
  obtain ⟨a, xs, e1, hq, hl, hw⟩ := hw
  subst e1
  cases r
  rw [PyProof.Rows.assign_Tuple]
  refine wpAny_bind (wpAny_standAt ?_)
  unfold unpack
  rw [hn, hst]
  refine wpAny_bind (wpAny_holding (unpackStar hc I hq hi hl fun D us s' hD I' r' => ?_))
  exact h.run pins _ σ _ _ _ Q I' r' (hw D hD)
/-- a starred target among others -/
theorem pgs_star {e : Expr} {p : Pos} {es : List Expr} {t : TG} {u : TGs} (h1 : PG X e t) (h2 : PGs X es u) : PGs X (.Starred e p :: es) (gCons t u) := by
  refine ⟨fun pins s σ H vs us Q I r h => ?_⟩
  obtain ⟨v, vr, e1, h⟩ := h
  subst e1
  cases r with
  | cons r rr =>
    show wpAny _ _ (assignInOrder (assign e X.env :: (assignEach es X.env).map (·.2)) _) _ _ _
    refine assignInOrder_cons (thn (h1.run pins s σ H _ _ _ I r h) fun _ s1 ⟨σ1, H1, I1, q1⟩ => ?_)
    exact h2.run pins s1 σ1 H1 _ _ Q I1 rr q1
end
/-! ### match over a list of texts -/
/-- the patterns ps over as many values: whether they hit, what the names ns get -/
structure PEach (X : Cx) (ps : List Pattern) (ns : List Str) (ok : List V → Prop) (hit : List V → Bool) (get : List V → List V) : Prop where
  len : ∀ vs, vs.length = ps.length → (get vs).length = ns.length
  run : ∀ (pins : List (Addr × Obj)) (s : Shared) (σ : L2.St) (H : Hp) (vs : List V) (us : List Value) (R : Option (List (Str × Value)) → Shared → Prop), Inv X pins σ H s → Vals vs us → vs.length = ps.length → ok vs →
    (hit vs = true → ∀ s' ws, Inv X pins σ H s' → Vals (get vs) ws → R (some (ns.zip ws)) s') → (hit vs = false → ∀ s', Inv X pins σ H s' → R none s') → wpAny (model X.prog X.w) X.A (matchEach ps X.env us) R X.xe s
section
variable {X : Cx}
theorem each_nil : PEach X [] [] (fun _ => True) (fun _ => true) (fun _ => []) := ⟨fun _ _ => rfl, fun pins s σ H vs us R I r hl _ h1 _ => by
  cases r with
  | nil => exact wpAny_matchEach_nil (h1 rfl s [] I .nil)
  | cons a q => exact absurd hl (by simp)⟩
def okLit (ok : List V → Prop) : List V → Prop
  | v :: vs => (∃ x, v = .str x) ∧ ok vs
  | [] => True
def hitLit (k : Str) (hit : List V → Bool) : List V → Bool
  | v :: vs => decide (v = .str k) && hit vs
  | [] => true
def tlF (g : List V → List V) : List V → List V
  | _ :: vs => g vs
  | [] => []
def hitCap (hit : List V → Bool) : List V → Bool
  | _ :: vs => hit vs
  | [] => true
def okCap (ok : List V → Prop) : List V → Prop
  | _ :: vs => ok vs
  | [] => True
def getCap (g : List V → List V) : List V → List V
  | v :: vs => v :: g vs
  | [] => []
theorem each_lit {k : Str} {j : Nat} {p1 p2 : Pos} {ps : List Pattern} {ns : List Str} {ok : List V → Prop} {hit : List V → Bool} {get : List V → List V} (c : PEach X ps ns ok hit get) :
    PEach X (.MatchValue (.Constant (.str k) j p1) p2 :: ps) ns (okLit ok) (hitLit k hit) (tlF get) := ⟨fun vs hl => by
  cases vs with
  | nil => exact absurd hl (by simp)
  | cons v vs => exact c.len vs (by simpa using hl), fun pins s σ H vs us R I r hl ho h1 h0 => by
  cases r with
  | nil => exact absurd hl (by simp)
  | @cons v u vs us rv rr =>
    obtain ⟨⟨x, rfl⟩, ho⟩ := ho
    refine wpAny_matchEach_cons (wpAny_matchPattern_Value (Calls.Constant_str ?_))
    refine thn (op_eq pins _ σ H (.str x) (.str k) u _ (fun z H1 => z = .bl (decide (V.str x = V.str k)) ∧ H1 = H) (I.tok _) rv ⟨_, rfl⟩ ⟨rfl, rfl, rfl⟩) fun c' s3 ⟨z, H1, I4, rz, e1, e2⟩ => ?_
    subst e1 e2
    cases rz
    refine wpAny_truthy_bool ?_
    by_cases e : V.str x = V.str k
    · rw [decide_eq_true e, if_pos rfl]
      have eh : hitLit k hit (.str x :: vs) = hit vs := by show (decide (V.str x = V.str k) && hit vs) = _; rw [decide_eq_true e, Bool.true_and]
      rw [eh] at h1 h0
      refine c.run pins s3 σ H1 vs us _ I4 rr (by simpa using hl) ho (fun hh s' ws I' r' => ?_) (fun hh s' I' => ?_)
      · exact h1 hh s' ws I' r'
      · exact h0 hh s' I'
    · rw [decide_eq_false e, if_neg Bool.false_ne_true]
      exact h0 (by show (decide (V.str x = V.str k) && hit vs) = false; rw [decide_eq_false e, Bool.false_and]) s3 I4⟩
theorem each_cap {n : Str} {p : Pos} {ps : List Pattern} {ns : List Str} {ok : List V → Prop} {hit : List V → Bool} {get : List V → List V} (c : PEach X ps ns ok hit get) :
    PEach X (.MatchAs none (some n) p :: ps) (n :: ns) (okCap ok) (hitCap hit) (getCap get) := ⟨fun vs hl => by
  cases vs with
  | nil => exact absurd hl (by simp)
  | cons v vs => exact congrArg (· + 1) (c.len vs (by simpa using hl)), fun pins s σ H vs us R I r hl ho h1 h0 => by
  cases r with
  | nil => exact absurd hl (by simp)
  | @cons v u vs us rv rr =>
    refine wpAny_matchEach_cons (wpAny_matchPattern_Capture ?_)
    refine c.run pins s σ H vs us _ I rr (by simpa using hl) ho (fun hh s' ws I' r' => ?_) (fun hh s' I' => ?_)
    · exact h1 hh s' (u :: ws) I' (.cons rv r')
    · exact h0 hh s' I'⟩
theorem each_any {p : Pos} {ps : List Pattern} {ns : List Str} {ok : List V → Prop} {hit : List V → Bool} {get : List V → List V} (c : PEach X ps ns ok hit get) :
    PEach X (.MatchAs none none p :: ps) ns (okCap ok) (hitCap hit) (tlF get) := ⟨fun vs hl => by
  cases vs with
  | nil => exact absurd hl (by simp)
  | cons v vs => exact c.len vs (by simpa using hl), fun pins s σ H vs us R I r hl ho h1 h0 => by
  cases r with
  | nil => exact absurd hl (by simp)
  | @cons v u vs us rv rr =>
    refine wpAny_matchEach_cons (wpAny_matchPattern_Capture ?_)
    refine c.run pins s σ H vs us _ I rr (by simpa using hl) ho (fun hh s' ws I' r' => ?_) (fun hh s' I' => ?_)
    · exact h1 hh s' ws I' r'
    · exact h0 hh s' I'⟩
theorem each_star {n : Str} {p : Pos} {ps : List Pattern} {ns : List Str} {ok : List V → Prop} {hit : List V → Bool} {get : List V → List V} (c : PEach X ps ns ok hit get) :
    PEach X (.MatchStar (some n) p :: ps) (n :: ns) (okCap ok) (hitCap hit) (getCap get) := ⟨fun vs hl => by
  cases vs with
  | nil => exact absurd hl (by simp)
  | cons v vs => exact congrArg (· + 1) (c.len vs (by simpa using hl)), fun pins s σ H vs us R I r hl ho h1 h0 => by
  cases r with
  | nil => exact absurd hl (by simp)
  | @cons v u vs us rv rr =>
    show wpAny _ _ (do
      match ← holding [u] (matchEach ps X.env us) with
      | none => pure none
      | some bs => pure (some (((some n).map (·, u)).toList ++ bs))) _ _ _
    refine wpAny_bind (wpAny_holding ?_)
    refine c.run pins s σ H vs us _ I rr (by simpa using hl) ho (fun hh s' ws I' r' => ?_) (fun hh s' I' => ?_)
    · exact wpAny_pure (h1 hh s' (u :: ws) I' (.cons rv r'))
    · exact wpAny_pure (h0 hh s' I')⟩
/-- case [..] without a star -/
def mSeq (K : PySem.W.Frag) (n : Nat) (ok : List V → Prop) (hit : List V → Bool) (get : List V → List V) (js : List Nat) (tb : TS) (rest : V → TS) : V → TS := fun v D σ H => ∃ a xs, v = .ref a ∧ SqL K H a xs ∧
  ((xs.length ≠ n ∧ rest v D σ H) ∨ (xs.length = n ∧ ok xs ∧ ((hit xs = true ∧ tb D (setAll σ js (get xs)) H) ∨ (hit xs = false ∧ rest v D σ H))))
theorem pm_seq {p3 : Pos} {ps : List Pattern} {ns : List Str} {js : List Nat} {n : Nat} {body : List Stmt} {cs : List MatchCase} {tb : TS} {rest : V → TS} {ok : List V → Prop} {hit : List V → Bool} {get : List V → List V}
    (hc : X.calm = true) (c : PEach X ps ns ok hit get) (hs : Stor X ns js) (hb : PSs X body tb) (hr : PM X cs rest) (hpn : ps.length = n := by rfl)
    (hstar : ps.findIdx? (·.isStar) = none := by rfl) (hwild : (ps.all fun p => p.isWildcard || (p.isStar && p.names.isEmpty)) = false := by rfl) :
    PM X (⟨.MatchSequence ps p3, none, body⟩ :: cs) (mSeq X.K n ok hit get js tb rest) := by
  refine ⟨fun first pins s σ H D v u I rv h => ?_⟩
  obtain ⟨a, xs, rfl, hq, h⟩ := h
  cases rv
  obtain ⟨its, rx, pl, hz⟩ := I.list hq
  have hl : s.heap.IsList a its.toArray := by
    obtain ⟨o, m, e, c, d, q⟩ := pl
    exact ⟨o, e, c, m, q⟩
  have hsz : its.toArray.size = xs.length := by simp [rx.length]
  have hfit : ((its.toArray.size : Nat) : Int) < 2 ^ 63 := by
    have e : sizeLine = 16777216 := by decide
    omega
  refine wpAny_matchCases_cons ?_
  rcases h with ⟨hne, h⟩ | ⟨hlen, hok, h⟩
  · refine matchSeq_list_miss hl hfit (by rw [hsz, hpn]; exact hne) ?_ hstar hwild
    exact hr.run false pins _ σ H D (.ref a) (.ref a) (I.tok _) rfl h
  · refine matchSeq_list_hit hl hfit (by rw [hsz, hlen, hpn]) ?_ hstar hwild
    have I1 : Inv X pins σ H { s with toks := s.toks + 1 + 1 } := I.tok _
    have hl2 : ps.length = its.toArray.size := by rw [hsz, hlen, hpn]
    rw [hl2]
    refine PySem.W.kun_itemsOf (I.ok.hd hc) (show ({ s with toks := s.toks + 1 + 1 } : Shared).heap.IsList a its.toArray from hl) fun h' hx' => ?_
    have I2 := I1.kept (h' := h') (t' := s.toks + 1 + 1) fun b o e => hx' b o (Nat.ne_of_lt (Heap.lt_size e)) e
    refine c.run pins _ σ H xs _ _ I2 (by simpa using rx) (by rw [hlen, hpn]) hok (fun hh s' ws I' r' => ?_) (fun hh s' I' => ?_)
    · rcases h with ⟨_, h⟩ | ⟨h0, _⟩
      · refine hs.run pins s' σ H (get xs) ws _ I' r' ?_ fun s5 I5 => ?_
        · have := r'.length
          rw [c.len xs (by rw [hlen, hpn])] at this
          exact this.symm
        · exact hb.run pins s5 _ H D I5 h
      · rw [hh] at h0
        cases h0
    · rcases h with ⟨h1, _⟩ | ⟨_, h⟩
      · rw [hh] at h1
        cases h1
      · exact hr.run false pins _ σ H D (.ref a) (.ref a) I' rfl h
/-- case [.., *a, ..], the star at i -/
def mStar (K : PySem.W.Frag) (n i : Nat) (ok : List V → Prop) (hit : List V → Bool) (get : List V → List V) (js : List Nat) (tb : TS) (rest : V → TS) : V → TS := fun v D σ H => ∃ a xs, v = .ref a ∧ SqL K H a xs ∧
  ((xs.length + 1 < n ∧ rest v D σ H) ∨ (n ≤ xs.length + 1 ∧ ∀ L, H L = none → ∀ ys, ys = xs.take i ++ [.ref L] ++ (xs.drop i).drop (xs.length + 1 - n) → ok ys ∧
    ((hit ys = true ∧ tb D (setAll σ js (get ys)) (upd H L (.lst ((xs.drop i).take (xs.length + 1 - n))))) ∨ (hit ys = false ∧ rest v D σ (upd H L (.lst ((xs.drop i).take (xs.length + 1 - n))))))))
theorem pm_star {p3 : Pos} {ps : List Pattern} {ns : List Str} {js : List Nat} {n i : Nat} {body : List Stmt} {cs : List MatchCase} {tb : TS} {rest : V → TS} {ok : List V → Prop} {hit : List V → Bool} {get : List V → List V}
    (hc : X.calm = true) (c : PEach X ps ns ok hit get) (hs : Stor X ns js) (hb : PSs X body tb) (hr : PM X cs rest) (hpn : ps.length = n := by rfl)
    (hstar : ps.findIdx? (·.isStar) = some i := by rfl) (hwild : (ps.all fun p => p.isWildcard || (p.isStar && p.names.isEmpty)) = false := by rfl) (hnm : ((ps[i]?.elim [] (·.names)).isEmpty) = false := by rfl) (h2 : 1 < n := by decide) (hin : i < n := by decide) :
    PM X (⟨.MatchSequence ps p3, none, body⟩ :: cs) (mStar X.K n i ok hit get js tb rest) := by
  refine ⟨fun first pins s σ H D v u I rv h => ?_⟩
  obtain ⟨a, xs, rfl, hq, h⟩ := h
  cases rv
  obtain ⟨its, rx, pl, hz⟩ := I.list hq
  have hl : s.heap.IsList a its.toArray := by
    obtain ⟨o, m, e, c, d, q⟩ := pl
    exact ⟨o, e, c, m, q⟩
  have hsz : its.toArray.size = xs.length := by simp [rx.length]
  have hfit : ((its.toArray.size : Nat) : Int) < 2 ^ 63 := by
    have e : sizeLine = 16777216 := by decide
    omega
  refine wpAny_matchCases_cons ?_
  rw [arm_matchPattern_MatchSequence]
  refine wpAny_bind (wpAny_standAt ?_)
  refine wpAny_bind (wpAny_collectionFlag hl.typeIs flag_seq_list ?_)
  simp only [hstar, hwild, hpn, hnm, Bool.not_true, Bool.false_eq_true, if_false, if_true, gt_iff_lt, h2]
  refine wpAny_bind (pyLen_list hl hfit ?_)
  have I1 : Inv X pins σ H { s with toks := s.toks + 1 + 1 } := I.tok _
  rcases h with ⟨hlt, h⟩ | ⟨hge, h⟩
  · rw [if_pos (show ((its.toArray.size : Nat) : Int) < (n : Int) - 1 by rw [hsz]; omega)]
    refine wpAny_pure ?_
    exact hr.run false pins _ σ H D (.ref a) (.ref a) I1 rfl h
  · rw [if_neg (show ¬ ((its.toArray.size : Nat) : Int) < (n : Int) - 1 by rw [hsz]; omega)]
    refine wpAny_bind (unpackStar hc I1 hq hin hge fun L us s' hL I' r' => ?_)
    obtain ⟨hok, h⟩ := h L hL _ rfl
    have ln : (xs.take i ++ [V.ref L] ++ (xs.drop i).drop (xs.length + 1 - n)).length = ps.length := by
      rw [List.length_append, List.length_append, List.length_take, List.length_drop, List.length_drop, List.length_singleton, hpn]
      omega
    refine c.run pins _ σ _ _ _ _ I' r' ln hok (fun hh s' ws I' r' => ?_) (fun hh s' I' => ?_)
    · rcases h with ⟨_, h⟩ | ⟨h0, _⟩
      · refine hs.run pins s' σ _ _ ws _ I' r' ?_ fun s5 I5 => ?_
        · have := r'.length
          rw [c.len _ ln] at this
          exact this.symm
        · exact hb.run pins s5 _ _ D I5 h
      · rw [hh] at h0
        cases h0
    · rcases h with ⟨h1, _⟩ | ⟨_, h⟩
      · rw [hh] at h1
        cases h1
      · exact hr.run false pins _ σ _ D (.ref a) (.ref a) I' rfl h
/-- case _ -/
theorem pm_wild {p : Pos} {body : List Stmt} {cs : List MatchCase} {tb : TS} (hb : PSs X body tb) : PM X (⟨.MatchAs none none p, none, body⟩ :: cs) (fun _ => tb) := by
  refine ⟨fun first pins s σ H D v u I rv h => ?_⟩
  refine wpAny_matchCases_cons (wpAny_matchPattern_Capture ?_)
  refine wpAny_assignInOrder_none ?_
  exact hb.run pins s σ H D I h
end
/-- f'..' -/
def tFs (ts : List TE) : TE := fun σ H Q => tJs ts Str.empty σ H fun out H1 => Q (.str out) H1
theorem pe_fs {X : Cx} {v1 v2 : Expr} {rest : List Expr} {ts : List TE} {pos : Pos} (h : PJ X (v1 :: v2 :: rest) ts) : PE X (.JoinedStr (v1 :: v2 :: rest) pos) (tFs ts) := pe_joined h
/-- a comprehension within another one that takes nothing from outside -/
theorem blkOk_in {N : List Str} {sc scope : Scope} {own : List (Str × Nat)} (h : blkC N { kind := .function, names := [], isGenerator := false, isCoroutine := false } scope own = true) : BlkOk N sc scope own := by
  obtain ⟨h1, h2, h3, h4, h5⟩ := blkOk_by h
  refine ⟨h1, h2, h3, fun y hy e => ?_, h5⟩
  rcases h4 y hy e with z | z <;> cases z
end KT
namespace KP
open PySem L2 KM
section
variable {P : Program} {w : World} {K : PySem.W.Frag} {mg : Str → Option Value} {base : Heap} {C : Nat → Addr} {E : Addr}
/-- e.told(), whichever class -/
def tTolds (C : Nat → Addr) (ta : TE) : TE := fun σ H Q => ta σ H fun x H1 => ∃ p e, x = .ref p ∧ EntAt C H1 p e ∧ ∀ q, H1 q = none → Q (.ref q) (upd H1 q (.tup e.tup))
theorem no_told (e : En) : e.fs.lookup ("told" : Str) = none := by cases e <;> rfl
theorem tup_head (e : En) : atI e.tup 0 = some (.str e.kind) := atI_nat (j := 0) rfl
theorem pe_told {X : Cx} {j : Nat} {o : Expr} {ta : TE} {apos pos : Pos} {pl : Sem Bool} (S : All7 X.prog X.w X.K X.mg X.base C) (hr : Room j X.A) (hk : 1 ≤ j) (he : PE X o ta)
    (ht : eval (.Call (.Attribute o "told" apos) [] [] pos) X.env = (do
      let ov ← eval o X.env
      standAt apos.atName
      let (f, first) ← holding [ov] (getMethod ov "told" pl)
      callWith pos f first (backTo pos (starEach [] X.env)) (backToKw pos (keywordEach [] X.env))) := by rfl) :
    PE X (.Call (.Attribute o "told" apos) [] [] pos) (tTolds C ta) := by
  refine ⟨fun pins s σ H Q I h => ?_⟩
  refine PySem.W.methodCall_KW (pl := pl) (thn (he.run pins s σ H _ I h) fun u s1 ⟨x, H1, I1, rx, p, e, ex, ⟨dx, ea⟩, q⟩ => ?_) ht
  subst ex
  obtain rfl : u = Value.ref p := rx
  have M : MetT X.prog X.w X.K X.mg X.base 1 (C e.k) "told" (spTold C e.k) := by
    cases e
    · exact S.t0
    · exact S.t1
    · exact S.t2
    · exact S.t3
    · exact S.t4
    · exact S.t5
    · exact S.t6
  obtain ⟨f, fd, ps, c, hm, F, b⟩ := M.ex
  refine getmeth_ok I1 ea c hm (no_told e) ?_
  exact PySem.W.callWith_K0 (first := [.ref p]) I1.kIn hm.kp (run_fn (us := [.ref p]) (vs := [.ref p]) F (hr.mono hk) b .nil pass0 I1 (.cons rfl .nil) ⟨p, e, rfl, rfl, ⟨dx, ea⟩, q⟩)
end
end KP
namespace KP
open PySem L2 KD KM KT
abbrev sNum : Stmt := top 29
abbrev nNum : List Str := ["word", "sign"]
theorem scNum : FnScope nNum ["word"] (defScope sNum) := ⟨rfl, rfl, rfl, by decide +kernel, rfl, by decide +kernel, by decide +kernel⟩
abbrev sRf : Stmt := top 30
abbrev nRf : List Str := ["word"]
theorem scRf : FnScope nRf ["word"] (defScope sRf) := ⟨rfl, rfl, rfl, by decide +kernel, rfl, by decide +kernel, by decide +kernel⟩
abbrev sRfs : Stmt := top 31
abbrev nRfs : List Str := ["words", "word"]
theorem scRfs : FnScope nRfs ["words"] (defScope sRfs) := ⟨rfl, rfl, rfl, by decide +kernel, rfl, by decide +kernel, by decide +kernel⟩

/-! ### numbers as texts -/
def figs : Str := "0123456789"
def isNumB (x : Str) : Bool := decide (1 ≤ x.length) && decide (x.length ≤ 16) && x.cps.toList.all (fun c => decide (c ∈ figs.cps.toList)) && (decide (x = "0") || !decide ((⟨#[x.cps.getD 0 0]⟩ : Str) = "0"))
def valN (x : Str) : Int := ((NumText.digitsVal x.cps.toList : Nat) : Int)
def fieldT (x : Str) : V := if isNumB x = true then .int (valN x) else .str x
structure TextB (K : PySem.W.Frag) (mg : Str → Option Value) : Prop where
  figs : ∃ t, mg "FIGURES" = some (.str figs t)
  mostF : ∃ t, mg "MOST_FIGURES" = some (.int 16 t)
  mostN : ∃ t, mg "MOST_NUMBER" = some (.int 9999999999999999 t)
  noN : ∃ t, mg "NO_NOTE" = some (.str "-" t)
  list : mg "list" = none
def spNum : Sp := fun vs H Q _ => ∃ x : Str, vs = [.str x] ∧ x.length ≤ sizeLine ∧ ∀ H', Same H H' → Q (.bl (isNumB x)) H'
def spRf : Sp := fun vs H Q _ => ∃ x : Str, vs = [.str x] ∧ x.length ≤ sizeLine ∧ ∀ H', Same H H' → Q (fieldT x) H'
def spRfs : Sp := fun vs H Q _ => ∃ (l : Addr) (ws : List Str), vs = [.ref l] ∧ H l = some (.lst (ws.map V.str)) ∧ (∀ x ∈ ws, x.length ≤ sizeLine) ∧ ws.length < sizeLine ∧ ∀ p H', Same H H' → H p = none → H' p = some (.tup (ws.map fieldT)) → Q (.ref p) H'
theorem figs_digit {c : Nat} (h : c ∈ figs.cps.toList) : 48 ≤ c ∧ c ≤ 57 := by
  have e : figs.cps.toList = [48, 49, 50, 51, 52, 53, 54, 55, 56, 57] := by decide +kernel
  rw [e] at h
  simp at h
  omega
theorem same_none {H H' : Hp} {a : Addr} (s : Same H H') (h : H' a = none) : H a = none := by
  cases e : H a with
  | none => rfl
  | some o => rw [s _ _ e] at h; cases h
section
variable {P : Program} {w : World} {K : PySem.W.Frag} {mg : Str → Option Value} {base : Heap}
theorem c_num (B : Base K mg) (TB : TextB K mg) (D : DefT K mg "is_number" sNum ["word"]) : Cal P w K mg base 1 "is_number" spNum := by
  obtain ⟨tF, hF⟩ := TB.figs
  obtain ⟨tM, hM⟩ := TB.mostF
  refine cal D scNum (fun vs H Q E h => ?_) (fun f cdv A outer s H vs Q E hr h => ?_)
  · obtain ⟨x, rfl, _⟩ := h
    rfl
  · obtain ⟨x, rfl, hs, k⟩ := h
    refine ⟨_, (pss_cons (ps_if (PW.pt (pw_or (pt_not (pt_chain op_le op_le pe_int (pe_callB call_len_str (by rfl) B.len (by decide +kernel) (pa_cons (pv 0) pa_nil)) (pe_glob (v := .int 16) rfl hM ⟨_, rfl⟩))) (pw_or1 (pt_not (pt_val (pe_callB (cr_all rfl) (by rfl) B.all (by decide +kernel) (pa_cons (pe_lc (own := [("sign", 1)]) (g := (gName 1)) (tt := tYes) rfl scNum.nd (pi_str (pv 0)) (blkOk_by (N := nNum) (sc := defScope sNum) (by decide +kernel)) (fun _ _ _ _ _ => (pg_name (i := 1) scNum.nd rfl (by first | exact Or.inl rfl | exact Or.inr rfl))) (fun _ _ _ _ _ => pts_nil) (fun _ _ _ _ _ => (pe_cmpR op_in_sign (pv 1) (pe_glob (v := .str figs) rfl hF ⟨_, rfl⟩) rfl))) pa_nil))))))) (pss_one (ps_ret pe_bl)) pss_nil)
        (pss_one (ps_ret (pe_or (pe_cmpR op_eq (pv 0) pe_str (nomark _)) (pe_one (pe_cmpR op_ne (pe_item_str (pv 0) pe_int (fun _ _ => rfl)) pe_str (nomark _))))))), ?_⟩
    have kF : isNumB x = false → ∀ H', Same H H' → Q (.bl false) H' := fun e H' s' => by rw [← e]; exact k H' s'
    refine ⟨_, rfl, _, rfl, hs, _, _, rfl, rfl, _, rfl, ?_⟩
    by_cases h1 : 1 ≤ x.length
    · rw [if_pos (decide_eq_true (show (1 : Int) ≤ ((x.length : Nat) : Int) by omega))]
      refine ⟨_, _, rfl, rfl, _, rfl, ?_⟩
      by_cases h8 : x.length ≤ 16
      · have e8 : decide (((x.length : Nat) : Int) ≤ 16) = true := decide_eq_true (by omega)
        rw [e8]
        refine iteF ?_
        refine ⟨_, rfl, x, rfl, fun D hD => lc_it walk_str (fun i H' => H' = upd H D (.lst (((x.cps.toList.take i).map fun c => decide (c ∈ figs.cps.toList)).map V.bl))) rfl (fun _ _ _ _ => trivial) ?_ ?_⟩
        · rintro i v H1 H2 hi rfl ⟨rfl, c, hc, rfl⟩
          refine ⟨rfl, yes (iteT ⟨_, rfl, c, figs, rfl, rfl, _, upd_same, ?_, ?_⟩)⟩
          · have : x.cps.size ≤ 16 := h8
            have e : sizeLine = 16777216 := by decide
            have : ((x.cps.toList.take i).map fun c => decide (c ∈ figs.cps.toList)).length ≤ 16 := by
              rw [List.length_map, List.length_take, Array.length_toList]
              omega
            rw [List.length_map]
            omega
          · have hc' : x.cps.toList[i]? = some c := by simpa using hc
            rw [upd_upd, take_more hc', List.map_append, List.map_append]
            rfl
        · rintro H1 rfl
          have sD := same_new (o := .lst (((x.cps.toList.take x.cps.size).map fun c => decide (c ∈ figs.cps.toList)).map V.bl)) hD
          refine ⟨D, (x.cps.toList.take x.cps.size).map fun c => decide (c ∈ figs.cps.toList), rfl, SqL.of upd_same, _, rfl, ?_⟩
          have e : ((x.cps.toList.take x.cps.size).map fun c => decide (c ∈ figs.cps.toList)).all id = x.cps.toList.all (fun c => decide (c ∈ figs.cps.toList)) := by
            rw [List.take_of_length_le (by simp), List.all_map]
            rfl
          rw [e]
          cases ha : x.cps.toList.all (fun c => decide (c ∈ figs.cps.toList)) with
          | false => exact iteT (kF (by unfold isNumB; rw [ha, Bool.and_false, Bool.false_and]) _ sD)
          | true =>
            refine iteF ⟨_, rfl, rfl, _, rfl, ?_⟩
            have eN : isNumB x = (decide (x = "0") || !decide ((⟨#[x.cps.getD 0 0]⟩ : Str) = "0")) := by
              unfold isNumB
              rw [ha, decide_eq_true h1, decide_eq_true h8]
              rfl
            have k' := k _ sD
            rw [eN] at k'
            have ev : decide (V.str x = V.str "0") = decide (x = "0") := by simp
            rw [ev]
            by_cases e0 : x = "0"
            · rw [decide_eq_true e0] at k' ⊢
              exact iteT k'
            · rw [decide_eq_false e0] at k' ⊢
              have hx0 : (0 : Nat) < x.cps.size := h1
              have eg : x.cps.getD 0 0 = x.cps[0] := by simp [Array.getD, hx0]
              refine iteF ⟨_, rfl, x, 0, x.cps[0], rfl, rfl, by decide, by decide, (by omega), (by rw [show (0 : Int).toNat = 0 from rfl, Array.getElem?_eq_getElem hx0]), rfl, ?_⟩
              rw [eg] at k'
              simpa using k'
      · have e8 : decide (((x.length : Nat) : Int) ≤ 16) = false := decide_eq_false (by omega)
        rw [e8]
        exact iteT (kF (by unfold isNumB; rw [decide_eq_false h8, Bool.and_false, Bool.false_and, Bool.false_and]) _ (Same.refl _))
    · rw [if_neg (by rw [decide_eq_false (show ¬ (1 : Int) ≤ ((x.length : Nat) : Int) by omega)]; exact Bool.false_ne_true)]
      refine ⟨_, rfl, ?_⟩
      refine iteT ?_
      exact kF (by unfold isNumB; rw [decide_eq_false h1, Bool.false_and, Bool.false_and, Bool.false_and]) _ (Same.refl _)
theorem num_reads {x : Str} (h : isNumB x = true) : PySem.intText? x = some (valN x) ∧ x.length ≤ 640 := by
  unfold isNumB at h
  simp only [Bool.and_eq_true, decide_eq_true_eq] at h
  obtain ⟨⟨⟨h1, h2⟩, h3⟩, _⟩ := h
  refine ⟨intText_digits (fun c hc => ?_) (fun e => ?_) (by omega), by omega⟩
  · have := List.all_eq_true.mp h3 c hc
    exact figs_digit (of_decide_eq_true this)
  · have : x.length = x.cps.toList.length := by simp [Str.length]
    rw [e] at this
    simp at this
    omega
theorem c_rf (B : Base K mg) (Nu : Cal P w K mg base 1 "is_number" spNum) (D : DefT K mg "read_field" sRf ["word"]) : Cal P w K mg base 2 "read_field" spRf := by
  refine cal D scRf (fun vs H Q E h => ?_) (fun f cdv A outer s H vs Q E hr h => ?_)
  · obtain ⟨x, rfl, _⟩ := h
    rfl
  · obtain ⟨x, rfl, hs, k⟩ := h
    refine ⟨_, (pss_one (ps_ret (pe_ifExp (pt_val (pe_cl Nu hr (by decide) (by rfl) (pa_cons (pv 0) pa_nil))) (pe_callTy call_int_str (by rfl) B.int (by decide +kernel) (pa_cons (pv 0) pa_nil)) (pv 0)))), ?_⟩
    refine ⟨_, rfl, x, rfl, hs, fun H1 s1 => ⟨_, rfl, ?_⟩⟩
    have k1 := k H1 s1
    unfold fieldT at k1
    cases hn : isNumB x with
    | true =>
      rw [hn, if_pos rfl] at k1
      exact iteT ⟨_, rfl, x, _, rfl, (num_reads hn).1, (num_reads hn).2, k1⟩
    | false =>
      rw [hn, if_neg Bool.false_ne_true] at k1
      exact iteF ⟨_, rfl, k1⟩
theorem c_rfs (B : Base K mg) (Rf : Cal P w K mg base 2 "read_field" spRf) (D : DefT K mg "read_fields" sRfs ["words"]) : Cal P w K mg base 3 "read_fields" spRfs := by
  refine cal D scRfs (fun vs H Q E h => ?_) (fun f cdv A outer s H vs Q E hr h => ?_)
  · obtain ⟨l, ws, rfl, _⟩ := h
    rfl
  · obtain ⟨l, ws, rfl, hl, hw, hlen, k⟩ := h
    refine ⟨_, (pss_one (ps_ret (pe_callTy call_tupleW (by rfl) B.tuple (by decide +kernel) (pa_cons (pe_lc (own := [("word", 1)]) (g := (gName 1)) (tt := tYes) rfl scRfs.nd (pi_list (pv 0)) (blkOk_by (N := nRfs) (sc := defScope sRfs) (by decide +kernel)) (fun _ _ _ _ _ => (pg_name (i := 1) scRfs.nd rfl (by first | exact Or.inl rfl | exact Or.inr rfl))) (fun _ _ _ _ _ => pts_nil) (fun _ _ _ _ _ => (pe_cl Rf hr (by decide) (by rfl) (pa_cons (pv 1) pa_nil)))) pa_nil)))), ?_⟩
    refine ⟨_, rfl, l, rfl, ⟨_, SqL.of hl⟩, fun D hD => lc_it (walk_list (xs := ws.map V.str)) (fun i H' => Same H H' ∧ H' D = some (.lst ((ws.take i).map fieldT))) ⟨same_new hD, upd_same⟩ (fun i H' _ p => SqL.of (p.1 _ _ hl)) ?_ ?_⟩
    · rintro i v H1 H2 hi ⟨s1, d1⟩ ⟨rfl, hv⟩
      obtain ⟨x, hx, rfl⟩ : ∃ x, ws[i]? = some x ∧ v = V.str x := by
        rw [List.getElem?_map] at hv
        cases e : ws[i]? with
        | none => rw [e] at hv; cases hv
        | some z => rw [e] at hv; exact ⟨z, rfl, (Option.some.inj hv).symm⟩
      refine ⟨rfl, yes (iteT ⟨_, rfl, x, rfl, hw x (List.mem_of_getElem? hx), fun H3 s3 => ⟨_, s3 _ _ d1, ?_, ?_, ?_⟩⟩)⟩
      · rw [List.length_map, List.length_take]
        omega
      · intro b o e
        rw [upd_ne (ne_of_none e hD)]
        exact s3 _ _ (s1 _ _ e)
      · rw [upd_same, take_more hx, List.map_append]
        rfl
    · rintro H1 ⟨s1, d1⟩
      rw [List.length_map, List.take_length] at d1
      exact ⟨D, _, rfl, SqL.of d1, fun p H2 s2 np hp => k p H2 (s1.trans s2) (same_none s1 np) hp⟩
end
end KP
/-! texts: the mathematics -/
namespace KP
open PySem L2 KD KT TL
theorem str_assoc (a b c : Str) : a ++ b ++ c = a ++ (b ++ c) := ext_tl (by rw [tl_append, tl_append, tl_append, tl_append, List.append_assoc])
theorem empty_app (a : Str) : Str.empty ++ a = a := ext_tl (by rw [tl_append]; rfl)
def nt (i : Int) : Str := Str.ofString (toString i)
theorem tl_nt {i : Int} (h : 0 ≤ i) : tl (nt i) = numL i.toNat := by
  have e : i = ((i.toNat : Nat) : Int) := by omega
  unfold nt
  rw [e]
  exact tl_num i.toNat
theorem nt_free {i : Int} (h : 0 ≤ i) {s : Nat} (hs : s < 48 ∨ 57 < s) : s ∉ tl (nt i) := by
  rw [tl_nt h]
  exact numL_free hs
theorem nt_len {i : Int} (h0 : 0 ≤ i) (h1 : i ≤ 9999999999999999) : (nt i).length ≤ 16 := by
  rw [len_tl, tl_nt h0]
  exact numL_len (by decide) (by have e : (10 : Nat) ^ 16 = 10000000000000000 := by decide
                                 rw [e]; omega)
theorem num_head : ∀ (k n : Nat), n ≤ k → 1 ≤ n → ∃ c r, numL n = c :: r ∧ c ≠ 48
  | 0, n, h, h1 => by omega
  | k + 1, n, h, h1 => by
    by_cases h10 : n < 10
    · rw [numL_lt h10]
      exact ⟨48 + n, [], rfl, by omega⟩
    · obtain ⟨c, r, e, hc⟩ := num_head k (n / 10) (by omega) (by omega)
      rw [numL_step (by omega), e]
      exact ⟨c, r ++ [48 + n % 10], rfl, hc⟩
theorem str0 : tl ("0" : Str) = [48] := by decide +kernel
theorem nt_num {i : Int} (h0 : 0 ≤ i) (h1 : i ≤ 9999999999999999) : isNumB (nt i) = true ∧ valN (nt i) = i := by
  have et := tl_nt h0
  have ec : (nt i).cps.toList = numL i.toNat := et
  refine ⟨?_, ?_⟩
  · unfold isNumB
    have l1 : 1 ≤ (nt i).length := by
      rw [len_tl, et]
      exact List.length_pos_iff.mpr (numL_ne _)
    have a : (nt i).cps.toList.all (fun c => decide (c ∈ figs.cps.toList)) = true := by
      rw [List.all_eq_true]
      intro c hc
      rw [ec] at hc
      have hd := numL_digits i.toNat c hc
      have e : figs.cps.toList = [48, 49, 50, 51, 52, 53, 54, 55, 56, 57] := by decide +kernel
      rw [decide_eq_true_eq, e]
      have : 48 ≤ c ∧ c ≤ 57 := hd
      simp
      omega
    rw [decide_eq_true l1, decide_eq_true (nt_len h0 h1), a]
    show (decide (nt i = "0") || !decide ((⟨#[(nt i).cps.getD 0 0]⟩ : Str) = "0")) = true
    by_cases hz : i = 0
    · have e : nt i = "0" := ext_tl (by rw [et, hz, str0]; decide +kernel)
      rw [decide_eq_true e]
      rfl
    · obtain ⟨c, r, e, hc⟩ := num_head i.toNat i.toNat (Nat.le_refl _) (by omega)
      have eg : (nt i).cps.getD 0 0 = c := by
        have h : (nt i).cps[0]? = some c := by
          rw [← Array.getElem?_toList, ec, e]
          rfl
        rw [Array.getD_eq_getD_getElem?, h]
        rfl
      have nz : ¬ (⟨#[(nt i).cps.getD 0 0]⟩ : Str) = "0" := fun z => by
        have := congrArg tl z
        rw [str0, eg] at this
        exact hc (List.cons.inj this).1
      rw [decide_eq_false nz, Bool.not_false, Bool.or_true]
  · unfold valN
    rw [ec, numL_val]
    omega
theorem w_free {x : Str} (h : IsW x) {s : Nat} (hs : s < 97) : s ∉ tl x := fun hm => by
  have := h.1 s hm
  unfold Ltr at this
  have e : letters.cps.toList = [97, 98, 99, 100, 101, 102, 103, 104, 105, 106, 107, 108, 109, 110, 111, 112, 113, 114, 115, 116, 117, 118, 119, 120, 121, 122] := by decide +kernel
  rw [e] at this
  simp at this
  omega
theorem w_not_num {x : Str} (h : IsW x) : isNumB x = false := by
  unfold isNumB
  have a : x.cps.toList.all (fun c => decide (c ∈ figs.cps.toList)) = false := by
    rw [List.all_eq_false]
    have h1 := h.2.1
    have hl : x.length = x.cps.toList.length := by simp [Str.length]
    obtain ⟨c, hc⟩ := List.exists_mem_of_length_pos (l := x.cps.toList) (by omega)
    refine ⟨c, hc, fun z => ?_⟩
    have := figs_digit (of_decide_eq_true z)
    exact w_free h (s := c) (by omega) hc
  rw [a, Bool.and_false, Bool.false_and]
theorem field_w {x : Str} (h : IsW x) : fieldT x = .str x := by unfold fieldT; rw [w_not_num h]; rfl
theorem field_n {i : Int} (h0 : 0 ≤ i) (h1 : i ≤ 9999999999999999) : fieldT (nt i) = .int i := by unfold fieldT; rw [(nt_num h0 h1).1, (nt_num h0 h1).2]; rfl
/-! rows -/
def sp1 : Str := " "
def nl1 : Str := "\n"
theorem tl_sp : tl sp1 = [32] := by decide +kernel
theorem tl_nl : tl nl1 = [10] := by decide +kernel
def em : Str := ""
theorem tl_em : tl em = [] := by decide +kernel
def rowT (ws : List Str) : Str := Str.join sp1 ws
def lnT (x : Str) : Str := x ++ nl1
def linesT (rs : List Str) : Str := Str.join em (rs.map lnT)
theorem joinL_free {s : Nat} {S : List Nat} (hS : s ∉ S) : ∀ {ps : List (List Nat)}, (∀ p ∈ ps, s ∉ p) → s ∉ joinL S ps
  | [], _ => by simp [joinL]
  | [p], h => h p (by simp)
  | p :: q :: r, h => by
    show s ∉ p ++ (S ++ joinL S (q :: r))
    simp only [List.mem_append, not_or]
    exact ⟨h p (by simp), hS, joinL_free hS fun z hz => h z (by simp [hz])⟩
theorem lines_tl : ∀ rs : List Str, joinL [] ((rs.map lnT).map tl) = joinL [10] ((rs ++ [em]).map tl)
  | [] => by show ([] : List Nat) = tl em; rw [tl_em]
  | [r] => by
    show tl (lnT r) = tl r ++ ([10] ++ tl em)
    unfold lnT
    rw [tl_append, tl_nl, tl_em]
    rfl
  | r :: q :: t => by
    show tl (lnT r) ++ ([] ++ joinL [] (((q :: t).map lnT).map tl)) = tl r ++ ([10] ++ joinL [10] (((q :: t) ++ [em]).map tl))
    rw [lines_tl (q :: t)]
    unfold lnT
    rw [tl_append, tl_nl, List.nil_append, List.append_assoc]
theorem lines_join (rs : List Str) : linesT rs = Str.join nl1 (rs ++ [em]) := ext_tl (by
  unfold linesT
  rw [tl_join, tl_join, tl_nl, tl_em, lines_tl])
theorem lines_split {rs : List Str} (h : ∀ r ∈ rs, 10 ∉ tl r) : Txt.split (linesT rs) nl1 = rs ++ [em] := by
  rw [lines_join, ← join_eq]
  refine split_join tl_nl (by decide +kernel) (by simp) fun p hp => ?_
  rcases List.mem_append.mp hp with hp | hp
  · exact h p hp
  · rw [List.mem_singleton.mp hp, tl_em]
    simp
theorem row_split {ws : List Str} (hne : ws ≠ []) (h : ∀ w ∈ ws, 32 ∉ tl w) : Txt.split (rowT ws) sp1 = ws := by
  unfold rowT
  rw [← join_eq]
  exact split_join tl_sp (by decide +kernel) hne h
theorem row_free {ws : List Str} (h : ∀ w ∈ ws, 10 ∉ tl w) : 10 ∉ tl (rowT ws) := by
  unfold rowT
  rw [tl_join, tl_sp]
  refine joinL_free (by decide) fun p hp => ?_
  obtain ⟨w, hw, rfl⟩ := List.mem_map.mp hp
  exact h w hw
theorem join_le {y : Str} {n : Nat} : ∀ {ps : List Str}, (∀ p ∈ ps, p.length ≤ n) → (Str.join y ps).length ≤ ps.length * (n + y.length)
  | [], _ => by show Str.length Str.empty ≤ _; rw [show Str.length Str.empty = 0 from rfl]; omega
  | [p], h => by
    show p.length ≤ 1 * (n + y.length)
    have := h p (by simp)
    omega
  | p :: q :: r, h => by
    have hp := h p (by simp)
    have ih := join_le (y := y) (n := n) (ps := q :: r) fun z hz => h z (by simp [hz])
    have e : (Str.join y (p :: q :: r)).length = p.length + y.length + (Str.join y (q :: r)).length := by
      show (p ++ y ++ Str.join y (q :: r)).length = _
      rw [len_tl, tl_append, tl_append, List.length_append, List.length_append, ← len_tl, ← len_tl, ← len_tl]
    rw [e, List.length_cons, Nat.succ_mul]
    omega
theorem sum_le {n : Nat} : ∀ {ps : List Str}, (∀ p ∈ ps, p.length ≤ n) → (ps.map (·.length)).sum ≤ ps.length * n
  | [], _ => by simp
  | p :: r, h => by
    have hp := h p (by simp)
    have ih := sum_le (n := n) (ps := r) fun z hz => h z (by simp [hz])
    rw [List.map_cons, List.sum_cons, List.length_cons, Nat.succ_mul]
    omega
/-- a word of a text -/
def Wd (x : Str) : Prop := x.length ≤ 16 ∧ 32 ∉ tl x ∧ 10 ∉ tl x
theorem wd_w {x : Str} (h : IsW x) : Wd x := ⟨Nat.le_trans h.2.2 (by decide), w_free h (by decide), w_free h (by decide)⟩
theorem wd_n {i : Int} (h0 : 0 ≤ i) (h1 : i ≤ 9999999999999999) : Wd (nt i) := ⟨nt_len h0 h1, nt_free h0 (by decide), nt_free h0 (by decide)⟩
theorem lnT_len (x : Str) : (lnT x).length = x.length + 1 := by
  unfold lnT
  rw [len_tl, tl_append, tl_nl, List.length_append, ← len_tl]
  rfl
theorem linesT_le {rs : List Str} {n : Nat} (h : ∀ r ∈ rs, r.length ≤ n) : (linesT rs).length ≤ rs.length * (n + 1) := by
  have := join_le (y := em) (n := n + 1) (ps := rs.map lnT) fun p hp => by
    obtain ⟨r, hr, rfl⟩ := List.mem_map.mp hp
    rw [lnT_len]
    have := h r hr
    omega
  rw [List.length_map] at this
  have e : em.length = 0 := by decide +kernel
  rw [e] at this
  exact this
theorem app_len (a b : Str) : (a ++ b).length = a.length + b.length := by
  rw [len_tl, tl_append, List.length_append, ← len_tl, ← len_tl]
theorem em_len : Str.empty.length = 0 := rfl
theorem log_le {i : Int} (h0 : 0 ≤ i) (h1 : i ≤ 9999999999999999) : i.natAbs.log2 < 1920 := by
  have h : i.natAbs < 2 ^ 1920 := Nat.lt_of_le_of_lt (show i.natAbs ≤ 9999999999999999 by omega) (by decide)
  by_cases hz : i.natAbs = 0
  · rw [hz]
    decide
  · exact (Nat.log2_lt hz).mpr h
def rJoinK (K : PySem.W.Frag) : V → List V → Hp → VK → Prop := fun x xs H Q => ∃ a p, ∃ ys : List Str, x = .str a ∧ xs = [.ref p] ∧ (SqL K H p (ys.map V.str) ∨ SqT K H p (ys.map V.str)) ∧ (ys.map (·.length)).sum + ys.length * a.length ≤ 16777216 ∧ Q (.str (Txt.join a ys)) H
theorem hit_no {k z : Str} {f : List V → Bool} {vs : List V} (h : z ≠ k) : hitLit k f (.str z :: vs) = false := by
  show (decide (V.str z = V.str k) && f vs) = false
  rw [decide_eq_false (fun e => h (by injection e)), Bool.false_and]
theorem hit_yes {k : Str} {f : List V → Bool} {vs : List V} : hitLit k f (.str k :: vs) = f vs := by
  show (decide (V.str k = V.str k) && f vs) = f vs
  rw [decide_eq_true rfl, Bool.true_and]
theorem sql_same {K : PySem.W.Frag} {H H' : Hp} {a : Addr} {xs : List V} (h : SqL K H a xs) (s : Same H H') : SqL K H' a xs := by
  rcases h with h | h
  · refine .inl ?_
    rcases h with h | ⟨o, h⟩
    · exact .inl (s _ _ h)
    · exact .inr ⟨o, s _ _ h⟩
  · exact .inr h
end KP
/-! a tuple taken apart around a star; str(x) of a text, an int or a tuple -/
namespace KT
open PySem PySem.Spec PyProof.Rows L2 KM
section
variable {X : Cx} {pins : List (Addr × Obj)} {σ : L2.St} {H : Hp} {s : Shared}
theorem unpackStarT {a : Addr} {xs : List V} {n i : Nat} {R : List Value → Shared → Prop} (hc : X.calm = true) (I : Inv X pins σ H s) (hq : SqT X.K H a xs) (hi : i < n) (hn : n ≤ xs.length + 1)
    (h : ∀ D us s', H D = none → Inv X pins σ (upd H D (.lst ((xs.drop i).take (xs.length + 1 - n)))) s' → Vals (xs.take i ++ [.ref D] ++ (xs.drop i).drop (xs.length + 1 - n)) us → R us s') :
    wpAny (model X.prog X.w) X.A (unpackItems (.ref a) n (some i)) R X.xe s := by
  obtain ⟨its, rv, hl, hz⟩ := I.tuple hq
  have hlen : xs.length = its.length := rv.length
  have hh := I.ok.hd hc
  have hsz : its.toArray.size = its.length := by simp
  have hlt : a ≠ s.heap.objs.size := by obtain ⟨o, ho, _⟩ := hl; exact Nat.ne_of_lt (Heap.lt_size ho)
  unfold unpackItems
  refine wpAny_bind ?_
  unfold notIterableAtAll
  refine wpAny_bind (wpAny_specialOf hl.typeIs slot_tuple_iter.lookup ?_)
  refine wpAny_pure ?_
  simp only [Bool.false_eq_true, if_false]
  refine wpAny_bind (wpAny_holding (iter_tuple hl ?_))
  refine wpAny_bind (wpAny_holding (draw_tuple hlt i 0 _ _ ⟨_, Heap.get?_push_size _ rfl, rfl, rfl⟩ (hl.push _) (by omega) fun h₁ hit₁ hs₁ => ?_))
  have hl₁ : IsTup h₁ a its.toArray := (hl.push _).extBut hs₁.extBut hlt
  rw [Nat.zero_add] at hit₁
  have hit₁' := hit₁
  obtain ⟨oi, hoi, _⟩ := hit₁'
  have hl₁' := hl₁
  obtain ⟨ol, hol, _⟩ := hl₁'
  rw [List.drop_zero]
  have hfl : (its.take i).length = i := by rw [List.length_take]; omega
  show wpAny _ _ (if (its.take i).length < i then _ else _) _ _ _
  rw [if_neg (by rw [hfl]; omega)]
  refine wpAny_bind (wpAny_holding (PySem.W.kun_collect (s := { s with heap := h₁ }) (T := "tuple_iterator") (.inr (.inr (.inr rfl))) (Walks.tuple (A := X.A.in1) hh s.heap.objs.size a hlt its.toArray) (fun j u st => st.1.typeIs) (k := i) (by omega) ⟨hit₁, hl₁⟩ (Heap.lt_size hoi) (Heap.lt_size hol) (fun h₂ tk hk => ?_) (by omega)))
  have hrl : (its.drop i).length = its.length - i := List.length_drop ..
  have hmid : (its.drop i).length - (n - 1 - i) = its.length + 1 - n := by rw [hrl]; omega
  show wpAny _ _ (if (its.drop i).length < n - 1 - i then _ else _) _ _ _
  rw [if_neg (by rw [hrl]; omega)]
  show wpAny _ _ (newList ((its.drop i).take ((its.drop i).length - (n - 1 - i))) >>= fun d => pure (its.take i ++ [d] ++ (its.drop i).drop ((its.drop i).length - (n - 1 - i)))) _ _ _
  rw [hmid]
  have he : ∀ b o, s.heap.get? b = some o → h₂.get? b = some o := fun b o e => hk b o (Nat.ne_of_lt (Heap.lt_size e)) (hs₁.extBut b o (Nat.ne_of_lt (Heap.lt_size e)) (Heap.get?_push_of_some _ e))
  have I2 : Inv X pins σ H { s with heap := h₂, toks := tk } := I.kept he
  have hf : H h₂.objs.size = none := I2.hok.fresh (Nat.le_refl _)
  have hlm : ((its.drop i).take (its.length + 1 - n)).length ≤ sizeLine := by
    rw [List.length_take, hrl]
    omega
  refine wpAny_bind (wpAny_newList (s := { s with heap := h₂, toks := tk }) (wpAny_pure ?_) hlm)
  refine h h₂.objs.size _ _ hf (I2.laid (t' := tk) (fun b u e => Heap.get?_push_of_some _ e) (Nat.le_refl _) ?_) ?_
  · refine ⟨?_, _, 0, ?_, Heap.get?_push_size _ rfl⟩
    · rw [List.length_take, List.length_drop]
      omega
    · rw [hlen]
      exact vals_take _ (vals_drop _ rv)
  · rw [hlen]
    exact vals_app (vals_app (vals_take _ rv) (.cons rfl .nil)) (vals_drop _ (vals_drop _ rv))
end
section
variable {X : Cx} {pos : Pos}
/-- (.., *a, ..) = a tuple: n targets, the star's at i -/
def gStarT (K : PySem.W.Frag) (n i : Nat) (t : TGs) : TG := fun v σ H Q => ∃ a xs, v = .ref a ∧ SqT K H a xs ∧ n ≤ xs.length + 1 ∧ ∀ D, H D = none → t (xs.take i ++ [.ref D] ++ (xs.drop i).drop (xs.length + 1 - n)) σ (upd H D (.lst ((xs.drop i).take (xs.length + 1 - n)))) Q
theorem pg_starT {es : List Expr} {k : Nat} {t : TGs} {n i : Nat} (hc : X.calm = true) (h : PGs X es t)
    (hn : (assignEach es X.env).length = n := by rfl) (hst : (assignEach es X.env).findIdx? (·.1) = some i := by rfl) (hi : i < n := by decide) : PG X (.Tuple es k pos) (gStarT X.K n i t) := by
  refine ⟨fun pins s σ H v u Q I r hw => ?_⟩
  obtain ⟨a, xs, e1, hq, hl, hw⟩ := hw
  subst e1
  cases r
  rw [PyProof.Rows.assign_Tuple]
  refine wpAny_bind (wpAny_standAt ?_)
  unfold unpack
  rw [hn, hst]
  refine wpAny_bind (wpAny_holding (unpackStarT hc I hq hi hl fun D us s' hD I' r' => ?_))
  exact h.run pins _ σ _ _ _ Q I' r' (hw D hD)
end
/-- what may stand in a tuple that is told as a text -/
def Shown (v : V) : Prop := (∃ y : Str, v = .str y ∧ y.length ≤ 20 ∧ ∀ c ∈ y.cps.toList, c < 16 ^ 8) ∨ ∃ i : Int, v = .int i ∧ 0 ≤ i ∧ i ≤ 9999999999999999
theorem shown_all : ∀ {vs : List V} {its : List Value}, Vals vs its → (∀ v ∈ vs, Shown v) → ∃ ts : List Str, (∀ (prog : Program) (w : World), ReprAll prog w its ts) ∧ ts.length = vs.length ∧ ∀ t ∈ ts, t.length ≤ 204
  | _, _, .nil, _ => ⟨[], fun _ _ => .nil, rfl, fun _ h => nomatch h⟩
  | _, _, .cons r1 r2, h => by
    rename_i v u vs us
    obtain ⟨ts, h1, h2, h3⟩ := shown_all r2 fun v hv => h v (List.mem_cons_of_mem _ hv)
    rcases h v List.mem_cons_self with ⟨y, rfl, hy, hc⟩ | ⟨i, rfl, h0, h1'⟩
    · obtain ⟨t, rfl⟩ := r1
      have hl := StrLaws.reprText_len y hc
      refine ⟨reprText y :: ts, fun prog w => .cons (ReprIs.str y t ?_) (h1 prog w), by rw [List.length_cons, List.length_cons, h2], fun x hx => ?_⟩
      · have e : sizeLine = 16777216 := by decide
        omega
      · rcases List.mem_cons.mp hx with rfl | hx
        · omega
        · exact h3 x hx
    · obtain ⟨t, rfl⟩ := r1
      have hl := KP.nt_len h0 h1'
      refine ⟨KP.nt i :: ts, fun prog w => .cons (ReprIs.int t (KP.log_le h0 h1')) (h1 prog w), by rw [List.length_cons, List.length_cons, h2], fun x hx => ?_⟩
      rcases List.mem_cons.mp hx with rfl | hx
      · omega
      · exact h3 x hx
theorem piled_le : ∀ {ts : List Str}, (∀ t ∈ ts, t.length ≤ 204) → piled ts ≤ ts.length * 206
  | [], _ => Nat.zero_le _
  | t :: ts, h => by
    have h1 := h t List.mem_cons_self
    have h2 := piled_le (ts := ts) fun x hx => h x (List.mem_cons_of_mem _ hx)
    rw [piled_cons, List.length_cons, Nat.succ_mul]
    omega
theorem str_of_tuple {prog : Program} {w : World} {A : Around} {E : Value → Shared → Prop} {s : Shared} {a : Addr} {o : Obj} {items : Array Value} {n : Nat} {ts : List Str} {Q : Value → Shared → Prop} (hu : A.units + 4 < cLine) (ha : s.heap.get? a = some o) (hc : o.cls = .type "tuple") (hd : o.data = .seq items n) (hT : ∀ (prog : Program) (w : World), ReprAll prog w items.toList ts) (hsz : (tupleText ts).length ≤ sizeLine)
    (h : ∀ (m : Str) (u tk : Tok), m.length ≤ (tupleText ts).length + 5 → Q (.str m u) { s with toks := tk }) : wpAny (model prog w) A (call (.type "str") [.ref a]) Q E s :=
  callType_new F.called_str (by decide) (F.typeCall_str_1 _) (F.newCall_str_1 _) (fun obj => F.args_object_init_2 obj _) F.entry_str_new
    (meets_str_new (S := fun A' R s' => A'.units + 3 < cLine ∧ s'.heap.get? a = some o ∧ ∀ (m : Str) (u tk : Tok), m.length ≤ (tupleText ts).length + 5 → R (.ok (.ret (.str m u))) { s' with toks := tk })
      fun prog' w' A' R s' h => wpAny_strOf_slot (A := A'.in1) rfl (by show A'.units + 1 + 1 < cLine; have := h.1; omega) ⟨o, h.2.1, hc⟩ F.slot_tuple_str F.slot_tuple_repr
        (fmt_tuple_repr (prog := prog') (w := w') h.2.1 hc hd (hT prog' w') hsz fun m u tk hm => ⟨m, u, rfl, h.2.2 m u tk hm⟩))
    ⟨by show A.units + 1 + 3 < cLine; omega, ha, fun m u tk hm => ⟨typeIs_str _ _ _, h m u tk hm⟩⟩
/-- str(x) of a text, an int or a tuple of such -/
def rStrA (K : PySem.W.Frag) : List V → Hp → VK → Prop := fun xs H Q => (∃ a : Str, xs = [.str a] ∧ Q (.str a) H) ∨ (∃ i : Int, xs = [.int i] ∧ i.natAbs.log2 < 1920 ∧ Q (.str (KP.nt i)) H) ∨
  ∃ (p : Addr) (vs : List V), xs = [.ref p] ∧ SqT K H p vs ∧ vs.length ≤ 10 ∧ (∀ v ∈ vs, Shown v) ∧ ∀ m : Str, m.length ≤ 3000 → Q (.str m) H
theorem call_strA {X : Cx} (hu0 : X.A.units + 64 < cLine) : CallR X (.type "str") (rStrA X.K) := by
  intro pins s σ H xs us Q I r h
  rcases h with ⟨a, e, q⟩ | ⟨i, e, hz, q⟩ | ⟨p, vs, rfl, ht, hl, hs, q⟩
  · exact SkE.call_str_str pins s σ H xs us Q I r ⟨a, e, q⟩
  · exact call_str_int pins s σ H xs us Q I r ⟨i, e, hz, q⟩
  · obtain ⟨u, rfl, r1⟩ := vals1 r
    cases r1
    obtain ⟨its, rv, ⟨o, ho, hcl, n, hd⟩, _⟩ := I.tuple ht
    obtain ⟨ts, h1, h2, h3⟩ := shown_all rv hs
    have hp := piled_le h3
    have htx := fmt_text ts
    have hl2 : ts.length * 206 ≤ 10 * 206 := Nat.mul_le_mul_right _ (by omega)
    have e : sizeLine = 16777216 := by decide
    exact str_of_tuple (ts := ts) (by omega) ho hcl hd (by simpa using h1) (by omega) fun m u tk hm => ⟨.str m, H, I.tok _, ⟨u, rfl⟩, q m (by omega)⟩
end KT
namespace KP
open PySem L2 KD KM KT TL
abbrev sTx : Stmt := top 33
abbrev nTx : List Str := ["rows", "row"]
theorem scTx : FnScope nTx ["rows"] (defScope sTx) := ⟨rfl, rfl, rfl, by decide +kernel, rfl, by decide +kernel, by decide +kernel⟩
abbrev sRo2 : Stmt := top 32
abbrev nRo2 : List Str := ["text", "rows", "last"]
theorem scRo2 : FnScope nRo2 ["text"] (defScope sRo2) := ⟨rfl, rfl, rfl, by decide +kernel, rfl, by decide +kernel, by decide +kernel⟩
abbrev sNt : Stmt := top 34
abbrev nNt : List Str := ["number"]
theorem scNt : FnScope nNt ["number"] (defScope sNt) := ⟨rfl, rfl, rfl, by decide +kernel, rfl, by decide +kernel, by decide +kernel⟩
abbrev sTt : Stmt := top 35
abbrev nTt : List Str := ["told", "fields", "note", "field"]
theorem scTt : FnScope nTt ["told"] (defScope sTt) := ⟨rfl, rfl, rfl, by decide +kernel, rfl, by decide +kernel, by decide +kernel⟩
abbrev sLx : Stmt := top 36
abbrev nLx : List Str := ["line", "day", "date", "told", "number"]
theorem scLx : FnScope nLx ["line"] (defScope sLx) := ⟨rfl, rfl, rfl, by decide +kernel, rfl, by decide +kernel, by decide +kernel⟩
abbrev sLs : Stmt := top 37
abbrev nLs : List Str := ["lines", "line"]
theorem scLs : FnScope nLs ["lines"] (defScope sLs) := ⟨rfl, rfl, rfl, by decide +kernel, rfl, by decide +kernel, by decide +kernel⟩

/-- str(x) of a text or an int -/
def rStrIS : List V → Hp → VK → Prop := fun xs H Q => (∃ a : Str, xs = [.str a] ∧ Q (.str a) H) ∨ ∃ i : Int, xs = [.int i] ∧ i.natAbs.log2 < 1920 ∧ Q (.str (nt i)) H
theorem call_strIS {X : Cx} : CallR X (.type "str") rStrIS := by
  intro pins s σ H xs us Q I r h
  rcases h with ⟨a, e, q⟩ | ⟨i, e, hz, q⟩
  · exact SkE.call_str_str pins s σ H xs us Q I r ⟨a, e, q⟩
  · exact call_str_int pins s σ H xs us Q I r ⟨i, e, hz, q⟩
/-! ### the words of an entry, of a line -/
def nw (n : Str) : Str := if n = "" then "-" else n
def fw : V → Str
  | .str x => x
  | .int i => nt i
  | _ => ""
def En.note : En → Str
  | .give _ _ n => n | .hold _ _ _ n => n | .move _ _ _ n => n | .spend _ _ n => n | .promise _ _ _ n => n | .lessen _ _ n => n | .out _ _ n => n
def En.pre (e : En) : List V := e.tup.dropLast
theorem tup_pre (e : En) : e.tup = e.pre ++ [.str e.note] := by cases e <;> rfl
def En.ws (e : En) : List Str := e.pre.map fw ++ [nw e.note]
inductive Ln where
  | in_ (d t : Int) (e : En)
  | back (d n : Int)
  | right (d n t : Int) (e : En)
def Num (i : Int) : Prop := 0 ≤ i ∧ i ≤ 9999999999999999
def Ln.ok : Ln → Prop
  | .in_ d t e => Num d ∧ Num t ∧ e.ok
  | .back d n => Num d ∧ Num n
  | .right d n t e => Num d ∧ Num n ∧ Num t ∧ e.ok
def Ln.ws : Ln → List Str
  | .in_ d t e => (["in", nt d, nt t] : List Str) ++ e.ws
  | .back d n => ["back", nt d, nt n]
  | .right d n t e => (["right", nt d, nt n, nt t] : List Str) ++ e.ws
def Ln.text (l : Ln) : Str := rowT l.ws
def ltext (ls : List Ln) : Str := linesT (ls.map Ln.text)
def LnAt (H : Hp) (p : Addr) : Ln → Prop
  | .in_ d t e => ∃ r, H p = some (.tup [.str "in", .int d, .int t, .ref r]) ∧ H r = some (.tup e.tup)
  | .back d n => H p = some (.tup [.str "back", .int d, .int n])
  | .right d n t e => ∃ r, H p = some (.tup [.str "right", .int d, .int n, .int t, .ref r]) ∧ H r = some (.tup e.tup)
theorem LnAt.same {H H' : Hp} {p : Addr} {l : Ln} (h : LnAt H p l) (s : Same H H') : LnAt H' p l := by
  cases l with
  | in_ d t e => obtain ⟨r, a, b⟩ := h; exact ⟨r, s _ _ a, s _ _ b⟩
  | back d n => exact s _ _ h
  | right d n t e => obtain ⟨r, a, b⟩ := h; exact ⟨r, s _ _ a, s _ _ b⟩
/-- a word or a number of an entry -/
def Fld (v : V) : Prop := (∃ x : Str, v = .str x ∧ IsW x) ∨ ∃ i : Int, v = .int i ∧ Num i
theorem kind_w : ∀ x ∈ (["give", "hold", "move", "spend", "promise", "lessen", "out", "in", "back", "right"] : List Str), IsW x := by
  intro x hx
  have : ∀ x ∈ (["give", "hold", "move", "spend", "promise", "lessen", "out", "in", "back", "right"] : List Str), (x.cps.toList.all (fun c => decide (c ∈ letters.cps.toList))) = true ∧ 1 ≤ x.length ∧ x.length ≤ 8 := by decide +kernel
  obtain ⟨a, b, c⟩ := this x hx
  exact ⟨fun z hz => (of_decide_eq_true (p := z ∈ letters.cps.toList) (List.all_eq_true.mp a z hz)), b, c⟩
theorem coin_num {c : Int} (h : Coin c) : Num c := ⟨by unfold Coin at h; omega, by unfold Coin at h; omega⟩
theorem pre_fld {e : En} (h : e.ok) : ∀ v ∈ e.pre, Fld v := by
  intro v hv
  cases e <;> simp only [En.pre, En.tup, En.args, En.kind, List.dropLast, List.mem_cons, List.not_mem_nil, or_false] at hv
  · rcases hv with rfl | rfl | rfl
    · exact .inl ⟨_, rfl, kind_w _ (by simp)⟩
    · exact .inl ⟨_, rfl, h.1⟩
    · exact .inr ⟨_, rfl, coin_num h.2.1⟩
  · rcases hv with rfl | rfl | rfl | rfl
    · exact .inl ⟨_, rfl, kind_w _ (by simp)⟩
    · exact .inl ⟨_, rfl, h.1⟩
    · exact .inr ⟨_, rfl, coin_num h.2.1⟩
    · exact .inr ⟨_, rfl, ⟨by have := h.2.2.1; omega, by have := h.2.2.1; omega⟩⟩
  · rcases hv with rfl | rfl | rfl | rfl
    · exact .inl ⟨_, rfl, kind_w _ (by simp)⟩
    · exact .inl ⟨_, rfl, h.1⟩
    · exact .inl ⟨_, rfl, h.2.1⟩
    · exact .inr ⟨_, rfl, coin_num h.2.2.2.1⟩
  · rcases hv with rfl | rfl | rfl
    · exact .inl ⟨_, rfl, kind_w _ (by simp)⟩
    · exact .inl ⟨_, rfl, h.1⟩
    · exact .inr ⟨_, rfl, coin_num h.2.1⟩
  · rcases hv with rfl | rfl | rfl | rfl
    · exact .inl ⟨_, rfl, kind_w _ (by simp)⟩
    · exact .inl ⟨_, rfl, h.1⟩
    · exact .inl ⟨_, rfl, h.2.1⟩
    · exact .inr ⟨_, rfl, coin_num h.2.2.1⟩
  · rcases hv with rfl | rfl | rfl
    · exact .inl ⟨_, rfl, kind_w _ (by simp)⟩
    · exact .inl ⟨_, rfl, h.1⟩
    · exact .inr ⟨_, rfl, coin_num h.2.1⟩
  · rcases hv with rfl | rfl | rfl
    · exact .inl ⟨_, rfl, kind_w _ (by simp)⟩
    · exact .inl ⟨_, rfl, h.1⟩
    · exact .inr ⟨_, rfl, coin_num h.2.1⟩
theorem note_n {e : En} (h : e.ok) : IsN e.note := by
  cases e
  · exact h.2.2
  · exact h.2.2.2
  · exact h.2.2.2.2
  · exact h.2.2
  · exact h.2.2.2
  · exact h.2.2
  · exact h.2.2
theorem pre_len (e : En) : 3 ≤ e.pre.length ∧ e.pre.length ≤ 4 := by cases e <;> simp [En.pre, En.tup, En.args]
theorem fld_wd {v : V} (h : Fld v) : Wd (fw v) := by
  rcases h with ⟨x, rfl, hx⟩ | ⟨i, rfl, h0, h1⟩
  · exact wd_w hx
  · exact wd_n h0 h1
theorem field_fw {v : V} (h : Fld v) : fieldT (fw v) = v := by
  rcases h with ⟨x, rfl, hx⟩ | ⟨i, rfl, h0, h1⟩
  · exact field_w hx
  · exact field_n h0 h1
theorem dash_wd : Wd "-" := by unfold Wd; decide +kernel
theorem nw_wd {n : Str} (h : IsN n) : Wd (nw n) := by
  unfold nw
  by_cases e : n = ""
  · rw [if_pos e]; exact dash_wd
  · rw [if_neg e]
    rcases h with h | h
    · exact absurd h e
    · exact wd_w h
theorem ws_wd {e : En} (h : e.ok) : ∀ w ∈ e.ws, Wd w := by
  intro w hw
  unfold En.ws at hw
  rcases List.mem_append.mp hw with hw | hw
  · obtain ⟨v, hv, rfl⟩ := List.mem_map.mp hw
    exact fld_wd (pre_fld h v hv)
  · rw [List.mem_singleton.mp hw]
    exact nw_wd (note_n h)
theorem ws_len (e : En) : 4 ≤ e.ws.length ∧ e.ws.length ≤ 5 := by
  have := pre_len e
  unfold En.ws
  rw [List.length_append, List.length_map, List.length_singleton]
  omega
def RwL (ws : List Str) : Prop := ws ≠ [] ∧ ws.length ≤ 9 ∧ ∀ w ∈ ws, Wd w
theorem rw_ln {l : Ln} (h : l.ok) : RwL l.ws := by
  have lit : ∀ x ∈ (["in", "back", "right"] : List Str), Wd x := fun x hx => wd_w (kind_w x (by simp at hx; rcases hx with rfl | rfl | rfl <;> simp))
  cases l with
  | in_ d t e =>
    obtain ⟨h1, h2, h3⟩ := h
    have := ws_len e
    refine ⟨by simp [Ln.ws], by simp only [Ln.ws, List.length_append, List.length_cons, List.length_nil]; omega, fun w hw => ?_⟩
    rcases List.mem_append.mp (show w ∈ (["in", nt d, nt t] : List Str) ++ e.ws from hw) with hw | hw
    · simp only [List.mem_cons, List.not_mem_nil, or_false] at hw
      rcases hw with rfl | rfl | rfl
      · exact lit _ (by simp)
      · exact wd_n h1.1 h1.2
      · exact wd_n h2.1 h2.2
    · exact ws_wd h3 w hw
  | back d n =>
    obtain ⟨h1, h2⟩ := h
    refine ⟨by simp [Ln.ws], by simp [Ln.ws], fun w hw => ?_⟩
    simp only [Ln.ws, List.mem_cons, List.not_mem_nil, or_false] at hw
    rcases hw with rfl | rfl | rfl
    · exact lit _ (by simp)
    · exact wd_n h1.1 h1.2
    · exact wd_n h2.1 h2.2
  | right d n t e =>
    obtain ⟨h1, h2, h3, h4⟩ := h
    have := ws_len e
    refine ⟨by simp [Ln.ws], by simp only [Ln.ws, List.length_append, List.length_cons, List.length_nil]; omega, fun w hw => ?_⟩
    rcases List.mem_append.mp (show w ∈ (["right", nt d, nt n, nt t] : List Str) ++ e.ws from hw) with hw | hw
    · simp only [List.mem_cons, List.not_mem_nil, or_false] at hw
      rcases hw with rfl | rfl | rfl | rfl
      · exact lit _ (by simp)
      · exact wd_n h1.1 h1.2
      · exact wd_n h2.1 h2.2
      · exact wd_n h3.1 h3.2
    · exact ws_wd h4 w hw
theorem rowL_le {ws : List Str} (h : RwL ws) : (rowT ws).length ≤ 153 := by
  have := join_le (y := sp1) (n := 16) (ps := ws) fun p hp => (h.2.2 p hp).1
  have e : sp1.length = 1 := by decide +kernel
  rw [e] at this
  unfold rowT
  have h8 := h.2.1
  have : ws.length * (16 + 1) ≤ 9 * 17 := Nat.mul_le_mul_right _ h8
  omega
theorem row_app : ∀ {as bs : List Str}, as ≠ [] → bs ≠ [] → rowT (as ++ bs) = rowT as ++ sp1 ++ rowT bs
  | [], _, h, _ => absurd rfl h
  | [a], b :: bs, _, _ => rfl
  | [a], [], _, h => absurd rfl h
  | a :: c :: as, bs, _, hb => by
    show a ++ sp1 ++ rowT ((c :: as) ++ bs) = a ++ sp1 ++ rowT (c :: as) ++ sp1 ++ rowT bs
    rw [row_app (by simp) hb]
    simp only [str_assoc]
def spTx : Sp := fun vs H Q _ => ∃ (l : Addr) (rs : List Str), vs = [.ref l] ∧ H l = some (.lst (rs.map V.str)) ∧ (∀ r ∈ rs, r.length ≤ 1000) ∧ rs.length ≤ 1000 ∧ ∀ H', Same H H' → Q (.str (linesT rs)) H'
def spRo2 : Sp := fun vs H Q _ => ∃ rs : List Str, vs = [.str (linesT rs)] ∧ (∀ r ∈ rs, 10 ∉ tl r) ∧ (linesT rs).length + 2 ≤ sizeLine ∧ ∀ p H', Same H H' → H p = none → H' p = some (.lst (rs.map V.str)) → Q (.ref p) H'
def spNt : Sp := fun vs H Q _ => ∃ i : Int, vs = [.int i] ∧ Num i ∧ Q (.str (nt i)) H
def spTt : Sp := fun vs H Q _ => ∃ (t : Addr) (e : En), vs = [.ref t] ∧ H t = some (.tup e.tup) ∧ e.ok ∧ ∀ H', Same H H' → Q (.str (rowT e.ws)) H'
def spLx : Sp := fun vs H Q _ => ∃ (t : Addr) (l : Ln), vs = [.ref t] ∧ LnAt H t l ∧ l.ok ∧ ∀ H', Same H H' → Q (.str l.text) H'
def LinesAt (H : Hp) (L : Addr) (ts : List Addr) (ls : List Ln) : Prop := H L = some (.lst (ts.map V.ref)) ∧ Paired (LnAt H) ts ls
theorem pairL_mono {H H' : Hp} (s : ∀ p l, LnAt H p l → LnAt H' p l) : ∀ {ts : List Addr} {ls : List Ln}, Paired (LnAt H) ts ls → Paired (LnAt H') ts ls
  | _, _, .nil => .nil
  | _, _, .cons a p => .cons (s _ _ a) (pairL_mono s p)
theorem pairL_get {H : Hp} : ∀ {ts : List Addr} {ls : List Ln} {i : Nat} {t : Addr}, Paired (LnAt H) ts ls → ts[i]? = some t → ∃ l, ls[i]? = some l ∧ LnAt H t l
  | _, _, _, _, .nil, h => by simp at h
  | _, _, 0, t, .cons a p, h => by
    have e := Option.some.inj h
    subst e
    exact ⟨_, rfl, a⟩
  | _, _, i + 1, t, .cons a p, h => pairL_get (i := i) (t := t) p (by simpa using h)
theorem pairL_snoc {H : Hp} {t : Addr} {l : Ln} (h : LnAt H t l) : ∀ {ts : List Addr} {ls : List Ln}, Paired (LnAt H) ts ls → Paired (LnAt H) (ts ++ [t]) (ls ++ [l])
  | _, _, .nil => .cons h .nil
  | _, _, .cons a p => .cons a (pairL_snoc h p)
theorem LinesAt.same {H H' : Hp} {L : Addr} {ts : List Addr} {ls : List Ln} (h : LinesAt H L ts ls) (s : Same H H') : LinesAt H' L ts ls := ⟨s _ _ h.1, pairL_mono (fun _ _ a => a.same s) h.2⟩
def spLs : Sp := fun vs H Q _ => ∃ (L : Addr) (ts : List Addr) (ls : List Ln), vs = [.ref L] ∧ LinesAt H L ts ls ∧ (∀ l ∈ ls, l.ok) ∧ ts.length ≤ 100 ∧ ∀ H', Same H H' → Q (.str (ltext ls)) H'
section
variable {P : Program} {w : World} {K : PySem.W.Frag} {mg : Str → Option Value} {base : Heap} {C : Nat → Addr}
theorem c_tx (B : Base K mg) (D : DefT K mg "text_of" sTx ["rows"]) : Cal P w K mg base 1 "text_of" spTx := by
  refine cal D scTx (fun vs H Q E h => ?_) (fun f cdv A outer s H vs Q E hr h => ?_)
  · obtain ⟨l, rs, rfl, _⟩ := h
    rfl
  · obtain ⟨l, rs, rfl, hl, hw, hn, k⟩ := h
    have hz : sizeLine = 16777216 := by decide
    refine ⟨_, (pss_one (ps_ret (pe_join pe_str (pe_lc (own := [("row", 1)]) (g := (gName 1)) (tt := tYes) (te := (KT.tFs [tFmt (tVar 1), tC (.str "\n")])) rfl scTx.nd (pi_list (pv 0)) (blkOk_by (N := nTx) (sc := defScope sTx) (by decide +kernel)) (fun _ _ _ _ _ => (pg_name (i := 1) scTx.nd rfl (by first | exact Or.inl rfl | exact Or.inr rfl))) (fun _ _ _ _ _ => pts_nil) (fun _ _ _ _ _ => (KT.pe_fs (.cons (pe_fmt (pv 1)) (.cons pe_str .nil)))))))), ?_⟩
    refine ⟨⟨_, rfl⟩, _, rfl, l, rfl, ⟨_, SqL.of hl⟩, fun D hD => lc_it (walk_list (xs := rs.map V.str)) (fun i H' => H' = upd H D (.lst (((rs.take i).map lnT).map V.str))) rfl (fun i H' _ e => by rw [e]; exact SqL.of (same_new hD _ _ hl)) ?_ ?_⟩
    · rintro i v H1 H2 hi rfl ⟨rfl, hv⟩
      obtain ⟨r, hr2, rfl⟩ : ∃ r, rs[i]? = some r ∧ v = V.str r := by
        rw [List.getElem?_map] at hv
        cases e : rs[i]? with
        | none => rw [e] at hv; cases hv
        | some z => rw [e] at hv; exact ⟨z, rfl, (Option.some.inj hv).symm⟩
      have hrl := hw r (List.mem_of_getElem? hr2)
      have n1 : ("\n" : Str).length = 1 := by decide +kernel
      refine ⟨rfl, yes (iteT ⟨_, rfl, .inl ⟨r, rfl, (by omega), r, rfl, (by rw [app_len, em_len]; omega), _, rfl, (by rw [app_len, app_len, em_len]; omega), _, upd_same, ?_, ?_⟩⟩)⟩
      · rw [List.length_map, List.length_map, List.length_take]
        omega
      · rw [upd_upd, take_more hr2, List.map_append, List.map_append, empty_app]
        rfl
    · rintro H1 rfl
      rw [List.length_map, List.take_length]
      refine ⟨_, D, rs.map lnT, rfl, rfl, .inl (SqL.of upd_same), ?_, ?_⟩
      · have := sum_le (n := 1001) (ps := rs.map lnT) fun p hp => by
          obtain ⟨r, hr, rfl⟩ := List.mem_map.mp hp
          rw [lnT_len]
          have := hw r hr
          omega
        have e : ("" : Str).length = 0 := by decide +kernel
        rw [e, Nat.mul_zero]
        rw [List.length_map] at this
        have : rs.length * 1001 ≤ 1000 * 1001 := Nat.mul_le_mul_right _ hn
        omega
      · rw [join_eq]
        exact k _ (same_new hD)
theorem c_ro2 (B : Base K mg) (D : DefT K mg "rows_of" sRo2 ["text"]) : Cal P w K mg base 1 "rows_of" spRo2 := by
  refine cal D scRo2 (fun vs H Q E h => ?_) (fun f cdv A outer s H vs Q E hr h => ?_)
  · obtain ⟨rs, rfl, _⟩ := h
    rfl
  · obtain ⟨rs, rfl, hf, hl, k⟩ := h
    refine ⟨_, (pss_cons (ps_if (pt_not (pt_val (pe_callB call_isi (by rfl) B.isi (by decide +kernel) (pa_cons (pv 0) (pa_cons (pe_bltn (v := .ty "str") (by rfl) B.str (by decide +kernel) rfl) pa_nil))))) (pss_one ps_never) pss_nil)
        (pss_cons (ps_asg (pe_split (pv 0) pe_str) (KT.pg_star (n := 2) (i := 0) rfl (KT.pgs_star (pg_name (i := 1) scRo2.nd rfl (by first | exact Or.inl rfl | exact Or.inr rfl)) (pgs_cons (pg_name (i := 2) scRo2.nd rfl (by first | exact Or.inl rfl | exact Or.inr rfl)) pgs_nil))))
        (pss_cons (ps_if (pt_cmpR op_ne (pv 2) pe_str (nomark _)) (pss_one ps_never) pss_nil)
        (pss_one (ps_ret (pv 1)))))), ?_⟩
    refine ⟨_, rfl, _, _, _, _, true, rfl, .ty _, .base (.str _), kit_ty (by decide +kernel), _, rfl, iteF ?_⟩
    have es : Txt.split (linesT rs) "\n" = rs ++ [em] := lines_split hf
    refine ⟨_, rfl, ⟨_, rfl⟩, _, _, rfl, rfl, (by decide +kernel), hl, fun p hp => ?_⟩
    rw [es]
    have el : ((rs ++ [em]).map V.str).length + 1 - 2 = rs.length := by simp
    have e1 : (((rs ++ [em]).map V.str).drop 0).take (((rs ++ [em]).map V.str).length + 1 - 2) = rs.map V.str := by
      rw [el, List.drop_zero, List.map_append, List.take_append_of_le_length (by simp), List.take_of_length_le (by simp)]
    have e2 : (((rs ++ [em]).map V.str).drop 0).drop (((rs ++ [em]).map V.str).length + 1 - 2) = [V.str em] := by
      rw [el, List.drop_zero, List.map_append, List.drop_append_of_le_length (by simp), List.drop_of_length_le (by simp)]
      rfl
    refine ⟨p, _, rfl, SqL.of upd_same, (by simp), fun D2 hD2 => ?_⟩
    rw [e1, e2]
    refine ⟨_, _, rfl, _, _, rfl, rfl, _, rfl, rfl, _, rfl, iteF ?_⟩
    refine ⟨_, rfl, k D2 _ ((same_new hp).trans (same_new hD2)) (same_none (same_new hp) hD2) upd_same⟩
theorem c_nt (B : Base K mg) (TB : TextB K mg) (Wh : Cal P w K mg base 1 "is_whole" spWhole) (D : DefT K mg "number_text" sNt ["number"]) : Cal P w K mg base 2 "number_text" spNt := by
  obtain ⟨tN, hN⟩ := TB.mostN
  refine cal D scNt (fun vs H Q E h => ?_) (fun f cdv A outer s H vs Q E hr h => ?_)
  · obtain ⟨i, rfl, _⟩ := h
    rfl
  · obtain ⟨i, rfl, hi, k⟩ := h
    refine ⟨_, (pss_cons (ps_if (pt_not (pt_val (pe_cl Wh hr (by decide) (by rfl) (pa_cons (pv 0) (pa_cons pe_int (pa_cons (pe_glob (v := .int 9999999999999999) rfl hN ⟨_, rfl⟩) pa_nil)))))) (pss_one ps_never) pss_nil)
        (pss_one (ps_ret (pe_callTy call_strIS (by rfl) B.str (by decide +kernel) (pa_cons (pv 0) pa_nil))))), ?_⟩
    refine ⟨_, rfl, i, 0, 9999999999999999, rfl, _, rfl, ?_⟩
    rw [decide_eq_true (show 0 ≤ i ∧ i ≤ 9999999999999999 from hi)]
    exact iteF ⟨_, rfl, .inr ⟨i, rfl, log_le hi.1 hi.2, k⟩⟩
theorem c_tt (B : Base K mg) (TB : TextB K mg) (S : All7 P w K mg base C) (Rd : Cal P w K mg base 6 "read_entry" (spMade C)) (D : DefT K mg "told_text" sTt ["told"]) : Cal P w K mg base 7 "told_text" spTt := by
  obtain ⟨tM, hM⟩ := TB.noN
  refine cal D scTt (fun vs H Q E h => ?_) (fun f cdv A outer s H vs Q E hr h => ?_)
  · obtain ⟨t, e, rfl, _⟩ := h
    rfl
  · obtain ⟨t, e, rfl, ht, ok, k⟩ := h
    have hz : sizeLine = 16777216 := by decide
    have hl := pre_len e
    refine ⟨_, (pss_cons (ps_try_thru0 (pss_one (ps_asg (pe_told S hr (by decide) (pe_cl Rd hr (by decide) (by rfl) (pa_cons (pv 0) pa_nil))) (KT.pg_starT (n := 2) (i := 0) rfl (KT.pgs_star (pg_name (i := 1) scTt.nd rfl (by first | exact Or.inl rfl | exact Or.inr rfl)) (pgs_cons (pg_name (i := 2) scTt.nd rfl (by first | exact Or.inl rfl | exact Or.inr rfl)) pgs_nil))))))
        (pss_one (ps_ret (pe_join pe_str (pe_op op_catLW (pe_lc (own := [("field", 3)]) (g := (gName 3)) (tt := tYes) (te := (tCB rStrIS (tCons (tVar 3) tNil))) rfl scTt.nd (pi_list (pv 1)) (blkOk_by (N := nTt) (sc := defScope sTt) (by decide +kernel)) (fun _ _ _ _ _ => (pg_name (i := 3) scTt.nd rfl (by first | exact Or.inl rfl | exact Or.inr rfl))) (fun _ _ _ _ _ => pts_nil) (fun _ _ _ _ _ => (pe_callTy call_strIS (by rfl) B.str (by decide +kernel) (pa_cons (pv 3) pa_nil)))) (pe_lstW (pa_cons (pe_ifExp (pt_cmpR op_eq (pv 2) pe_str (nomark _)) (pe_glob (v := .str "-") rfl hM ⟨_, rfl⟩) (pv 2)) pa_nil))))))), ?_⟩
    refine ⟨_, rfl, t, e, rfl, ht, ok, fun p H1 s1 np ep => ⟨p, e, rfl, ep, fun q hq => ?_⟩⟩
    have s2 := same_new (o := .tup e.tup) hq
    have el : e.tup.length + 1 - 2 = e.pre.length := by rw [tup_pre, List.length_append]; simp
    have e1 : (e.tup.drop 0).take (e.tup.length + 1 - 2) = e.pre := by
      rw [el, List.drop_zero, tup_pre, List.take_append_of_le_length (Nat.le_refl _), List.take_of_length_le (Nat.le_refl _)]
    have e2 : (e.tup.drop 0).drop (e.tup.length + 1 - 2) = [V.str e.note] := by
      rw [el, List.drop_zero, tup_pre, List.drop_append_of_le_length (Nat.le_refl _), List.drop_of_length_le (Nat.le_refl _)]
      rfl
    refine ⟨q, _, rfl, SqT.of upd_same, (by rw [tup_pre, List.length_append]; simp), fun F hF => ?_⟩
    rw [e1, e2]
    have s3 := same_new (o := .lst e.pre) hF
    have S3 : Same H _ := (s1.trans s2).trans s3
    have hFF : upd (upd H1 q (.tup e.tup)) F (.lst e.pre) F = some (.lst e.pre) := upd_same
    generalize upd (upd H1 q (.tup e.tup)) F (.lst e.pre) = H3 at s3 S3 hFF
    refine ⟨_, _, rfl, _, _, rfl, rfl, ?_⟩
    refine ⟨⟨_, rfl⟩, _, rfl, F, rfl, ⟨_, SqL.of hFF⟩, fun D1 hD1 => lc_it (walk_list (xs := e.pre)) (fun i H' => Same H3 H' ∧ H' D1 = some (.lst (((e.pre.take i).map fw).map V.str))) ⟨same_new hD1, upd_same⟩ (fun i H' _ z => SqL.of (z.1 _ _ hFF)) ?_ ?_⟩
    · rintro i v H4 H5 hi ⟨s4, d4⟩ ⟨rfl, hv⟩
      have fin : ∃ acc, H5 D1 = some (.lst acc) ∧ acc.length < sizeLine ∧ Same H3 (upd H5 D1 (.lst (acc ++ [V.str (fw v)]))) ∧ upd H5 D1 (.lst (acc ++ [V.str (fw v)])) D1 = some (.lst (((e.pre.take (i + 1)).map fw).map V.str)) := by
        refine ⟨_, d4, ?_, fun b o z => ?_, ?_⟩
        · rw [List.length_map, List.length_map, List.length_take]
          omega
        · rw [upd_ne (ne_of_none z hD1)]
          exact s4 _ _ z
        · rw [upd_same, take_more hv, List.map_append, List.map_append]
          rfl
      refine ⟨rfl, yes (iteT ⟨_, rfl, ?_⟩)⟩
      rcases pre_fld ok v (List.mem_of_getElem? hv) with ⟨x, rfl, hx⟩ | ⟨n, rfl, h0, h1⟩
      · exact .inl ⟨x, rfl, fin⟩
      · exact .inr ⟨n, rfl, log_le h0 h1, fin⟩
    · rintro H4 ⟨s4, d4⟩
      rw [List.take_length] at d4
      have join : ∀ (z : Str) (A1 : Addr) (H5 : Hp), z = nw e.note → Same H4 H5 → H5 A1 = some (.lst [.str z]) → rCatLW (.ref D1) (.ref A1) H5 fun y H6 => ∃ a p, ∃ ys : List Str, V.str " " = .str a ∧ [y] = [.ref p] ∧ (SqL K H6 p (ys.map V.str) ∨ SqT K H6 p (ys.map V.str)) ∧ (ys.map (·.length)).sum + ys.length * a.length ≤ 16777216 ∧ Q (.str (Txt.join a ys)) H6 := by
        rintro z A1 H5 rfl s5 h5
        refine ⟨D1, A1, _, _, rfl, rfl, s5 _ _ d4, h5, (by rw [List.length_map, List.length_map]; show _ + 1 ≤ _; omega), fun p H6 s6 np hp => ?_⟩
        refine ⟨_, p, e.ws, rfl, rfl, .inl (SqL.of ?_), ?_, ?_⟩
        · rw [hp]
          unfold En.ws
          rw [List.map_append]
          rfl
        · have := sum_le (n := 16) (ps := e.ws) fun p hp => (ws_wd ok p hp).1
          have e1 : (" " : Str).length = 1 := by decide +kernel
          have := ws_len e
          rw [e1]
          omega
        · rw [join_eq]
          exact k _ (S3.trans (s4.trans (s5.trans s6)))
      refine ⟨_, rfl, rfl, _, rfl, ite2 (fun c => ?_) (fun c => ?_)⟩
      · have e0 : e.note = "" := by simpa using c
        exact ⟨(by show 1 ≤ sizeLine; omega), fun A1 H5 s5 n5 h5 => join _ A1 H5 (by unfold nw; rw [if_pos e0]) s5 h5⟩
      · have e0 : e.note ≠ "" := by simpa using c
        exact ⟨_, rfl, (by show 1 ≤ sizeLine; omega), fun A1 H5 s5 n5 h5 => join _ A1 H5 (by unfold nw; rw [if_neg e0]) s5 h5⟩
end
end KP
namespace KP
open PySem L2 KD KM KT TL
abbrev sRt : Stmt := top 38
abbrev nRt : List Str := ["words", "note"]
theorem scRt : FnScope nRt ["words", "note"] (defScope sRt) := ⟨rfl, rfl, rfl, by decide +kernel, rfl, by decide +kernel, by decide +kernel⟩
abbrev sRl : Stmt := top 39
abbrev nRl : List Str := ["row", "words", "day", "date", "fields", "note", "line", "number"]
theorem scRl : FnScope nRl ["row"] (defScope sRl) := ⟨rfl, rfl, rfl, by decide +kernel, rfl, by decide +kernel, by decide +kernel⟩
abbrev sRls : Stmt := top 40
abbrev nRls : List Str := ["text", "row"]
theorem scRls : FnScope nRls ["text"] (defScope sRls) := ⟨rfl, rfl, rfl, by decide +kernel, rfl, by decide +kernel, by decide +kernel⟩

theorem fs_in {a b c : Str} : Str.empty ++ "in " ++ a ++ " " ++ b ++ " " ++ c = rowT ["in", a, b] ++ sp1 ++ c := by
  rw [empty_app]
  refine ext_tl ?_
  show _ = tl ("in" ++ sp1 ++ (a ++ sp1 ++ b) ++ sp1 ++ c)
  simp only [tl_append, tl_sp]
  rw [show tl ("in " : Str) = tl "in" ++ [32] by decide +kernel, show tl (" " : Str) = [32] by decide +kernel]
  simp only [List.append_assoc]
theorem fs_back {a b : Str} : Str.empty ++ "back " ++ a ++ " " ++ b = rowT ["back", a, b] := by
  rw [empty_app]
  refine ext_tl ?_
  show _ = tl ("back" ++ sp1 ++ (a ++ sp1 ++ b))
  simp only [tl_append, tl_sp]
  rw [show tl ("back " : Str) = tl "back" ++ [32] by decide +kernel, show tl (" " : Str) = [32] by decide +kernel]
  simp only [List.append_assoc]
theorem fs_right {a b d c : Str} : Str.empty ++ "right " ++ a ++ " " ++ b ++ " " ++ d ++ " " ++ c = rowT ["right", a, b, d] ++ sp1 ++ c := by
  rw [empty_app]
  refine ext_tl ?_
  show _ = tl ("right" ++ sp1 ++ (a ++ sp1 ++ (b ++ sp1 ++ d)) ++ sp1 ++ c)
  simp only [tl_append, tl_sp]
  rw [show tl ("right " : Str) = tl "right" ++ [32] by decide +kernel, show tl (" " : Str) = [32] by decide +kernel]
  simp only [List.append_assoc]
theorem en_row_le {e : En} (h : e.ok) : (rowT e.ws).length ≤ 153 := rowL_le ⟨fun z => by have := ws_len e; rw [z] at this; simp at this, by have := ws_len e; omega, ws_wd h⟩
theorem ws_ne (e : En) : e.ws ≠ [] := fun z => by have := ws_len e; rw [z] at this; simp at this
def spRt : Sp := fun vs H Q _ => ∃ (l : Addr) (e : En), vs = [.ref l, .str (nw e.note)] ∧ H l = some (.lst ((e.pre.map fw).map V.str)) ∧ e.ok ∧ ∀ p H', Same H H' → H' p = some (.tup e.tup) → Q (.ref p) H'
def spRl : Sp := fun vs H Q _ => ∃ l : Ln, vs = [.str l.text] ∧ l.ok ∧ ∀ p H', Same H H' → LnAt H' p l → Q (.ref p) H'
def spRls : Sp := fun vs H Q _ => ∃ ls : List Ln, vs = [.str (ltext ls)] ∧ (∀ l ∈ ls, l.ok) ∧ ls.length ≤ 100 ∧ ∀ L ts H', Same H H' → H L = none → LinesAt H' L ts ls → Q (.ref L) H'
section
variable {P : Program} {w : World} {K : PySem.W.Frag} {mg : Str → Option Value} {base : Heap} {C : Nat → Addr}
set_option maxHeartbeats 2000000 in
theorem c_lx (B : Base K mg) (Nt : Cal P w K mg base 2 "number_text" spNt) (Tt : Cal P w K mg base 7 "told_text" spTt) (D : DefT K mg "line_text" sLx ["line"]) : Cal P w K mg base 8 "line_text" spLx := by
  refine cal D scLx (fun vs H Q E h => ?_) (fun f cdv A outer s H vs Q E hr h => ?_)
  · obtain ⟨t, l, rfl, _⟩ := h
    rfl
  · obtain ⟨t, l, rfl, hl, ok, k⟩ := h
    have hz : sizeLine = 16777216 := by decide
    have n1 : ("in " : Str).length = 3 := by decide +kernel
    have n2 : ("back " : Str).length = 5 := by decide +kernel
    have n3 : ("right " : Str).length = 6 := by decide +kernel
    have n0 : (" " : Str).length = 1 := by decide +kernel
    refine ⟨_, (pss_cons (ps_if (pt_not (pt_val (pe_callB call_isi (by rfl) B.isi (by decide +kernel) (pa_cons (pv 0) (pa_cons (pe_bltn (v := .ty "tuple") (by rfl) B.tuple (by decide +kernel) rfl) pa_nil))))) (pss_one ps_never) pss_nil)
        (pss_cons (ps_match (pv 0)
          (pm_case rfl op_eq (caps_cons (caps_cons (caps_cons caps_nil))) (stores_cons (i := 1) scLx.nd (stores_cons (i := 2) scLx.nd (stores_cons (i := 3) scLx.nd stores_nil rfl (by first | exact Or.inl rfl | exact Or.inr rfl)) rfl (by first | exact Or.inl rfl | exact Or.inr rfl)) rfl (by first | exact Or.inl rfl | exact Or.inr rfl)) (pss_one (ps_ret (KT.pe_fs (.cons pe_str (.cons (pe_fmt (pe_cl Nt hr (by decide) (by rfl) (pa_cons (pv 1) pa_nil))) (.cons pe_str (.cons (pe_fmt (pe_cl Nt hr (by decide) (by rfl) (pa_cons (pv 2) pa_nil))) (.cons pe_str (.cons (pe_fmt (pe_cl Tt hr (by decide) (by rfl) (pa_cons (pv 3) pa_nil))) .nil)))))))))
          (pm_case rfl op_eq (caps_cons (caps_cons caps_nil)) (stores_cons (i := 1) scLx.nd (stores_cons (i := 4) scLx.nd stores_nil rfl (by first | exact Or.inl rfl | exact Or.inr rfl)) rfl (by first | exact Or.inl rfl | exact Or.inr rfl)) (pss_one (ps_ret (KT.pe_fs (.cons pe_str (.cons (pe_fmt (pe_cl Nt hr (by decide) (by rfl) (pa_cons (pv 1) pa_nil))) (.cons pe_str (.cons (pe_fmt (pe_cl Nt hr (by decide) (by rfl) (pa_cons (pv 4) pa_nil))) .nil)))))))
          (pm_case rfl op_eq (caps_cons (caps_cons (caps_cons (caps_cons caps_nil)))) (stores_cons (i := 1) scLx.nd (stores_cons (i := 4) scLx.nd (stores_cons (i := 2) scLx.nd (stores_cons (i := 3) scLx.nd stores_nil rfl (by first | exact Or.inl rfl | exact Or.inr rfl)) rfl (by first | exact Or.inl rfl | exact Or.inr rfl)) rfl (by first | exact Or.inl rfl | exact Or.inr rfl)) rfl (by first | exact Or.inl rfl | exact Or.inr rfl)) (pss_one (ps_ret (KT.pe_fs (.cons pe_str (.cons (pe_fmt (pe_cl Nt hr (by decide) (by rfl) (pa_cons (pv 1) pa_nil))) (.cons pe_str (.cons (pe_fmt (pe_cl Nt hr (by decide) (by rfl) (pa_cons (pv 4) pa_nil))) (.cons pe_str (.cons (pe_fmt (pe_cl Nt hr (by decide) (by rfl) (pa_cons (pv 2) pa_nil))) (.cons pe_str (.cons (pe_fmt (pe_cl Tt hr (by decide) (by rfl) (pa_cons (pv 3) pa_nil))) .nil)))))))))))
          pm_nil))))
        (pss_one ps_never))), ?_⟩
    cases l with
    | in_ d dt e =>
      obtain ⟨r, h1, h2⟩ := hl
      obtain ⟨o1, o2, o3⟩ := ok
      have b1 := nt_len o1.1 o1.2
      have b2 := nt_len o2.1 o2.2
      have b3 := en_row_le o3
      refine ⟨_, rfl, _, _, _, _, true, rfl, .ty _, .base (.tup h1), kit_ty (by decide +kernel), _, rfl, iteF ?_⟩
      refine ⟨_, rfl, t, _, rfl, SqT.of h1, .inr ⟨rfl, _, _, rfl, rfl, _, rfl, iteT ?_⟩⟩
      refine ⟨_, rfl, (by rw [app_len, em_len]; omega), _, rfl, d, rfl, o1, .inl ⟨nt d, rfl, (by omega), _, rfl, (by simp only [app_len, em_len]; omega), _, rfl, (by simp only [app_len, em_len]; omega), _, rfl, dt, rfl, o2, .inl ⟨nt dt, rfl, (by omega), _, rfl, (by simp only [app_len, em_len]; omega), _, rfl, (by simp only [app_len, em_len]; omega), _, rfl, r, e, rfl, h2, o3, fun H1 s1 => .inl ⟨_, rfl, (by omega), _, rfl, (by simp only [app_len, em_len]; omega), ?_⟩⟩⟩⟩
      rw [fs_in, ← row_app (by simp) (ws_ne e)]
      exact k H1 s1
    | back d n =>
      have h1 : H t = some (.tup [.str "back", .int d, .int n]) := hl
      obtain ⟨o1, o2⟩ := ok
      have b1 := nt_len o1.1 o1.2
      have b2 := nt_len o2.1 o2.2
      refine ⟨_, rfl, _, _, _, _, true, rfl, .ty _, .base (.tup h1), kit_ty (by decide +kernel), _, rfl, iteF ?_⟩
      refine ⟨_, rfl, t, _, rfl, SqT.of h1, .inl ⟨(by simp), ?_⟩⟩
      refine ⟨t, _, rfl, SqT.of h1, .inr ⟨rfl, _, _, rfl, rfl, _, rfl, iteT ?_⟩⟩
      refine ⟨_, rfl, (by rw [app_len, em_len]; omega), _, rfl, d, rfl, o1, .inl ⟨nt d, rfl, (by omega), _, rfl, (by simp only [app_len, em_len]; omega), _, rfl, (by simp only [app_len, em_len]; omega), _, rfl, n, rfl, o2, .inl ⟨nt n, rfl, (by omega), _, rfl, (by simp only [app_len, em_len]; omega), ?_⟩⟩⟩
      rw [fs_back]
      exact k H (Same.refl _)
    | right d n dt e =>
      obtain ⟨r, h1, h2⟩ := hl
      obtain ⟨o1, o2, o3, o4⟩ := ok
      have b1 := nt_len o1.1 o1.2
      have b2 := nt_len o2.1 o2.2
      have b3 := nt_len o3.1 o3.2
      have b4 := en_row_le o4
      refine ⟨_, rfl, _, _, _, _, true, rfl, .ty _, .base (.tup h1), kit_ty (by decide +kernel), _, rfl, iteF ?_⟩
      refine ⟨_, rfl, t, _, rfl, SqT.of h1, .inl ⟨(by simp), ?_⟩⟩
      refine ⟨t, _, rfl, SqT.of h1, .inl ⟨(by simp), ?_⟩⟩
      refine ⟨t, _, rfl, SqT.of h1, .inr ⟨rfl, _, _, rfl, rfl, _, rfl, iteT ?_⟩⟩
      refine ⟨_, rfl, (by rw [app_len, em_len]; omega), _, rfl, d, rfl, o1, .inl ⟨nt d, rfl, (by omega), _, rfl, (by simp only [app_len, em_len]; omega), _, rfl, (by simp only [app_len, em_len]; omega), _, rfl, n, rfl, o2, .inl ⟨nt n, rfl, (by omega), _, rfl, (by simp only [app_len, em_len]; omega), _, rfl, (by simp only [app_len, em_len]; omega), _, rfl, dt, rfl, o3, .inl ⟨nt dt, rfl, (by omega), _, rfl, (by simp only [app_len, em_len]; omega), _, rfl, (by simp only [app_len, em_len]; omega), _, rfl, r, e, rfl, h2, o4, fun H1 s1 => .inl ⟨_, rfl, (by omega), _, rfl, (by simp only [app_len, em_len]; omega), ?_⟩⟩⟩⟩⟩
      rw [fs_right, ← row_app (by simp) (ws_ne e)]
      exact k H1 s1
theorem c_ls (B : Base K mg) (TB : TextB K mg) (Lx : Cal P w K mg base 8 "line_text" spLx) (Tx : Cal P w K mg base 1 "text_of" spTx) (D : DefT K mg "lines_text" sLs ["lines"]) : Cal P w K mg base 9 "lines_text" spLs := by
  refine cal D scLs (fun vs H Q E h => ?_) (fun f cdv A outer s H vs Q E hr h => ?_)
  · obtain ⟨L, ts, ls, rfl, _⟩ := h
    rfl
  · obtain ⟨L, ts, ls, rfl, ⟨hL, pl⟩, ok, hn, k⟩ := h
    have hz : sizeLine = 16777216 := by decide
    have ll := pl.length
    refine ⟨_, (pss_cons (ps_if (pt_not (pt_val (pe_callB call_isi (by rfl) B.isi (by decide +kernel) (pa_cons (pv 0) (pa_cons (pe_bltn (v := .ty "list") (by rfl) TB.list (by decide +kernel) rfl) pa_nil))))) (pss_one ps_never) pss_nil)
        (pss_one (ps_ret (pe_cl Tx hr (by decide) (by rfl) (pa_cons (pe_lc (own := [("line", 1)]) (g := (gName 1)) (tt := tYes) rfl scLs.nd (pi_list (pv 0)) (blkOk_by (N := nLs) (sc := defScope sLs) (by decide +kernel)) (fun _ _ _ _ _ => (pg_name (i := 1) scLs.nd rfl (by first | exact Or.inl rfl | exact Or.inr rfl))) (fun _ _ _ _ _ => pts_nil) (fun _ _ _ _ _ => (pe_cl Lx hr (by decide) (by rfl) (pa_cons (pv 1) pa_nil)))) pa_nil))))), ?_⟩
    refine ⟨_, rfl, _, _, _, _, true, rfl, .ty _, .base (.lst hL), kit_ty (by decide +kernel), _, rfl, iteF ?_⟩
    refine ⟨_, rfl, L, rfl, ⟨_, SqL.of hL⟩, fun D hD => lc_it (walk_list (xs := ts.map V.ref)) (fun i H' => Same H H' ∧ H' D = some (.lst (((ls.take i).map Ln.text).map V.str))) ⟨same_new hD, upd_same⟩ (fun i H' _ z => SqL.of (z.1 _ _ hL)) ?_ ?_⟩
    · rintro i v H4 H5 hi ⟨s4, d4⟩ ⟨rfl, hv⟩
      obtain ⟨t, ht, rfl⟩ : ∃ t, ts[i]? = some t ∧ v = V.ref t := by
        rw [List.getElem?_map] at hv
        cases e : ts[i]? with
        | none => rw [e] at hv; cases hv
        | some z => rw [e] at hv; exact ⟨z, rfl, (Option.some.inj hv).symm⟩
      obtain ⟨l, hl, la⟩ := pairL_get pl ht
      refine ⟨rfl, yes (iteT ⟨_, rfl, t, l, rfl, la.same s4, ok l (List.mem_of_getElem? hl), fun H6 s6 => ⟨_, s6 _ _ d4, ?_, fun b o z => ?_, ?_⟩⟩)⟩
      · rw [List.length_map, List.length_map, List.length_take]
        omega
      · rw [upd_ne (ne_of_none z hD)]
        exact s6 _ _ (s4 _ _ z)
      · rw [upd_same, take_more hl, List.map_append, List.map_append]
        rfl
    · rintro H4 ⟨s4, d4⟩
      have el : (ls.take (ts.map V.ref).length) = ls := List.take_of_length_le (by rw [List.length_map, ll]; exact Nat.le_refl _)
      rw [el] at d4
      refine ⟨D, ls.map Ln.text, rfl, d4, fun r hr => ?_, by rw [List.length_map]; omega, fun H5 s5 => k H5 (s4.trans s5)⟩
      obtain ⟨l, hl, rfl⟩ := List.mem_map.mp hr
      exact Nat.le_trans (rowL_le (rw_ln (ok l hl))) (by decide)
theorem c_rt (TB : TextB K mg) (Rfs : Cal P w K mg base 3 "read_fields" spRfs) (D : DefT K mg "read_told" sRt ["words", "note"]) : Cal P w K mg base 4 "read_told" spRt := by
  obtain ⟨tM, hM⟩ := TB.noN
  refine cal D scRt (fun vs H Q E h => ?_) (fun f cdv A outer s H vs Q E hr h => ?_)
  · obtain ⟨l, e, rfl, _⟩ := h
    rfl
  · obtain ⟨l, e, rfl, hl, ok, k⟩ := h
    have hz : sizeLine = 16777216 := by decide
    have pl := pre_len e
    refine ⟨_, (pss_one (ps_ret (pe_op op_catW (pe_cl Rfs hr (by decide) (by rfl) (pa_cons (pv 0) pa_nil)) (pe_tupW (pa_cons (pe_ifExp (pt_cmpR op_eq (pv 1) (pe_glob (v := .str "-") rfl hM ⟨_, rfl⟩) (nomark _)) pe_str (pv 1)) pa_nil))))), ?_⟩
    refine ⟨_, rfl, l, e.pre.map fw, rfl, hl, fun x hx => ?_, by rw [List.length_map]; omega, fun p H1 s1 np hp => ?_⟩
    · obtain ⟨v, hv, rfl⟩ := List.mem_map.mp hx
      exact Nat.le_trans (fld_wd (pre_fld ok v hv)).1 (by decide)
    have ef : (e.pre.map fw).map fieldT = e.pre := by
      rw [List.map_map]
      refine (List.map_congr_left fun v hv => ?_).trans (List.map_id _)
      exact field_fw (pre_fld ok v hv)
    rw [ef] at hp
    have fin : ∀ (z : Str) (A1 : Addr) (H2 : Hp), z = e.note → Same H1 H2 → H2 A1 = some (.tup [.str z]) → rCatW K (.ref p) (.ref A1) H2 Q := by
      rintro z A1 H2 rfl s2 h2
      refine ⟨p, A1, _, _, rfl, rfl, s2 _ _ hp, h2, (by show _ + 1 ≤ _; omega), fun q H3 s3 hq => k q H3 (s1.trans (s2.trans s3)) ?_⟩
      rw [hq, ← tup_pre]
    refine ⟨_, rfl, rfl, _, rfl, ite2 (fun c => ?_) (fun c => ?_)⟩
    · have c : nw e.note = "-" := by simpa using c
      have e0 : e.note = "" := by
        unfold nw at c
        by_cases e0 : e.note = ""
        · exact e0
        · rw [if_neg e0] at c
          rcases note_n ok with h | h
          · exact h
          · exact absurd (show (45 : Nat) ∈ tl e.note by rw [c]; decide +kernel) (w_free h (by decide))
      exact ⟨(by show 1 ≤ sizeLine; omega), fun A1 H2 s2 n2 h2 => fin _ A1 H2 e0.symm s2 h2⟩
    · have c : nw e.note ≠ "-" := by simpa using c
      have e0 : nw e.note = e.note := by
        unfold nw at c ⊢
        by_cases e0 : e.note = ""
        · rw [if_pos e0] at c
          exact absurd rfl c
        · rw [if_neg e0]
      exact ⟨_, rfl, (by show 1 ≤ sizeLine; omega), fun A1 H2 s2 n2 h2 => fin _ A1 H2 e0 s2 h2⟩
end
end KP
namespace KP
open PySem L2 KD KM KT TL
theorem take_pre {α : Type} {as bs : List α} {n : Nat} (h : as.length = n) : (as ++ bs).take n = as := by
  rw [List.take_append_of_le_length (by omega), List.take_of_length_le (by omega)]
theorem drop_pre {α : Type} {as bs : List α} {n : Nat} (h : as.length = n) : (as ++ bs).drop n = bs := by
  rw [List.drop_append_of_le_length (by omega), List.drop_of_length_le (by omega)]
  rfl
section
variable {P : Program} {w : World} {K : PySem.W.Frag} {mg : Str → Option Value} {base : Heap} {C : Nat → Addr}
set_option maxHeartbeats 2000000 in
theorem c_rl (Rf : Cal P w K mg base 2 "read_field" spRf) (Rt : Cal P w K mg base 4 "read_told" spRt) (Lx : Cal P w K mg base 8 "line_text" spLx) (D : DefT K mg "read_line" sRl ["row"]) : Cal P w K mg base 9 "read_line" spRl := by
  refine cal D scRl (fun vs H Q E h => ?_) (fun f cdv A outer s H vs Q E hr h => ?_)
  · obtain ⟨l, rfl, _⟩ := h
    rfl
  · obtain ⟨l, rfl, ok, k⟩ := h
    have hz : sizeLine = 16777216 := by decide
    have kw := rw_ln ok
    have klen := rowL_le kw
    have klen2 : l.text.length ≤ 153 := klen
    have es : Txt.split l.text " " = l.ws := row_split kw.1 fun w hw => (kw.2.2 w hw).2.1
    have wl : ∀ x ∈ l.ws, x.length ≤ sizeLine := fun x hx => by have := (kw.2.2 x hx).1; omega
    refine ⟨_, (pss_cons (ps_set (i := 1) scRl.nd rfl (by first | exact Or.inl rfl | exact Or.inr rfl) (pe_split (pv 0) pe_str))
        (C8.pss_cut (KM.ps_match (pv 1)
          (KT.pm_star (n := 5) (i := 3) rfl (KT.each_lit (KT.each_cap (KT.each_cap (KT.each_star (KT.each_cap KT.each_nil))))) (KM.stores_cons (i := 2) scRl.nd (KM.stores_cons (i := 3) scRl.nd (KM.stores_cons (i := 4) scRl.nd (KM.stores_cons (i := 5) scRl.nd KM.stores_nil rfl (by first | exact Or.inl rfl | exact Or.inr rfl)) rfl (by first | exact Or.inl rfl | exact Or.inr rfl)) rfl (by first | exact Or.inl rfl | exact Or.inr rfl)) rfl (by first | exact Or.inl rfl | exact Or.inr rfl)) (pss_one (ps_set (i := 6) scRl.nd rfl (by first | exact Or.inl rfl | exact Or.inr rfl) (pe_tupW (pa_cons pe_str (pa_cons (pe_cl Rf hr (by decide) (by rfl) (pa_cons (pv 2) pa_nil)) (pa_cons (pe_cl Rf hr (by decide) (by rfl) (pa_cons (pv 3) pa_nil)) (pa_cons (pe_cl Rt hr (by decide) (by rfl) (pa_cons (pv 4) (pa_cons (pv 5) pa_nil))) pa_nil)))))))
          (KT.pm_seq (n := 3) rfl (KT.each_lit (KT.each_cap (KT.each_cap KT.each_nil))) (KM.stores_cons (i := 2) scRl.nd (KM.stores_cons (i := 7) scRl.nd KM.stores_nil rfl (by first | exact Or.inl rfl | exact Or.inr rfl)) rfl (by first | exact Or.inl rfl | exact Or.inr rfl)) (pss_one (ps_set (i := 6) scRl.nd rfl (by first | exact Or.inl rfl | exact Or.inr rfl) (pe_tupW (pa_cons pe_str (pa_cons (pe_cl Rf hr (by decide) (by rfl) (pa_cons (pv 2) pa_nil)) (pa_cons (pe_cl Rf hr (by decide) (by rfl) (pa_cons (pv 7) pa_nil)) pa_nil))))))
          (KT.pm_star (n := 6) (i := 4) rfl (KT.each_lit (KT.each_cap (KT.each_cap (KT.each_cap (KT.each_star (KT.each_cap KT.each_nil)))))) (KM.stores_cons (i := 2) scRl.nd (KM.stores_cons (i := 7) scRl.nd (KM.stores_cons (i := 3) scRl.nd (KM.stores_cons (i := 4) scRl.nd (KM.stores_cons (i := 5) scRl.nd KM.stores_nil rfl (by first | exact Or.inl rfl | exact Or.inr rfl)) rfl (by first | exact Or.inl rfl | exact Or.inr rfl)) rfl (by first | exact Or.inl rfl | exact Or.inr rfl)) rfl (by first | exact Or.inl rfl | exact Or.inr rfl)) rfl (by first | exact Or.inl rfl | exact Or.inr rfl)) (pss_one (ps_set (i := 6) scRl.nd rfl (by first | exact Or.inl rfl | exact Or.inr rfl) (pe_tupW (pa_cons pe_str (pa_cons (pe_cl Rf hr (by decide) (by rfl) (pa_cons (pv 2) pa_nil)) (pa_cons (pe_cl Rf hr (by decide) (by rfl) (pa_cons (pv 7) pa_nil)) (pa_cons (pe_cl Rf hr (by decide) (by rfl) (pa_cons (pv 3) pa_nil)) (pa_cons (pe_cl Rt hr (by decide) (by rfl) (pa_cons (pv 4) (pa_cons (pv 5) pa_nil))) pa_nil))))))))
          (KT.pm_wild (pss_one ps_never))))))
        (pss_cons (ps_if (pt_cmpR op_ne (pe_cl Lx hr (by decide) (by rfl) (pa_cons (pv 6) pa_nil)) (pv 0) (nomark _)) (pss_one ps_never) pss_nil)
        (pss_one (ps_ret (pv 6)))))), ?_⟩
    refine ⟨_, rfl, ⟨_, rfl⟩, _, _, rfl, rfl, (by decide +kernel), (by omega), fun W hW => ?_⟩
    rw [es]
    have sW : Same H (upd H W (.lst (l.ws.map V.str))) := same_new hW
    have hWW : upd H W (.lst (l.ws.map V.str)) W = some (.lst (l.ws.map V.str)) := upd_same
    generalize upd H W (.lst (l.ws.map V.str)) = H1 at sW hWW
    refine ⟨fun σ' H' => ∃ p v1 v2 v3 v4 v5 v7, σ' = [some (.str l.text), v1, v2, v3, v4, v5, some (.ref p), v7] ∧ Same H H' ∧ LnAt H' p l, ?_, ?_⟩
    · refine ⟨_, rfl, ?_⟩
      cases l with
      | in_ d dt e =>
        obtain ⟨o1, o2, o3⟩ := ok
        have ew : (Ln.in_ d dt e).ws.map V.str = [V.str "in", V.str (nt d), V.str (nt dt)] ++ ((e.pre.map fw).map V.str ++ [V.str (nw e.note)]) := by
          show ((["in", nt d, nt dt] : List Str) ++ (e.pre.map fw ++ [nw e.note])).map V.str = _
          rw [List.map_append, List.map_append]
          rfl
        rw [ew] at hWW
        have pl := pre_len e
        have el : ([V.str "in", .str (nt d), .str (nt dt)] ++ ((e.pre.map fw).map V.str ++ [V.str (nw e.note)])).length = e.pre.length + 4 := by
          rw [List.length_append, List.length_append, List.length_map, List.length_map]
          show 3 + (_ + 1) = _
          omega
        refine ⟨W, _, rfl, SqL.of hWW, .inr ⟨(by rw [el]; omega), fun L hL ys ey => ?_⟩⟩
        have e5 : ([V.str "in", .str (nt d), .str (nt dt)] ++ ((e.pre.map fw).map V.str ++ [V.str (nw e.note)])).length + 1 - 5 = ((e.pre.map fw).map V.str).length := by rw [el, List.length_map, List.length_map]; omega
        rw [e5, take_pre (as := [V.str "in", .str (nt d), .str (nt dt)]) (n := 3) rfl, drop_pre (as := [V.str "in", .str (nt d), .str (nt dt)]) (n := 3) rfl, drop_pre (as := (e.pre.map fw).map V.str) rfl] at ey
        rw [e5, drop_pre (as := [V.str "in", .str (nt d), .str (nt dt)]) (n := 3) rfl, take_pre (as := (e.pre.map fw).map V.str) rfl]
        have ey : ys = [.str "in", .str (nt d), .str (nt dt), .ref L, .str (nw e.note)] := ey
        subst ey
        refine ⟨⟨⟨_, rfl⟩, trivial⟩, .inl ⟨hit_yes, ?_⟩⟩
        have sL : Same H1 (upd H1 L (.lst ((e.pre.map fw).map V.str))) := same_new hL
        have hLL : upd H1 L (.lst ((e.pre.map fw).map V.str)) L = some (.lst ((e.pre.map fw).map V.str)) := upd_same
        generalize upd H1 L (.lst ((e.pre.map fw).map V.str)) = H2 at sL hLL
        refine ⟨_, rfl, nt d, rfl, (by have := nt_len o1.1 o1.2; omega), fun H3 s3 => ?_⟩
        rw [field_n o1.1 o1.2]
        refine ⟨_, rfl, nt dt, rfl, (by have := nt_len o2.1 o2.2; omega), fun H4 s4 => ?_⟩
        rw [field_n o2.1 o2.2]
        refine ⟨_, rfl, _, rfl, L, e, rfl, s4 _ _ (s3 _ _ hLL), o3, fun r H5 s5 hr5 => ⟨(by show 4 ≤ sizeLine; omega), fun p H6 s6 np hp => ?_⟩⟩
        exact ⟨p, _, _, _, _, _, _, rfl, (sW.trans sL).trans ((s3.trans s4).trans (s5.trans s6)), r, hp, s6 _ _ hr5⟩
      | back d n =>
        obtain ⟨o1, o2⟩ := ok
        have hWW : H1 W = some (.lst [.str "back", .str (nt d), .str (nt n)]) := hWW
        refine ⟨W, _, rfl, SqL.of hWW, .inl ⟨(by simp), ?_⟩⟩
        refine ⟨W, _, rfl, SqL.of hWW, .inr ⟨rfl, ⟨⟨_, rfl⟩, trivial⟩, .inl ⟨hit_yes, ?_⟩⟩⟩
        refine ⟨_, rfl, nt d, rfl, (by have := nt_len o1.1 o1.2; omega), fun H3 s3 => ?_⟩
        rw [field_n o1.1 o1.2]
        refine ⟨_, rfl, nt n, rfl, (by have := nt_len o2.1 o2.2; omega), fun H4 s4 => ?_⟩
        rw [field_n o2.1 o2.2]
        refine ⟨(by show 3 ≤ sizeLine; omega), fun p H6 s6 np hp => ?_⟩
        exact ⟨p, _, _, _, _, _, _, rfl, sW.trans ((s3.trans s4).trans s6), hp⟩
      | right d n dt e =>
        obtain ⟨o1, o2, o3, o4⟩ := ok
        have ew : (Ln.right d n dt e).ws.map V.str = [V.str "right", V.str (nt d), V.str (nt n), V.str (nt dt)] ++ ((e.pre.map fw).map V.str ++ [V.str (nw e.note)]) := by
          show ((["right", nt d, nt n, nt dt] : List Str) ++ (e.pre.map fw ++ [nw e.note])).map V.str = _
          rw [List.map_append, List.map_append]
          rfl
        rw [ew] at hWW
        have pl := pre_len e
        have el : ([V.str "right", .str (nt d), .str (nt n), .str (nt dt)] ++ ((e.pre.map fw).map V.str ++ [V.str (nw e.note)])).length = e.pre.length + 5 := by
          rw [List.length_append, List.length_append, List.length_map, List.length_map]
          show 4 + (_ + 1) = _
          omega
        -- as an in: the first word is none
        refine ⟨W, _, rfl, SqL.of hWW, .inr ⟨(by rw [el]; omega), fun L0 hL0 ys ey => ?_⟩⟩
        have ey : ∃ t, ys = .str "right" :: t := by rw [ey]; exact ⟨_, rfl⟩
        obtain ⟨t, rfl⟩ := ey
        refine ⟨?_, .inr ⟨hit_no (by decide +kernel), ?_⟩⟩
        · exact ⟨⟨_, rfl⟩, by cases t with | nil => trivial | cons a t => cases t with | nil => trivial | cons a t => cases t with | nil => trivial | cons a t => cases t with | nil => trivial | cons a t => trivial⟩
        have sL0 := same_new (o := .lst ((([V.str "right", .str (nt d), .str (nt n), .str (nt dt)] ++ ((e.pre.map fw).map V.str ++ [V.str (nw e.note)])).drop 3).take (([V.str "right", .str (nt d), .str (nt n), .str (nt dt)] ++ ((e.pre.map fw).map V.str ++ [V.str (nw e.note)])).length + 1 - 5))) hL0
        have hW0 := sL0 _ _ hWW
        generalize upd H1 L0 (.lst ((([V.str "right", .str (nt d), .str (nt n), .str (nt dt)] ++ ((e.pre.map fw).map V.str ++ [V.str (nw e.note)])).drop 3).take (([V.str "right", .str (nt d), .str (nt n), .str (nt dt)] ++ ((e.pre.map fw).map V.str ++ [V.str (nw e.note)])).length + 1 - 5))) = H1' at sL0 hW0
        refine ⟨W, _, rfl, SqL.of hW0, .inl ⟨(by rw [el]; omega), ?_⟩⟩
        refine ⟨W, _, rfl, SqL.of hW0, .inr ⟨(by rw [el]; omega), fun L hL ys ey => ?_⟩⟩
        have e5 : ([V.str "right", .str (nt d), .str (nt n), .str (nt dt)] ++ ((e.pre.map fw).map V.str ++ [V.str (nw e.note)])).length + 1 - 6 = ((e.pre.map fw).map V.str).length := by rw [el, List.length_map, List.length_map]; omega
        rw [e5, take_pre (as := [V.str "right", .str (nt d), .str (nt n), .str (nt dt)]) (n := 4) rfl, drop_pre (as := [V.str "right", .str (nt d), .str (nt n), .str (nt dt)]) (n := 4) rfl, drop_pre (as := (e.pre.map fw).map V.str) rfl] at ey
        rw [e5, drop_pre (as := [V.str "right", .str (nt d), .str (nt n), .str (nt dt)]) (n := 4) rfl, take_pre (as := (e.pre.map fw).map V.str) rfl]
        have ey : ys = [.str "right", .str (nt d), .str (nt n), .str (nt dt), .ref L, .str (nw e.note)] := ey
        subst ey
        refine ⟨⟨⟨_, rfl⟩, trivial⟩, .inl ⟨hit_yes, ?_⟩⟩
        have sL : Same H1' (upd H1' L (.lst ((e.pre.map fw).map V.str))) := same_new hL
        have hLL : upd H1' L (.lst ((e.pre.map fw).map V.str)) L = some (.lst ((e.pre.map fw).map V.str)) := upd_same
        generalize upd H1' L (.lst ((e.pre.map fw).map V.str)) = H2 at sL hLL
        refine ⟨_, rfl, nt d, rfl, (by have := nt_len o1.1 o1.2; omega), fun H3 s3 => ?_⟩
        rw [field_n o1.1 o1.2]
        refine ⟨_, rfl, nt n, rfl, (by have := nt_len o2.1 o2.2; omega), fun H4 s4 => ?_⟩
        rw [field_n o2.1 o2.2]
        refine ⟨_, rfl, nt dt, rfl, (by have := nt_len o3.1 o3.2; omega), fun H4b s4b => ?_⟩
        rw [field_n o3.1 o3.2]
        refine ⟨_, rfl, _, rfl, L, e, rfl, s4b _ _ (s4 _ _ (s3 _ _ hLL)), o4, fun r H5 s5 hr5 => ⟨(by show 5 ≤ sizeLine; omega), fun p H6 s6 np hp => ?_⟩⟩
        exact ⟨p, _, _, _, _, _, _, rfl, (sW.trans (sL0.trans sL)).trans ((s3.trans (s4.trans s4b)).trans (s5.trans s6)), r, hp, s6 _ _ hr5⟩
    · rintro σ H2 ⟨p, v1, v2, v3, v4, v5, v7, rfl, s2, hp⟩
      refine ⟨_, rfl, p, l, rfl, hp, ok, fun H3 s3 => ⟨_, rfl, rfl, _, rfl, ?_⟩⟩
      show if (!decide (V.str l.text = V.str l.text)) = true then _ else _
      rw [decide_eq_true rfl]
      exact iteF ⟨_, rfl, k p H3 (s2.trans s3) (hp.same s3)⟩
theorem c_rls (Rl : Cal P w K mg base 9 "read_line" spRl) (Ro : Cal P w K mg base 1 "rows_of" spRo2) (D : DefT K mg "read_lines" sRls ["text"]) : Cal P w K mg base 10 "read_lines" spRls := by
  refine cal D scRls (fun vs H Q E h => ?_) (fun f cdv A outer s H vs Q E hr h => ?_)
  · obtain ⟨ls, rfl, _⟩ := h
    rfl
  · obtain ⟨ls, rfl, ok, hn, k⟩ := h
    have hz : sizeLine = 16777216 := by decide
    have tb : (ltext ls).length + 2 ≤ sizeLine := by
      have := linesT_le (rs := ls.map Ln.text) (n := 153) fun r hr => by
        obtain ⟨l, hl, rfl⟩ := List.mem_map.mp hr
        exact rowL_le (rw_ln (ok l hl))
      rw [List.length_map] at this
      have : ls.length * 154 ≤ 100 * 154 := Nat.mul_le_mul_right _ hn
      unfold ltext
      omega
    refine ⟨_, (pss_one (ps_ret (pe_lc (own := [("row", 1)]) (g := (gName 1)) (tt := tYes) rfl scRls.nd (pi_list (pe_cl Ro hr (by decide) (by rfl) (pa_cons (pv 0) pa_nil))) (blkOk_by (N := nRls) (sc := defScope sRls) (by decide +kernel)) (fun _ _ _ _ _ => (pg_name (i := 1) scRls.nd rfl (by first | exact Or.inl rfl | exact Or.inr rfl))) (fun _ _ _ _ _ => pts_nil) (fun _ _ _ _ _ => (pe_cl Rl hr (by decide) (by rfl) (pa_cons (pv 1) pa_nil)))))), ?_⟩
    refine ⟨_, rfl, ls.map Ln.text, rfl, (fun r hr => ?_), tb, fun p H1 s1 np hp => ?_⟩
    · obtain ⟨l, hl, rfl⟩ := List.mem_map.mp hr
      exact row_free fun w h => ((rw_ln (ok l hl)).2.2 w h).2.2
    refine ⟨p, rfl, ⟨_, SqL.of hp⟩, fun D hD => lc_it (walk_list (xs := (ls.map Ln.text).map V.str)) (fun i H' => Same H1 H' ∧ ∃ ts, LinesAt H' D ts (ls.take i)) ⟨same_new hD, [], upd_same, .nil⟩ (fun i H' _ z => SqL.of (z.1 _ _ hp)) ?_ ?_⟩
    · rintro i v H4 H5 hi ⟨s4, ts, d4, p4⟩ ⟨rfl, hv⟩
      obtain ⟨l, hl, rfl⟩ : ∃ l, ls[i]? = some l ∧ v = V.str l.text := by
        rw [List.getElem?_map, List.getElem?_map] at hv
        cases e : ls[i]? with
        | none => rw [e] at hv; cases hv
        | some z => rw [e] at hv; exact ⟨z, rfl, (Option.some.inj hv).symm⟩
      refine ⟨rfl, yes (iteT ⟨_, rfl, l, rfl, ok l (List.mem_of_getElem? hl), fun t H6 s6 ht => ⟨_, s6 _ _ d4, ?_, fun b o z => ?_, ts ++ [t], ?_, ?_⟩⟩)⟩
      · have := p4.length
        rw [List.length_map]
        rw [List.length_take] at this
        omega
      · rw [upd_ne (ne_of_none z hD)]
        exact s6 _ _ (s4 _ _ z)
      · rw [upd_same, List.map_append]
        rfl
      · have keep : ∀ (q : Addr) (m : Ln), LnAt H6 q m → LnAt (upd H6 D (.lst (ts.map V.ref ++ [V.ref t]))) q m := fun q m h => by
          have tp : ∀ {b : Addr} {r : List V}, H6 b = some (.tup r) → upd H6 D (.lst (ts.map V.ref ++ [V.ref t])) b = some (.tup r) := fun e => by
            rw [upd_ne (fun z => by rw [z, s6 _ _ d4] at e; cases e)]
            exact e
          cases m with
          | in_ d t e => obtain ⟨r, a, b⟩ := h; exact ⟨r, tp a, tp b⟩
          | back d n => exact tp h
          | right d n t e => obtain ⟨r, a, b⟩ := h; exact ⟨r, tp a, tp b⟩
        rw [take_more hl]
        exact pairL_snoc (keep _ _ ht) (pairL_mono (fun q m h => keep q m (h.same s6)) p4)
    · rintro H4 ⟨s4, ts, la⟩
      rw [List.length_map, List.length_map, List.take_length] at la
      exact k D ts H4 (s1.trans s4) (same_none s1 hD) la
end
end KP
namespace KP
open PySem L2 KD KM KT TL
abbrev sFar : Stmt := top 49
abbrev nFar : List Str := ["_law_well_here", "_law_some"]
theorem scFar : FnScope nFar ["_law_well_here"] (defScope sFar) := ⟨rfl, rfl, rfl, by decide +kernel, rfl, by decide +kernel, by decide +kernel⟩
abbrev sLin : Stmt := top 50
abbrev nLin : List Str := ["_law_well_here", "_law_lot"]
theorem scLin : FnScope nLin ["_law_well_here"] (defScope sLin) := ⟨rfl, rfl, rfl, by decide +kernel, rfl, by decide +kernel, by decide +kernel⟩
abbrev sLlt : Stmt := top 51
abbrev nLlt : List Str := ["_law_line_here", "_law_words", "_law_one"]
theorem scLlt : FnScope nLlt ["_law_line_here"] (defScope sLlt) := ⟨rfl, rfl, rfl, by decide +kernel, rfl, by decide +kernel, by decide +kernel⟩
abbrev sLns : Stmt := top 52
abbrev nLns : List Str := ["_law_well_here", "_law_many", "_law_k"]
theorem scLns : FnScope nLns ["_law_well_here"] (defScope sLns) := ⟨rfl, rfl, rfl, by decide +kernel, rfl, by decide +kernel, by decide +kernel⟩
/-! ### entries as data -/
def okd (v : V) : Prop := (∃ x, v = .str x ∧ PyData.strOk x = true) ∨ ∃ i, v = .int i
def dat : V → PyData
  | .str x => .str x
  | .int i => .int i
  | _ => .none
theorem dp_flat {K : PySem.W.Frag} {H : Hp} : ∀ {vs : List V}, (∀ v ∈ vs, okd v) → DpAll K H vs (vs.map dat)
  | [], _ => .nil
  | v :: vs, h => by
    refine .cons ?_ (dp_flat fun u hu => h u (List.mem_cons_of_mem _ hu))
    rcases h v List.mem_cons_self with ⟨x, rfl, _⟩ | ⟨i, rfl⟩
    · exact .str x
    · exact .int i
theorem lay_flat : ∀ {vs : List V}, (∀ v ∈ vs, okd v) → PyData.canLayAll0 (vs.map dat) = true ∧ PyData.depthAll (vs.map dat) = 0
  | [], _ => ⟨rfl, rfl⟩
  | v :: vs, h => by
    obtain ⟨h1, h2⟩ := lay_flat (vs := vs) fun u hu => h u (List.mem_cons_of_mem _ hu)
    have hv : (dat v).canLay0 = true ∧ (dat v).depth = 0 := by
      rcases h v List.mem_cons_self with ⟨x, rfl, hx⟩ | ⟨i, rfl⟩
      · exact ⟨hx, rfl⟩
      · exact ⟨rfl, rfl⟩
    refine ⟨?_, ?_⟩
    · show ((dat v).canLay0 && PyData.canLayAll0 (vs.map dat)) = true
      rw [hv.1, h1]; rfl
    · show max (dat v).depth (PyData.depthAll (vs.map dat)) = 0
      rw [hv.2, h2]; rfl
theorem shaped_tup {vs : List V} (h : ∀ v ∈ vs, okd v) : SeqAt.shaped (.tuple (vs.map dat)) = true := by
  obtain ⟨h1, h2⟩ := lay_flat h
  have e1 : (PyData.tuple (vs.map dat)).canLay0 = true := h1
  have e2 : (PyData.tuple (vs.map dat)).depth ≤ 64 := by
    show PyData.depthAll (vs.map dat) + 1 ≤ 64
    rw [h2]; decide
  unfold SeqAt.shaped
  rw [e1, decide_eq_true e2]; rfl
theorem eqv_self {d : PyData} (h : SeqAt.shaped d = true) : PyData.eqv d d = true := SeqAt.eqv_refl d (SeqAt.canLay_of_shaped h)

theorem okd_W {x : Str} (h : IsW x) : okd (.str x) := .inl ⟨x, rfl, strOk_W h⟩
theorem okd_I {i : Int} : okd (.int i) := .inr ⟨i, rfl⟩
def lay (n : Nat) (d : PyData) : Prop := d.canLay0 = true ∧ d.depth ≤ n
theorem lay_all {n : Nat} : ∀ {ds : List PyData}, (∀ d ∈ ds, lay n d) → PyData.canLayAll0 ds = true ∧ PyData.depthAll ds ≤ n
  | [], _ => ⟨rfl, Nat.zero_le _⟩
  | d :: ds, h => by
    obtain ⟨h1, h2⟩ := lay_all (ds := ds) fun u hu => h u (List.mem_cons_of_mem _ hu)
    obtain ⟨g1, g2⟩ := h d List.mem_cons_self
    refine ⟨?_, ?_⟩
    · show (d.canLay0 && PyData.canLayAll0 ds) = true
      rw [g1, h1]; rfl
    · show max d.depth (PyData.depthAll ds) ≤ n
      omega
theorem lay_list {n : Nat} {ds : List PyData} (h : ∀ d ∈ ds, lay n d) : lay (n + 1) (.list ds) := by
  obtain ⟨h1, h2⟩ := lay_all h
  exact ⟨h1, by show PyData.depthAll ds + 1 ≤ n + 1; omega⟩
theorem lay_tup {n : Nat} {ds : List PyData} (h : ∀ d ∈ ds, lay n d) : lay (n + 1) (.tuple ds) := by
  obtain ⟨h1, h2⟩ := lay_all h
  exact ⟨h1, by show PyData.depthAll ds + 1 ≤ n + 1; omega⟩
theorem lay_int {n : Nat} {i : Int} : lay n (.int i) := ⟨rfl, Nat.zero_le _⟩
theorem lay_str {n : Nat} {x : Str} (h : PyData.strOk x = true) : lay n (.str x) := ⟨h, Nat.zero_le _⟩
theorem lay.shaped {n : Nat} {d : PyData} (h : lay n d) (hn : n ≤ 64) : SeqAt.shaped d = true := by
  unfold SeqAt.shaped
  rw [h.1, decide_eq_true (Nat.le_trans h.2 hn)]; rfl
theorem lay.up {n m : Nat} {d : PyData} (h : lay n d) (hn : n ≤ m) : lay m d := ⟨h.1, Nat.le_trans h.2 hn⟩
theorem strOk_N {x : Str} (h : IsN x) : PyData.strOk x = true := by
  rcases h with rfl | h
  · decide +kernel
  · exact strOk_W h

def Ln.data : Ln → PyData
  | .in_ d t e => .tuple [.str "in", .int d, .int t, .tuple (e.tup.map dat)]
  | .back d n => .tuple [.str "back", .int d, .int n]
  | .right d n t e => .tuple [.str "right", .int d, .int n, .int t, .tuple (e.tup.map dat)]
def ldata (ls : List Ln) : PyData := .list (ls.map Ln.data)
theorem okd_tup {e : En} (h : e.ok) : ∀ v ∈ e.tup, okd v := by
  intro v hv
  rw [tup_pre] at hv
  rcases List.mem_append.mp hv with hv | hv
  · rcases pre_fld h v hv with ⟨x, rfl, hx⟩ | ⟨i, rfl, _⟩
    · exact okd_W hx
    · exact okd_I
  · rw [List.mem_singleton.mp hv]
    exact .inl ⟨_, rfl, strOk_N (note_n h)⟩
theorem strOk_lit : ∀ x ∈ (["in", "back", "right"] : List Str), PyData.strOk x = true := by decide +kernel
theorem lay_told {e : En} (h : e.ok) : lay 1 (.tuple (e.tup.map dat)) := by
  obtain ⟨h1, h2⟩ := lay_flat (okd_tup h)
  exact ⟨h1, by show PyData.depthAll (e.tup.map dat) + 1 ≤ 1; omega⟩
theorem lay_ln {l : Ln} (h : l.ok) : lay 2 l.data := by
  cases l with
  | in_ d t e =>
    refine lay_tup fun x hx => ?_
    simp only [List.mem_cons, List.not_mem_nil, or_false] at hx
    rcases hx with rfl | rfl | rfl | rfl
    · exact lay_str (strOk_lit _ (by simp))
    · exact lay_int
    · exact lay_int
    · exact lay_told h.2.2
  | back d n =>
    refine lay_tup fun x hx => ?_
    simp only [List.mem_cons, List.not_mem_nil, or_false] at hx
    rcases hx with rfl | rfl | rfl
    · exact lay_str (strOk_lit _ (by simp))
    · exact lay_int
    · exact lay_int
  | right d n t e =>
    refine lay_tup fun x hx => ?_
    simp only [List.mem_cons, List.not_mem_nil, or_false] at hx
    rcases hx with rfl | rfl | rfl | rfl | rfl
    · exact lay_str (strOk_lit _ (by simp))
    · exact lay_int
    · exact lay_int
    · exact lay_int
    · exact lay_told h.2.2.2
theorem sh_lines {ls : List Ln} (h : ∀ l ∈ ls, l.ok) : SeqAt.shaped (ldata ls) = true := by
  refine (lay_list (n := 2) fun d hd => ?_).shaped (by decide)
  obtain ⟨l, hl, rfl⟩ := List.mem_map.mp hd
  exact lay_ln (h l hl)
theorem dp_ln {K : PySem.W.Frag} {H : Hp} {p : Addr} {l : Ln} (h : LnAt H p l) (ok : l.ok) : Dp K H (.ref p) l.data := by
  cases l with
  | in_ d t e => obtain ⟨r, a, b⟩ := h; exact .tup (SqT.of a) (.cons (.str _) (.cons (.int _) (.cons (.int _) (.cons (.tup (SqT.of b) (dp_flat (okd_tup ok.2.2))) .nil))))
  | back d n => exact .tup (SqT.of h) (.cons (.str _) (.cons (.int _) (.cons (.int _) .nil)))
  | right d n t e => obtain ⟨r, a, b⟩ := h; exact .tup (SqT.of a) (.cons (.str _) (.cons (.int _) (.cons (.int _) (.cons (.int _) (.cons (.tup (SqT.of b) (dp_flat (okd_tup ok.2.2.2))) .nil)))))
theorem dp_lnAll {K : PySem.W.Frag} {H : Hp} : ∀ {ts : List Addr} {ls : List Ln}, Paired (LnAt H) ts ls → (∀ l ∈ ls, l.ok) → DpAll K H (ts.map V.ref) (ls.map Ln.data)
  | _, _, .nil, _ => .nil
  | _, _, .cons a p, h => .cons (dp_ln a (h _ List.mem_cons_self)) (dp_lnAll p fun l hl => h l (List.mem_cons_of_mem _ hl))
theorem LinesAt.dp {K : PySem.W.Frag} {H : Hp} {L : Addr} {ts : List Addr} {ls : List Ln} (h : LinesAt H L ts ls) (ok : ∀ l ∈ ls, l.ok) : Dp K H (.ref L) (ldata ls) := .lst (SqL.of h.1) (dp_lnAll h.2 ok)
/-! ### what the law draws -/
theorem tup_neW {H : Hp} {b p : Addr} {r : List V} (w : WellAt H b) (h : H p = some (.tup r)) : p ≠ b := fun e => by
  subst e
  obtain ⟨_, _, _, e⟩ := w
  rw [h] at e
  cases e
theorem LnAt.sameB {H H' : Hp} {b p : Addr} {l : Ln} (h : LnAt H p l) (w : WellAt H b) (s : SameB b H H') : LnAt H' p l := by
  have g : ∀ {q : Addr} {r : List V}, H q = some (.tup r) → H' q = some (.tup r) := fun e => s _ _ e (tup_neW w e)
  cases l with
  | in_ d t e => obtain ⟨r, a, b⟩ := h; exact ⟨r, g a, g b⟩
  | back d n => exact g h
  | right d n t e => obtain ⟨r, a, b⟩ := h; exact ⟨r, g a, g b⟩
theorem WellAt.same {H H' : Hp} {a : Addr} (w : WellAt H a) (s : Same H H') : WellAt H' a := by
  obtain ⟨x, y, z, e⟩ := w
  exact ⟨x, y, z, s _ _ e⟩
def spFar : Sp := fun vs H Q _ => ∃ b : Addr, vs = [.ref b] ∧ WellAt H b ∧ ∀ (i : Int) (H' : Hp), Num i → WellAt H' b → SameB b H H' → Q (.int i) H'
def spLin : Sp := fun vs H Q _ => ∃ b : Addr, vs = [.ref b] ∧ WellAt H b ∧ ∀ (p : Addr) (l : Ln) (H' : Hp), l.ok → LnAt H' p l → WellAt H' b → SameB b H H' → Q (.ref p) H'
def spLns : Sp := fun vs H Q _ => ∃ b : Addr, vs = [.ref b] ∧ WellAt H b ∧ ∀ (L : Addr) (ts : List Addr) (ls : List Ln) (H' : Hp), (∀ l ∈ ls, l.ok) → ls.length ≤ 40 → H L = none → LinesAt H' L ts ls → SameB b H H' → Q (.ref L) H'
def spLlt : Sp := fun vs H Q _ => ∃ (t : Addr) (l : Ln), vs = [.ref t] ∧ LnAt H t l ∧ l.ok ∧ ∀ H', Same H H' → Q (.str l.text) H'
def rInt1 : List V → Hp → VK → Prop := fun xs H Q => (∃ i, xs = [.int i] ∧ Q (.int i) H) ∨ ∃ k, xs = [.bl k] ∧ Q (.int (if k then 1 else 0)) H
/-- how a thing of a line is told -/
def Tld (v : V) (m : Str) : Prop := v = .str m ∨ (∃ i, v = .int i ∧ m = nt i) ∨ ∃ p, v = .ref p
theorem tld_s {x m : Str} (h : Tld (.str x) m) : m = x := by
  rcases h with h | ⟨i, h, _⟩ | ⟨p, h⟩
  · injection h with h; exact h.symm
  · cases h
  · cases h
theorem tld_i {i : Int} {m : Str} (h : Tld (.int i) m) : m = nt i := by
  rcases h with h | ⟨j, h, e⟩ | ⟨p, h⟩
  · cases h
  · injection h with h; rw [e, h]
  · cases h
theorem tld_in_ {d dt : Int} {r : Addr} {ms : List Str} (h : Paired Tld [V.str "in", .int d, .int dt, .ref r] ms) : ∃ m : Str, ms = (["in", nt d, nt dt] : List Str) ++ [m] := by
  cases h with | cons q0 h => cases h with | cons q1 h => cases h with | cons q2 h => cases h with | cons q3 h =>
  cases h
  rw [tld_s q0, tld_i q1, tld_i q2]
  exact ⟨_, rfl⟩
theorem tld_back {d n : Int} {ms : List Str} (h : Paired Tld [V.str "back", .int d, .int n] ms) : ms = (["back", nt d, nt n] : List Str) := by
  cases h with | cons q0 h => cases h with | cons q1 h => cases h with | cons q2 h =>
  cases h
  rw [tld_s q0, tld_i q1, tld_i q2]
theorem tld_right {d n dt : Int} {r : Addr} {ms : List Str} (h : Paired Tld [V.str "right", .int d, .int n, .int dt, .ref r] ms) : ∃ m : Str, ms = (["right", nt d, nt n, nt dt] : List Str) ++ [m] := by
  cases h with | cons q0 h => cases h with | cons q1 h => cases h with | cons q2 h => cases h with | cons q3 h => cases h with | cons q4 h =>
  cases h
  rw [tld_s q0, tld_i q1, tld_i q2, tld_i q3]
  exact ⟨_, rfl⟩
def tw (v : V) : Str := if v = .str "" then "-" else fw v
theorem tw_ws {e : En} (h : e.ok) : e.tup.map tw = e.ws := by
  rw [tup_pre, List.map_append]
  unfold En.ws
  congr 1
  · refine List.map_congr_left fun v hv => ?_
    unfold tw
    rw [if_neg]
    rcases pre_fld h v hv with ⟨x, rfl, hx⟩ | ⟨i, rfl, _⟩
    · intro z
      injection z with z
      have := hx.2.1
      rw [z] at this
      exact absurd this (by decide)
    · exact fun z => nomatch z
  · show [tw (.str e.note)] = [nw e.note]
    unfold tw nw
    by_cases e0 : e.note = ""
    · rw [if_pos e0, if_pos (by rw [e0])]
    · rw [if_neg e0, if_neg (fun z => e0 (by injection z))]
      rfl
theorem shown_tup {e : En} (h : e.ok) : e.tup.length ≤ 10 ∧ ∀ v ∈ e.tup, Shown v := by
  have wS : ∀ {x : Str}, IsW x → Shown (.str x) := fun hx => .inl ⟨_, rfl, Nat.le_trans hx.2.2 (by decide), fun c hc => by
    have := hx.1 c hc
    have e : ∀ c ∈ letters.cps.toList, c < 16 ^ 8 := by decide +kernel
    exact e c this⟩
  have pl := pre_len e
  refine ⟨by rw [tup_pre, List.length_append, List.length_singleton]; omega, fun v hv => ?_⟩
  rw [tup_pre] at hv
  rcases List.mem_append.mp hv with hv | hv
  · rcases pre_fld h v hv with ⟨x, rfl, hx⟩ | ⟨i, rfl, h0, h1⟩
    · exact wS hx
    · exact .inr ⟨i, rfl, h0, h1⟩
  · rw [List.mem_singleton.mp hv]
    rcases note_n h with e | e
    · rw [e]
      exact .inl ⟨_, rfl, by decide +kernel, by decide +kernel⟩
    · exact wS e
section
variable {P : Program} {w : World} {K : PySem.W.Frag} {mg : Str → Option Value} {base : Heap} {C : Nat → Addr}
theorem c_far (Dr : Cal P w K mg base 1 "_law_draw" spDraw) (D : DefT K mg "_law_far" sFar ["_law_well_here"]) : Cal P w K mg base 2 "_law_far" spFar := by
  refine cal D scFar (fun vs H Q E h => ?_) (fun f cdv A outer s H vs Q E hr h => ?_)
  · obtain ⟨b, rfl, _⟩ := h
    rfl
  · obtain ⟨b, rfl, wb, k⟩ := h
    refine ⟨_, (pss_cons (ps_set (i := 1) scFar.nd rfl (by first | exact Or.inl rfl | exact Or.inr rfl) (pe_lstW (pa_cons pe_int (pa_cons pe_int (pa_cons pe_int (pa_cons pe_int (pa_cons (pe_cl Dr hr (by decide) (by rfl) (pa_cons (pv 0) (pa_cons pe_int pa_nil))) (pa_cons (pe_op op_sub (pe_op op_pow pe_int pe_int) pe_int) (pa_cons (pe_cl Dr hr (by decide) (by rfl) (pa_cons (pv 0) (pa_cons (pe_op op_pow pe_int pe_int) pa_nil))) pa_nil)))))))))
        (pss_one (ps_ret (pe_ix ix_list (pv 1) (pe_cl Dr hr (by decide) (by rfl) (pa_cons (pv 0) (pa_cons pe_int pa_nil))) (fun _ _ => rfl))))), ?_⟩
    refine ⟨_, rfl, b, 40, rfl, wb, by decide, by decide, fun x H1 x0 x1 w1 s1 => ⟨_, _, rfl, rfl, ⟨by decide, by decide, by decide⟩, _, _, rfl, rfl, ?_⟩⟩
    refine ⟨_, rfl, _, _, rfl, rfl, ⟨by decide, by decide, by decide⟩, b, _, rfl, w1, by decide, by decide, fun y H2 y0 y1 w2 s2 => ⟨(by show 7 ≤ sizeLine; decide), fun L H3 s3 nL hL => ?_⟩⟩
    refine ⟨_, rfl, _, rfl, b, 7, rfl, w2.same s3, by decide, by decide, fun r H4 r0 r1 w4 s4 => ?_⟩
    have nLb : L ≠ b := (w2.ne nL).symm
    obtain ⟨z, hz, mz⟩ := get_lt (l := [V.int 0, V.int 1, V.int 30, V.int 31, V.int x, V.int 9999999999999999, V.int y]) r0 (by exact r1)
    refine ⟨L, _, r, z, rfl, rfl, SqL.of (s4 _ _ hL nLb), hz, ?_⟩
    have S4 : SameB b H H4 := (s1.trans s2).trans ((SameB.of s3).trans s4)
    simp only [List.mem_cons, List.not_mem_nil, or_false] at mz
    have y1' : y < 10000000000000000 := y1
    rcases mz with rfl | rfl | rfl | rfl | rfl | rfl | rfl
    all_goals exact k _ _ ⟨by omega, by omega⟩ w4 S4
theorem c_lin (Dr : Cal P w K mg base 1 "_law_draw" spDraw) (Fa : Cal P w K mg base 2 "_law_far" spFar) (Tl : Cal P w K mg base 4 "_law_told" spToldT) (D : DefT K mg "_law_line" sLin ["_law_well_here"]) : Cal P w K mg base 5 "_law_line" spLin := by
  refine cal D scLin (fun vs H Q E h => ?_) (fun f cdv A outer s H vs Q E hr h => ?_)
  · obtain ⟨b, rfl, _⟩ := h
    rfl
  · obtain ⟨b, rfl, wb, k⟩ := h
    refine ⟨_, (pss_cons (ps_set (i := 1) scLin.nd rfl (by first | exact Or.inl rfl | exact Or.inr rfl) (pe_cl Dr hr (by decide) (by rfl) (pa_cons (pv 0) (pa_cons pe_int pa_nil))))
        (pss_cons (ps_if (pt_cmpR op_eq (pv 1) pe_int (nomark _)) (pss_one (ps_ret (pe_tupW (pa_cons pe_str (pa_cons (pe_cl Fa hr (by decide) (by rfl) (pa_cons (pv 0) pa_nil)) (pa_cons (pe_cl Fa hr (by decide) (by rfl) (pa_cons (pv 0) pa_nil)) pa_nil)))))) pss_nil)
        (pss_cons (ps_if (pt_cmpR op_eq (pv 1) pe_int (nomark _)) (pss_one (ps_ret (pe_tupW (pa_cons pe_str (pa_cons (pe_cl Fa hr (by decide) (by rfl) (pa_cons (pv 0) pa_nil)) (pa_cons (pe_cl Fa hr (by decide) (by rfl) (pa_cons (pv 0) pa_nil)) (pa_cons (pe_cl Fa hr (by decide) (by rfl) (pa_cons (pv 0) pa_nil)) (pa_cons (pe_cl Tl hr (by decide) (by rfl) (pa_cons (pv 0) pa_nil)) pa_nil)))))))) pss_nil)
        (pss_one (ps_ret (pe_tupW (pa_cons pe_str (pa_cons (pe_cl Fa hr (by decide) (by rfl) (pa_cons (pv 0) pa_nil)) (pa_cons (pe_cl Fa hr (by decide) (by rfl) (pa_cons (pv 0) pa_nil)) (pa_cons (pe_cl Tl hr (by decide) (by rfl) (pa_cons (pv 0) pa_nil)) pa_nil)))))))))), ?_⟩
    refine ⟨_, rfl, b, 5, rfl, wb, by decide, by decide, fun lot H1 l0 l1 w1 s1 => ?_⟩
    refine ⟨_, rfl, rfl, _, rfl, ite2 (fun c => ?_) (fun c => ?_)⟩
    · refine ⟨_, rfl, b, rfl, w1, fun x H2 nx w2 s2 => ⟨_, rfl, b, rfl, w2, fun y H3 ny w3 s3 => ⟨(by show 3 ≤ sizeLine; decide), fun p H4 s4 np hp => ?_⟩⟩⟩
      exact k p (.back x y) H4 ⟨nx, ny⟩ hp (w3.same s4) ((s1.trans (s2.trans s3)).trans (SameB.of s4))
    refine ⟨_, rfl, rfl, _, rfl, ite2 (fun c => ?_) (fun c => ?_)⟩
    · refine ⟨_, rfl, b, rfl, w1, fun x H2 nx w2 s2 => ⟨_, rfl, b, rfl, w2, fun y H3 ny w3 s3 => ⟨_, rfl, b, rfl, w3, fun z H4 nz w4 s4 => ⟨_, rfl, b, rfl, w4, fun q e H5 ok nq hq w5 s5 => ⟨(by show 5 ≤ sizeLine; decide), fun p H6 s6 np hp => ?_⟩⟩⟩⟩⟩
      exact k p (.right x y z e) H6 ⟨nx, ny, nz, ok⟩ ⟨q, hp, s6 _ _ hq⟩ (w5.same s6) ((s1.trans (s2.trans (s3.trans (s4.trans s5)))).trans (SameB.of s6))
    · refine ⟨_, rfl, b, rfl, w1, fun x H2 nx w2 s2 => ⟨_, rfl, b, rfl, w2, fun z H4 nz w4 s4 => ⟨_, rfl, b, rfl, w4, fun q e H5 ok nq hq w5 s5 => ⟨(by show 4 ≤ sizeLine; decide), fun p H6 s6 np hp => ?_⟩⟩⟩⟩
      exact k p (.in_ x z e) H6 ⟨nx, nz, ok⟩ ⟨q, hp, s6 _ _ hq⟩ (w5.same s6) ((s1.trans (s2.trans (s4.trans s5))).trans (SameB.of s6))
set_option maxHeartbeats 2000000 in
theorem c_lns (B : Base K mg) (Dr : Cal P w K mg base 1 "_law_draw" spDraw) (Li : Cal P w K mg base 5 "_law_line" spLin) (D : DefT K mg "_law_lines" sLns ["_law_well_here"]) : Cal P w K mg base 6 "_law_lines" spLns := by
  refine cal D scLns (fun vs H Q E h => ?_) (fun f cdv A outer s H vs Q E hr h => ?_)
  · obtain ⟨b, rfl, _⟩ := h
    rfl
  · obtain ⟨b, rfl, wb, k⟩ := h
    have hz : sizeLine = 16777216 := by decide
    refine ⟨_, (pss_cons (ps_set (i := 1) scLns.nd rfl (by first | exact Or.inl rfl | exact Or.inr rfl) (pe_ix ix_list (pe_lstW (pa_cons (pe_cl Dr hr (by decide) (by rfl) (pa_cons (pv 0) (pa_cons pe_int pa_nil))) (pa_cons pe_int (pa_cons pe_int (pa_cons pe_int pa_nil))))) (pe_ix ix_list (pe_lstW (pa_cons pe_int (pa_cons pe_int (pa_cons pe_int (pa_cons pe_int (pa_cons pe_int (pa_cons pe_int (pa_cons pe_int pa_nil)))))))) (pe_cl Dr hr (by decide) (by rfl) (pa_cons (pv 0) (pa_cons pe_int pa_nil))) (fun _ _ => rfl)) (fun _ _ => rfl)))
        (pss_one (ps_ret (pe_lc (own := [("_law_k", 2)]) (g := (gName 2)) (tt := tYes) rfl scLns.nd (pi_range1 (by rfl) B.range (pa_cons (pv 1) pa_nil)) (blkOk_by (N := nLns) (sc := defScope sLns) (by decide +kernel)) (fun _ _ _ _ _ => (pg_name (i := 2) scLns.nd rfl (by first | exact Or.inl rfl | exact Or.inr rfl))) (fun _ _ _ _ _ => pts_nil) (fun _ _ _ _ _ => (pe_cl Li hr (by decide) (by rfl) (pa_cons (pv 0) pa_nil))))))), ?_⟩
    refine ⟨_, rfl, b, 7, rfl, wb, by decide, by decide, fun x H1 x0 x1 w1 s1 => ⟨(by show 4 ≤ sizeLine; decide), fun A1 H2 s2 n2 h2 => ⟨(by show 7 ≤ sizeLine; decide), fun A2 H3 s3 n3 h3 => ?_⟩⟩⟩
    refine ⟨_, rfl, b, 7, rfl, (w1.same s2).same s3, by decide, by decide, fun r H4 r0 r1 w4 s4 => ?_⟩
    have n1b : A1 ≠ b := (w1.ne n2).symm
    have n2b : A2 ≠ b := ((w1.same s2).ne n3).symm
    obtain ⟨u, hu, mu⟩ := get_lt (l := [V.int 0, V.int 0, V.int 0, V.int 0, V.int 1, V.int 2, V.int 3]) r0 (by exact r1)
    obtain ⟨ui, rfl, u0, u4⟩ : ∃ ui : Int, u = .int ui ∧ 0 ≤ ui ∧ ui < 4 := by
      simp only [List.mem_cons, List.not_mem_nil, or_false] at mu
      rcases mu with rfl | rfl | rfl | rfl | rfl | rfl | rfl <;> exact ⟨_, rfl, by decide, by decide⟩
    obtain ⟨v, hv, mv⟩ := get_lt (l := [V.int x, V.int 40, V.int 0, V.int 1]) u0 (by exact u4)
    obtain ⟨n, rfl, n40⟩ : ∃ n : Nat, v = .int (n : Int) ∧ n ≤ 40 := by
      simp only [List.mem_cons, List.not_mem_nil, or_false] at mv
      rcases mv with rfl | rfl | rfl | rfl
      · exact ⟨x.toNat, by congr 1; omega, by omega⟩
      · exact ⟨40, rfl, by decide⟩
      · exact ⟨0, rfl, by decide⟩
      · exact ⟨1, rfl, by decide⟩
    refine ⟨A2, _, r, _, rfl, rfl, SqL.of (s4 _ _ h3 n2b), hu, A1, _, ui, _, rfl, rfl, SqL.of (s4 _ _ (s3 _ _ h2) n1b), hv, ?_⟩
    have S4 : SameB b H H4 := s1.trans ((SameB.of (s2.trans s3)).trans s4)
    refine ⟨_, rfl, _, rfl, (by omega), (by omega), fun D hD => lc_it (walk_range (lo := 0) (n := n)) (fun i H' => ∃ ts ls, ls.length = i ∧ (∀ l ∈ ls, l.ok) ∧ LinesAt H' D ts ls ∧ WellAt H' b ∧ SameB b H4 H') ⟨[], [], rfl, (fun _ h => nomatch h), ⟨upd_same, .nil⟩, w4.new hD, SameB.of (same_new hD)⟩ (fun _ _ _ _ => trivial) ?_ ?_⟩
    · rintro i v H5 H6 hi ⟨ts, ls, hl, ok, la, w5, s5⟩ ⟨rfl, rfl⟩
      refine ⟨rfl, yes (iteT ⟨_, rfl, b, rfl, w5, fun p l H7 okl hp w7 s7 => ?_⟩)⟩
      have nDb : D ≠ b := (w4.ne hD).symm
      have d7 := s7 _ _ la.1 nDb
      refine ⟨_, d7, ?_, ts ++ [p], ls ++ [l], by rw [List.length_append, hl]; rfl, fun m hm => ?_, ⟨by rw [upd_same, List.map_append]; rfl, ?_⟩, w7.up nDb.symm, fun c o e nc => ?_⟩
      · rw [List.length_map, la.2.length]
        omega
      · rcases List.mem_append.mp hm with hm | hm
        · exact ok m hm
        · rw [List.mem_singleton.mp hm]; exact okl
      · have keep : ∀ (q : Addr) (m : Ln), LnAt H7 q m → LnAt (upd H7 D (.lst (ts.map V.ref ++ [V.ref p]))) q m := fun q m h => by
          have tp : ∀ {b : Addr} {r : List V}, H7 b = some (.tup r) → upd H7 D (.lst (ts.map V.ref ++ [V.ref p])) b = some (.tup r) := fun e => by
            rw [upd_ne (fun z => by rw [z, d7] at e; cases e)]
            exact e
          cases m with
          | in_ d t e => obtain ⟨r, a, b⟩ := h; exact ⟨r, tp a, tp b⟩
          | back d n => exact tp h
          | right d n t e => obtain ⟨r, a, b⟩ := h; exact ⟨r, tp a, tp b⟩
        exact pairL_snoc (keep _ _ hp) (pairL_mono (fun q m h => keep q m (h.sameB w5 s7)) la.2)
      · rw [upd_ne (ne_of_none e hD)]
        exact s7 _ _ (s5 _ _ e nc) nc
    · rintro H5 ⟨ts, ls, hl, ok, la, w5, s5⟩
      refine k D ts ls H5 ok (by omega) ?_ la (S4.trans s5)
      have : ∀ {a : Addr}, H4 a = none → a ≠ b → H a = none := fun e ne => by
        cases z : H _ with
        | none => rfl
        | some o => rw [S4 _ _ z ne] at e; cases e
      exact this hD (w4.ne hD).symm
set_option maxHeartbeats 2000000 in
theorem c_llt (B : Base K mg) (D : DefT K mg "_law_line_text" sLlt ["_law_line_here"]) : Cal P w K mg base 1 "_law_line_text" spLlt := by
  refine cal D scLlt (fun vs H Q E h => ?_) (fun f cdv A outer s H vs Q E hr h => ?_)
  · obtain ⟨t, l, rfl, _⟩ := h
    rfl
  · obtain ⟨t, l, rfl, hl, ok, k⟩ := h
    have hz : sizeLine = 16777216 := by decide
    have kw := rw_ln ok
    refine ⟨_, (C8.pss_cut (ps_setLc (i := 1) (own := [("_law_one", 2)]) (g := (gName 2)) (tt := tYes) (te := (tCB (rStrA K) (tCons (tVar 2) tNil))) rfl scLlt.nd rfl (by first | rfl | decide +kernel) (sw_true rfl (by first | rfl | decide +kernel) rfl (by decide +kernel)) (pi_tup (pv 0)) (blkOk_by (N := nLlt) (sc := defScope sLlt) (by decide +kernel)) (fun _ _ _ _ _ => (pg_name (i := 2) scLlt.nd rfl (by first | exact Or.inl rfl | exact Or.inr rfl))) (fun _ _ _ _ _ => pts_nil) (fun _ _ _ _ _ => (pe_callTy (call_strA hr.units) (by rfl) B.str (by decide +kernel) (pa_cons (pv 2) pa_nil))))
        (C8.pss_cut (ps_if (pt_cmpR op_ne (pe_ix ix_tup (pv 0) pe_int (fun _ _ => rfl)) pe_str (nomark _)) (pss_one (ps_set (i := 1) scLlt.nd rfl (by first | exact Or.inl rfl | exact Or.inr rfl) (pe_op op_catLW (pe_slice sl_listW (pv 1) po_none (po_some (pe_un un_neg pe_int))) (pe_lc (own := [("_law_one", 2)]) (g := (gName 2)) (tt := tYes) (te := (tOp (rIxL K) (tLstW (tCons (tCB (rStrA K) (tCons (tVar 2) tNil)) (tCons (tC (.str "-")) tNil))) (tCB rInt1 (tCons (tOp rEq (tVar 2) (tC (.str ""))) tNil)))) rfl scLlt.nd (pi_tup (pe_ix ix_tup (pv 0) (pe_un un_neg pe_int) (fun _ _ => rfl))) (blkOk_by (N := nLlt) (sc := defScope sLlt) (by decide +kernel)) (fun _ _ _ _ _ => (pg_name (i := 2) scLlt.nd rfl (by first | exact Or.inl rfl | exact Or.inr rfl))) (fun _ _ _ _ _ => pts_nil) (fun _ _ _ _ _ => (pe_ix ix_list (pe_lstW (pa_cons (pe_callTy (call_strA hr.units) (by rfl) B.str (by decide +kernel) (pa_cons (pv 2) pa_nil)) (pa_cons pe_str pa_nil))) (pe_callTy call_int1 (by rfl) B.int (by decide +kernel) (pa_cons (pe_cmpR op_eq (pv 2) pe_str (nomark _)) pa_nil)) (fun _ _ => rfl))))))) pss_nil)
        (pss_one (ps_ret (pe_join pe_str (pv 1)))))), ?_⟩
    -- all things told
    obtain ⟨xs, hxs, xl, xi⟩ : ∃ xs, H t = some (.tup xs) ∧ xs.length ≤ 5 ∧ ∀ v ∈ xs, (∃ x : Str, v = .str x) ∨ (∃ i : Int, v = .int i ∧ Num i) ∨ ∃ r vs, v = .ref r ∧ H r = some (.tup vs) ∧ vs.length ≤ 10 ∧ ∀ u ∈ vs, Shown u := by
      cases l with
      | in_ d dt e =>
        obtain ⟨r, a, b⟩ := hl
        refine ⟨_, a, by simp, fun v hv => ?_⟩
        simp only [List.mem_cons, List.not_mem_nil, or_false] at hv
        rcases hv with rfl | rfl | rfl | rfl
        · exact .inl ⟨_, rfl⟩
        · exact .inr (.inl ⟨_, rfl, ok.1⟩)
        · exact .inr (.inl ⟨_, rfl, ok.2.1⟩)
        · exact .inr (.inr ⟨r, _, rfl, b, shown_tup ok.2.2⟩)
      | back d n =>
        refine ⟨_, hl, by simp, fun v hv => ?_⟩
        simp only [List.mem_cons, List.not_mem_nil, or_false] at hv
        rcases hv with rfl | rfl | rfl
        · exact .inl ⟨_, rfl⟩
        · exact .inr (.inl ⟨_, rfl, ok.1⟩)
        · exact .inr (.inl ⟨_, rfl, ok.2⟩)
      | right d n dt e =>
        obtain ⟨r, a, b⟩ := hl
        refine ⟨_, a, by simp, fun v hv => ?_⟩
        simp only [List.mem_cons, List.not_mem_nil, or_false] at hv
        rcases hv with rfl | rfl | rfl | rfl | rfl
        · exact .inl ⟨_, rfl⟩
        · exact .inr (.inl ⟨_, rfl, ok.1⟩)
        · exact .inr (.inl ⟨_, rfl, ok.2.1⟩)
        · exact .inr (.inl ⟨_, rfl, ok.2.2.1⟩)
        · exact .inr (.inr ⟨r, _, rfl, b, shown_tup ok.2.2.2⟩)
    refine ⟨fun σ' H' => ∃ W ms, σ' = [some (.ref t), some (.ref W), none] ∧ Same H H' ∧ H' W = some (.lst (ms.map V.str)) ∧ Paired Tld xs ms, ?_, ?_⟩
    · refine ⟨_, rfl, t, rfl, ⟨_, SqT.of hxs⟩, fun D1 hD1 => lc_it (walk_tup (xs := xs)) (fun i H' => Same H H' ∧ ∃ ms : List Str, H' D1 = some (.lst (ms.map V.str)) ∧ Paired Tld (xs.take i) ms) ⟨same_new hD1, [], upd_same, .nil⟩ (fun i H' _ z => SqT.of (z.1 _ _ hxs)) ?_ ?_⟩
      · rintro i v H4 H5 hi ⟨s4, ms, d4, pm⟩ ⟨rfl, hv⟩
        have fin : ∀ m : Str, Tld v m → ∃ acc, H5 D1 = some (.lst acc) ∧ acc.length < sizeLine ∧ Same H (upd H5 D1 (.lst (acc ++ [V.str m]))) ∧ ∃ ms : List Str, upd H5 D1 (.lst (acc ++ [V.str m])) D1 = some (.lst (ms.map V.str)) ∧ Paired Tld (xs.take (i + 1)) ms := fun m hm => by
          refine ⟨_, d4, ?_, fun b o z => ?_, ms ++ [m], ?_, ?_⟩
          · have := pm.length
            rw [List.length_take] at this
            rw [List.length_map]
            omega
          · rw [upd_ne (ne_of_none z hD1)]
            exact s4 _ _ z
          · rw [upd_same, List.map_append]
            rfl
          · rw [take_more hv]
            exact pm.snoc hm
        refine ⟨rfl, yes (iteT ⟨_, rfl, ?_⟩)⟩
        rcases xi v (List.mem_of_getElem? hv) with ⟨x, rfl⟩ | ⟨n, rfl, h0, h1⟩ | ⟨r, vs, rfl, hr2, l10, sh⟩
        · exact .inl ⟨x, rfl, fin x (.inl rfl)⟩
        · exact .inr (.inl ⟨n, rfl, log_le h0 h1, fin _ (.inr (.inl ⟨n, rfl, rfl⟩))⟩)
        · exact .inr (.inr ⟨r, vs, rfl, SqT.of (s4 _ _ hr2), l10, sh, fun m _ => fin m (.inr (.inr ⟨r, rfl⟩))⟩)
      · rintro H4 ⟨s4, ms, d4, pm⟩
        rw [List.take_length] at pm
        exact ⟨D1, ms, rfl, s4, d4, pm⟩
    rintro σ H1 ⟨W, ms, rfl, s1, hW, pm⟩
    refine ⟨fun σ' H' => ∃ W v2, σ' = [some (.ref t), some (.ref W), v2] ∧ Same H H' ∧ H' W = some (.lst (l.ws.map V.str)), ?_, ?_⟩
    · cases l with
      | in_ d dt e =>
        obtain ⟨r, a, b⟩ := hl
        rw [a] at hxs
        injection hxs with hxs
        injection hxs with hxs
        subst hxs
        obtain ⟨m, rfl⟩ := tld_in_ pm
        refine ⟨_, rfl, t, _, 0, .str "in", rfl, rfl, SqT.of (s1 _ _ a), rfl, rfl, _, rfl, iteT ?_⟩
        refine ⟨_, rfl, _, rfl, _, rfl, W, _, rfl, SqL.of hW, fun A1 H2 s2 n2 h2 => ?_⟩
        have h2' : H2 A1 = some (.lst ((["in", nt d, nt dt] : List Str).map V.str)) := h2
        have b2 := s2 _ _ (s1 _ _ b)
        refine ⟨_, rfl, _, rfl, t, _, -1, .ref r, rfl, rfl, SqT.of (s2 _ _ (s1 _ _ a)), rfl, r, rfl, ⟨_, SqT.of b2⟩, fun D2 hD2 => lc_it (walk_tup (xs := e.tup)) (fun j H' => Same H2 H' ∧ H' D2 = some (.lst (((e.tup.take j).map tw).map V.str))) ⟨same_new hD2, upd_same⟩ (fun j H' _ z => SqT.of (z.1 _ _ b2)) ?_ ?_⟩
        · rintro j v H4 H5 hj ⟨s4, d4⟩ ⟨rfl, hv⟩
          have tl5 := (shown_tup ok.2.2).1
          have fin : ∀ H6, Same H5 H6 → ∃ acc, H6 D2 = some (.lst acc) ∧ acc.length < sizeLine ∧ Same H2 (upd H6 D2 (.lst (acc ++ [V.str (tw v)]))) ∧ upd H6 D2 (.lst (acc ++ [V.str (tw v)])) D2 = some (.lst (((e.tup.take (j + 1)).map tw).map V.str)) := fun H6 s6 => by
            refine ⟨_, s6 _ _ d4, ?_, fun b o z => ?_, ?_⟩
            · rw [List.length_map, List.length_map, List.length_take]
              omega
            · rw [upd_ne (ne_of_none z hD2)]
              exact s6 _ _ (s4 _ _ z)
            · rw [upd_same, take_more hv, List.map_append, List.map_append]
              rfl
          have go : ∀ (x : Str), scal v (.str "") = true → (v ≠ .str "" → tw v = x) → ∀ A3 H6, Same H5 H6 → H6 A3 = some (.lst [.str x, .str "-"]) → tCB rInt1 (tCons (tOp rEq (tVar 2) (tC (.str ""))) tNil) [some (.ref t), some (.ref W), some v] H6 fun y H7 => rIxL K (.ref A3) y H7 fun z H8 => ∃ acc, H8 D2 = some (.lst acc) ∧ acc.length < sizeLine ∧ Same H2 (upd H8 D2 (.lst (acc ++ [z]))) ∧ upd H8 D2 (.lst (acc ++ [z])) D2 = some (.lst (((e.tup.take (j + 1)).map tw).map V.str)) := by
            intro x hsc hx A3 H6 s6 h6
            refine ⟨_, rfl, hsc, .inr ⟨_, rfl, ?_⟩⟩
            by_cases e0 : v = .str ""
            · rw [decide_eq_true e0]
              have et : tw v = "-" := by unfold tw; rw [if_pos e0]
              have := fin H6 s6
              rw [et] at this
              exact ⟨A3, _, 1, .str "-", rfl, rfl, SqL.of h6, rfl, this⟩
            · rw [decide_eq_false e0]
              have := fin H6 s6
              rw [hx e0] at this
              exact ⟨A3, _, 0, .str x, rfl, rfl, SqL.of h6, rfl, this⟩
          refine ⟨rfl, yes (iteT ⟨_, rfl, ?_⟩)⟩
          have mv := List.mem_of_getElem? hv
          rcases okd_tup ok.2.2 v mv with ⟨x, rfl, _⟩ | ⟨n, rfl⟩
          · refine .inl ⟨x, rfl, (by show 2 ≤ sizeLine; omega), fun A3 H6 s6 n6 h6 => go x rfl (fun z => ?_) A3 H6 s6 h6⟩
            unfold tw
            rw [if_neg z]
            rfl
          · have hn : 0 ≤ n ∧ n ≤ 9999999999999999 := by
              rcases (shown_tup ok.2.2).2 _ mv with ⟨y, z, _⟩ | ⟨i, z, h0, h1⟩
              · cases z
              · cases z
                exact ⟨h0, h1⟩
            refine .inr (.inl ⟨n, rfl, log_le hn.1 hn.2, (by show 2 ≤ sizeLine; omega), fun A3 H6 s6 n6 h6 => go (nt n) rfl (fun z => ?_) A3 H6 s6 h6⟩)
            unfold tw
            rw [if_neg z]
            rfl
        · rintro H4 ⟨s4, d4⟩
          rw [List.take_length, tw_ws ok.2.2] at d4
          refine ⟨A1, D2, _, _, rfl, rfl, s4 _ _ h2', d4, ?_, fun W2 H5 s5 n5 h5 => ⟨W2, _, rfl, s1.trans (s2.trans (s4.trans s5)), ?_⟩⟩
          · have := ws_len e
            rw [List.length_map, List.length_map]
            show 3 + _ ≤ _
            omega
          · rw [h5, ← List.map_append]
            rfl
      | back d n =>
        have hl : H t = some (.tup [.str "back", .int d, .int n]) := hl
        rw [hl] at hxs
        injection hxs with hxs
        injection hxs with hxs
        subst hxs
        have em := tld_back pm
        subst em
        refine ⟨_, rfl, t, _, 0, .str "back", rfl, rfl, SqT.of (s1 _ _ hl), rfl, rfl, _, rfl, iteF ?_⟩
        exact ⟨W, _, rfl, s1, hW⟩
      | right d n dt e =>
        obtain ⟨r, a, b⟩ := hl
        rw [a] at hxs
        injection hxs with hxs
        injection hxs with hxs
        subst hxs
        obtain ⟨m, rfl⟩ := tld_right pm
        refine ⟨_, rfl, t, _, 0, .str "right", rfl, rfl, SqT.of (s1 _ _ a), rfl, rfl, _, rfl, iteT ?_⟩
        refine ⟨_, rfl, _, rfl, _, rfl, W, _, rfl, SqL.of hW, fun A1 H2 s2 n2 h2 => ?_⟩
        have h2' : H2 A1 = some (.lst ((["right", nt d, nt n, nt dt] : List Str).map V.str)) := h2
        have b2 := s2 _ _ (s1 _ _ b)
        refine ⟨_, rfl, _, rfl, t, _, -1, .ref r, rfl, rfl, SqT.of (s2 _ _ (s1 _ _ a)), rfl, r, rfl, ⟨_, SqT.of b2⟩, fun D2 hD2 => lc_it (walk_tup (xs := e.tup)) (fun j H' => Same H2 H' ∧ H' D2 = some (.lst (((e.tup.take j).map tw).map V.str))) ⟨same_new hD2, upd_same⟩ (fun j H' _ z => SqT.of (z.1 _ _ b2)) ?_ ?_⟩
        · rintro j v H4 H5 hj ⟨s4, d4⟩ ⟨rfl, hv⟩
          have tl5 := (shown_tup ok.2.2.2).1
          have fin : ∀ H6, Same H5 H6 → ∃ acc, H6 D2 = some (.lst acc) ∧ acc.length < sizeLine ∧ Same H2 (upd H6 D2 (.lst (acc ++ [V.str (tw v)]))) ∧ upd H6 D2 (.lst (acc ++ [V.str (tw v)])) D2 = some (.lst (((e.tup.take (j + 1)).map tw).map V.str)) := fun H6 s6 => by
            refine ⟨_, s6 _ _ d4, ?_, fun b o z => ?_, ?_⟩
            · rw [List.length_map, List.length_map, List.length_take]
              omega
            · rw [upd_ne (ne_of_none z hD2)]
              exact s6 _ _ (s4 _ _ z)
            · rw [upd_same, take_more hv, List.map_append, List.map_append]
              rfl
          have go : ∀ (x : Str), scal v (.str "") = true → (v ≠ .str "" → tw v = x) → ∀ A3 H6, Same H5 H6 → H6 A3 = some (.lst [.str x, .str "-"]) → tCB rInt1 (tCons (tOp rEq (tVar 2) (tC (.str ""))) tNil) [some (.ref t), some (.ref W), some v] H6 fun y H7 => rIxL K (.ref A3) y H7 fun z H8 => ∃ acc, H8 D2 = some (.lst acc) ∧ acc.length < sizeLine ∧ Same H2 (upd H8 D2 (.lst (acc ++ [z]))) ∧ upd H8 D2 (.lst (acc ++ [z])) D2 = some (.lst (((e.tup.take (j + 1)).map tw).map V.str)) := by
            intro x hsc hx A3 H6 s6 h6
            refine ⟨_, rfl, hsc, .inr ⟨_, rfl, ?_⟩⟩
            by_cases e0 : v = .str ""
            · rw [decide_eq_true e0]
              have et : tw v = "-" := by unfold tw; rw [if_pos e0]
              have := fin H6 s6
              rw [et] at this
              exact ⟨A3, _, 1, .str "-", rfl, rfl, SqL.of h6, rfl, this⟩
            · rw [decide_eq_false e0]
              have := fin H6 s6
              rw [hx e0] at this
              exact ⟨A3, _, 0, .str x, rfl, rfl, SqL.of h6, rfl, this⟩
          refine ⟨rfl, yes (iteT ⟨_, rfl, ?_⟩)⟩
          have mv := List.mem_of_getElem? hv
          rcases okd_tup ok.2.2.2 v mv with ⟨x, rfl, _⟩ | ⟨n, rfl⟩
          · refine .inl ⟨x, rfl, (by show 2 ≤ sizeLine; omega), fun A3 H6 s6 n6 h6 => go x rfl (fun z => ?_) A3 H6 s6 h6⟩
            unfold tw
            rw [if_neg z]
            rfl
          · have hn : 0 ≤ n ∧ n ≤ 9999999999999999 := by
              rcases (shown_tup ok.2.2.2).2 _ mv with ⟨y, z, _⟩ | ⟨i, z, h0, h1⟩
              · cases z
              · cases z
                exact ⟨h0, h1⟩
            refine .inr (.inl ⟨n, rfl, log_le hn.1 hn.2, (by show 2 ≤ sizeLine; omega), fun A3 H6 s6 n6 h6 => go (nt n) rfl (fun z => ?_) A3 H6 s6 h6⟩)
            unfold tw
            rw [if_neg z]
            rfl
        · rintro H4 ⟨s4, d4⟩
          rw [List.take_length, tw_ws ok.2.2.2] at d4
          refine ⟨A1, D2, _, _, rfl, rfl, s4 _ _ h2', d4, ?_, fun W2 H5 s5 n5 h5 => ⟨W2, _, rfl, s1.trans (s2.trans (s4.trans s5)), ?_⟩⟩
          · have := ws_len e
            rw [List.length_map, List.length_map]
            show 4 + _ ≤ _
            omega
          · rw [h5, ← List.map_append]
            rfl
    · rintro σ H2 ⟨W, v2, rfl, s2, hW⟩
      refine ⟨⟨_, rfl⟩, _, rfl, _, W, l.ws, rfl, rfl, .inl (SqL.of hW), ?_, ?_⟩
      · have := sum_le (n := 16) (ps := l.ws) fun p hp => (kw.2.2 p hp).1
        have e1 : (" " : Str).length = 1 := by decide +kernel
        have := kw.2.1
        rw [e1]
        omega
      · rw [join_eq]
        exact k _ s2
end
end KP
namespace KP
open PySem L2 KD KM KT TL
abbrev sLaw : Stmt := top 53
abbrev nLaw : List Str := ["_law_script", "_law_kept", "_law_cell", "_law_lines_here", "_law_text", "_law_handed", "_law_turn", "_law_found", "_law_line_here", "_law_one"]
theorem scLaw : FnScope nLaw ["_law_script"] (defScope sLaw) := ⟨rfl, rfl, rfl, by decide +kernel, rfl, by decide +kernel, by decide +kernel⟩

def spLaw (K : PySem.W.Frag) : Sp := fun vs H Q _ => ∃ (a : Addr) (ns : List Int), vs = [.ref a] ∧ SqL K H a (ns.map V.int) ∧ ns.length ≤ 63 ∧ ∀ H', Q (.bl true) H'
theorem cut_intV {vs : List V} (hv : ∀ v ∈ vs, ∃ c, v = .int c) {lo hi : Option Int} : (cutV vs lo hi).length ≤ vs.length ∧ ∀ v ∈ cutV vs lo hi, ∃ c, v = .int c :=
  ⟨cutV_length vs lo hi, fun v h => by unfold cutV at h; exact hv v (List.mem_of_mem_drop (List.mem_of_mem_take h))⟩
structure Ent where
  t : Addr
  L : Addr
  ts : List Addr
  ls : List Ln
structure Kept (Kp : Addr) (H : Hp) (es : List Ent) : Prop where
  k : H Kp = some (.lst (es.map fun e => .ref e.t))
  e : ∀ x ∈ es, H x.t = some (.tup [.str (ltext x.ls), .ref x.L]) ∧ LinesAt H x.L x.ts x.ls ∧ (∀ l ∈ x.ls, l.ok) ∧ x.ls.length ≤ 40 ∧ x.L ≠ Kp
theorem Kept.same {Kp : Addr} {H H' : Hp} {es : List Ent} (h : Kept Kp H es) (s : Same H H') : Kept Kp H' es := ⟨s _ _ h.k, fun x hx => by
  obtain ⟨a, b, c⟩ := h.e x hx
  exact ⟨s _ _ a, b.same s, c⟩⟩
theorem ln_upd {H : Hp} {a p : Addr} {l : Ln} {xs ys : List V} (h : LnAt H p l) (ha : H a = some (.lst xs)) : LnAt (upd H a (.lst ys)) p l := by
  have tp : ∀ {b : Addr} {r : List V}, H b = some (.tup r) → upd H a (.lst ys) b = some (.tup r) := fun e => by
    rw [upd_ne (fun z => by rw [z, ha] at e; cases e)]
    exact e
  cases l with
  | in_ d t e => obtain ⟨r, a, b⟩ := h; exact ⟨r, tp a, tp b⟩
  | back d n => exact tp h
  | right d n t e => obtain ⟨r, a, b⟩ := h; exact ⟨r, tp a, tp b⟩
theorem lines_upd {H : Hp} {a L : Addr} {ts : List Addr} {ls : List Ln} {xs ys : List V} (h : LinesAt H L ts ls) (ha : H a = some (.lst xs)) (n : L ≠ a) : LinesAt (upd H a (.lst ys)) L ts ls :=
  ⟨by rw [upd_ne n]; exact h.1, pairL_mono (fun _ _ z => ln_upd z ha) h.2⟩
theorem Kept.push {Kp : Addr} {H : Hp} {es : List Ent} {x : Ent} (h : Kept Kp H es) (a : H x.t = some (.tup [.str (ltext x.ls), .ref x.L])) (b : LinesAt H x.L x.ts x.ls) (c : ∀ l ∈ x.ls, l.ok) (d : x.ls.length ≤ 40) (n : x.L ≠ Kp) :
    Kept Kp (L2.upd H Kp (.lst ((es.map fun e => V.ref e.t) ++ [.ref x.t]))) (es ++ [x]) := by
  have tup : ∀ {t : Addr} {r : List V}, H t = some (.tup r) → L2.upd H Kp (.lst ((es.map fun e => V.ref e.t) ++ [.ref x.t])) t = some (.tup r) := fun e => by
    rw [upd_ne (fun z => by rw [z, h.k] at e; cases e)]
    exact e
  refine ⟨by rw [upd_same, List.map_append]; rfl, fun z hz => ?_⟩
  rcases List.mem_append.mp hz with hz | hz
  · obtain ⟨a, b, c, d, n⟩ := h.e z hz
    exact ⟨tup a, lines_upd b h.k n, c, d, n⟩
  · rw [List.mem_singleton.mp hz]
    exact ⟨tup a, lines_upd b h.k n, c, d, n⟩
/-- what stands in a line: a text, a number, a tuple -/
theorem ln_items {H : Hp} {t : Addr} {l : Ln} (hl : LnAt H t l) : ∃ xs, H t = some (.tup xs) ∧ xs.length ≤ 5 ∧ ∀ v ∈ xs, (∃ x : Str, v = .str x) ∨ (∃ i : Int, v = .int i) ∨ ∃ r vs, v = .ref r ∧ H r = some (.tup vs) := by
  cases l with
  | in_ d dt e =>
    obtain ⟨r, a, b⟩ := hl
    refine ⟨_, a, by simp, fun v hv => ?_⟩
    simp only [List.mem_cons, List.not_mem_nil, or_false] at hv
    rcases hv with rfl | rfl | rfl | rfl
    · exact .inl ⟨_, rfl⟩
    · exact .inr (.inl ⟨_, rfl⟩)
    · exact .inr (.inl ⟨_, rfl⟩)
    · exact .inr (.inr ⟨r, _, rfl, b⟩)
  | back d n =>
    refine ⟨_, hl, by simp, fun v hv => ?_⟩
    simp only [List.mem_cons, List.not_mem_nil, or_false] at hv
    rcases hv with rfl | rfl | rfl
    · exact .inl ⟨_, rfl⟩
    · exact .inr (.inl ⟨_, rfl⟩)
    · exact .inr (.inl ⟨_, rfl⟩)
  | right d n dt e =>
    obtain ⟨r, a, b⟩ := hl
    refine ⟨_, a, by simp, fun v hv => ?_⟩
    simp only [List.mem_cons, List.not_mem_nil, or_false] at hv
    rcases hv with rfl | rfl | rfl | rfl | rfl
    · exact .inl ⟨_, rfl⟩
    · exact .inr (.inl ⟨_, rfl⟩)
    · exact .inr (.inl ⟨_, rfl⟩)
    · exact .inr (.inl ⟨_, rfl⟩)
    · exact .inr (.inr ⟨r, _, rfl, b⟩)
section
variable {P : Program} {w : World} {K : PySem.W.Frag} {mg : Str → Option Value} {base : Heap} {C : Nat → Addr}
set_option maxHeartbeats 4000000 in
theorem ok_law {f : Addr} {fd : FuncData} (F : Fun K "law" "law" sLaw f fd) (B : Base K mg) (TB : TextB K mg) (Wl : Cal P w K mg base 1 "_law_well" spWell) (Ll : Cal P w K mg base 6 "_law_lines" spLns) (Lt : Cal P w K mg base 1 "_law_line_text" spLlt) (Ls : Cal P w K mg base 9 "lines_text" spLs) (Rs : Cal P w K mg base 10 "read_lines" spRls) :
    FnOk P w K mg base CX0 11 f fd ["_law_script"] (spLaw K) := by
  refine F.ok scLaw (fun vs H Q E h => ?_) (fun cdv A outer s H vs Q E2 hr h => ?_)
  · obtain ⟨a, ns, rfl, _⟩ := h
    rfl
  · obtain ⟨a, ns, rfl, hS, hlen, k⟩ := h
    have hz : sizeLine = 16777216 := by decide
    refine ⟨_, (pss_cons (ps_if (PW.pt (pw_or (pt_cmpR op_ne (pe_cl Ls hr (by decide) (by rfl) (pa_cons (pe_lstW pa_nil) pa_nil)) pe_str (nomark _)) (pw_or1 (pt_cmpR (op_neD hr.units) (pe_cl Rs hr (by decide) (by rfl) (pa_cons pe_str pa_nil)) (pe_lstW pa_nil) (nomark _))))) (pss_one (ps_ret pe_bl)) pss_nil)
        (pss_cons (ps_set (i := 1) scLaw.nd rfl (by first | exact Or.inl rfl | exact Or.inr rfl) (pe_lstW pa_nil))
        (pss_cons (ps_for PassesOwn.never rfl (pi_list (pe_op op_catLW (pe_slice sl_listW (pv 0) po_none (po_some pe_int)) (pe_lstW (pa_cons pe_int (pa_cons pe_int pa_nil))))) (pg_name (i := 2) scLaw.nd rfl (by first | exact Or.inl rfl | exact Or.inr rfl)) (pss_cons (ps_set (i := 3) scLaw.nd rfl (by first | exact Or.inl rfl | exact Or.inr rfl) (pe_cl Ll hr (by decide) (by rfl) (pa_cons (pe_cl Wl hr (by decide) (by rfl) (pa_cons (pv 2) pa_nil)) pa_nil)))
        (C8.pss_cut (ps_set (i := 4) scLaw.nd rfl (by first | exact Or.inl rfl | exact Or.inr rfl) (pe_join pe_str (pe_lc (own := [("_law_line_here", 8)]) (g := (gName 8)) (tt := tYes) rfl scLaw.nd (pi_list (pv 3)) (blkOk_by (N := nLaw) (sc := defScope sLaw) (by decide +kernel)) (fun _ _ _ _ _ => (pg_name (i := 8) scLaw.nd rfl (by first | exact Or.inl rfl | exact Or.inr rfl))) (fun _ _ _ _ _ => pts_nil) (fun _ _ _ _ _ => (pe_op op_add_str (pe_cl Lt hr (by decide) (by rfl) (pa_cons (pv 8) pa_nil)) pe_str)))))
        (pss_cons (ps_set (i := 5) scLaw.nd rfl (by first | exact Or.inl rfl | exact Or.inr rfl) (pe_callTy call_listW (by rfl) TB.list (by decide +kernel) (pa_cons (pv 3) pa_nil)))
        (pss_cons (ps_if (PW.pt (pw_or (pt_cmpR op_ne (pe_cl Ls hr (by decide) (by rfl) (pa_cons (pv 5) pa_nil)) (pv 4) (nomark _)) (pw_or1 (pt_cmpR (op_neD hr.units) (pv 5) (pv 3) (nomark _))))) (pss_one (ps_ret pe_bl)) pss_nil)
        (pss_cons (ps_expr (pe_bm0 PySem.F.plainAttrs_list PySem.F.slot_list_clear PySem.F.type_list_clear mt_clear (pv 5)))
        (pss_cons (ps_for PassesOwn.never rfl (pi_range1 (by rfl) B.range (pa_cons pe_int pa_nil)) (pg_name (i := 6) scLaw.nd rfl (by first | exact Or.inl rfl | exact Or.inr rfl)) (pss_cons (ps_set (i := 7) scLaw.nd rfl (by first | exact Or.inl rfl | exact Or.inr rfl) (pe_cl Rs hr (by decide) (by rfl) (pa_cons (pv 4) pa_nil)))
        (pss_cons (ps_if (PW.pt (pw_or (pt_not (pt_val (pe_callB call_isi (by rfl) B.isi (by decide +kernel) (pa_cons (pv 7) (pa_cons (pe_bltn (v := .ty "list") (by rfl) TB.list (by decide +kernel) rfl) pa_nil))))) (pw_or (pt_cmpR (op_neD hr.units) (pv 7) (pv 3) (nomark _)) (pw_or1 (pt_cmpR op_ne (pe_cl Ls hr (by decide) (by rfl) (pa_cons (pv 7) pa_nil)) (pv 4) (nomark _)))))) (pss_one (ps_ret pe_bl)) pss_nil)
        (pss_cons (ps_for PassesOwn.never rfl (pi_list (pv 7)) (pg_name (i := 8) scLaw.nd rfl (by first | exact Or.inl rfl | exact Or.inr rfl)) (pss_one (ps_if (PW.pt (pw_or (pt_not (pt_val (pe_callB call_isi (by rfl) B.isi (by decide +kernel) (pa_cons (pv 8) (pa_cons (pe_bltn (v := .ty "tuple") (by rfl) B.tuple (by decide +kernel) rfl) pa_nil))))) (pw_or1 (pt_cmpR (op_neD hr.units) (pe_lc (own := [("_law_one", 9)]) (g := (gName 9)) (tt := (tTest (tCB (rIsiT K) (tCons (tVar 9) (tCons (tTupW (tCons (tC (.ty "bool")) (tCons (tC (.ty "list")) tNil))) tNil))))) rfl scLaw.nd (pi_tup (pv 8)) (blkOk_by (N := nLaw) (sc := defScope sLaw) (by decide +kernel)) (fun _ _ _ _ _ => (pg_name (i := 9) scLaw.nd rfl (by first | exact Or.inl rfl | exact Or.inr rfl))) (fun _ _ _ _ _ => pts_one (pt_val (pe_callB call_isiT (by rfl) B.isi (by decide +kernel) (pa_cons (pv 9) (pa_cons (pe_tupW (pa_cons (pe_bltn (v := .ty "bool") (by rfl) B.bool (by decide +kernel) rfl) (pa_cons (pe_bltn (v := .ty "list") (by rfl) TB.list (by decide +kernel) rfl) pa_nil))) pa_nil))))) (fun _ _ _ _ _ => (pv 9))) (pe_lstW pa_nil) (nomark _))))) (pss_one (ps_ret pe_bl)) pss_nil)))
        (pss_one (ps_expr (pe_bm PySem.F.plainAttrs_list PySem.F.slot_list_append PySem.F.type_list_append mt_append (pv 7) (pa_cons (pe_tupW (pa_cons pe_str (pa_cons pe_int (pa_cons pe_int pa_nil)))) pa_nil))))))))
        (pss_one (ps_expr (pe_bm PySem.F.plainAttrs_list PySem.F.slot_list_append PySem.F.type_list_append mt_append (pv 1) (pa_cons (pe_tupW (pa_cons (pv 4) (pa_cons (pv 3) pa_nil))) pa_nil)))))))))))
        (pss_cons (ps_for PassesOwn.never rfl (pi_list (pe_revL (pv 1))) (pg_tup rfl (pgs_cons (pg_name (i := 4) scLaw.nd rfl (by first | exact Or.inl rfl | exact Or.inr rfl)) (pgs_cons (pg_name (i := 3) scLaw.nd rfl (by first | exact Or.inl rfl | exact Or.inr rfl)) pgs_nil))) (pss_one (ps_if (PW.pt (pw_or (pt_cmpR (op_neD hr.units) (pe_cl Rs hr (by decide) (by rfl) (pa_cons (pv 4) pa_nil)) (pv 3) (nomark _)) (pw_or1 (pt_cmpR op_ne (pe_cl Ls hr (by decide) (by rfl) (pa_cons (pv 3) pa_nil)) (pv 4) (nomark _))))) (pss_one (ps_ret pe_bl)) pss_nil)))
        (pss_one (ps_ret pe_bl)))))), ?_⟩
    have e0 : ltext [] = ("" : Str) := by decide +kernel
    have sh0 : SeqAt.shaped (.list []) = true := by decide +kernel
    have noBL : ∀ {n : String}, kitB n "bool" = some false → kitB n "list" = some false → PySem.W.kitAny K (.type n) [.type "bool", .type "list"] = some false := fun h h2 => kitAny_cons (kit_ty h) (fun _ => kitAny_cons (kit_ty h2) (fun _ => rfl) (fun z => nomatch z)) (fun z => nomatch z)
    refine ⟨(by show 0 ≤ sizeLine; omega), fun E0 H1 s1 n1 h1 => ⟨E0, [], [], rfl, ⟨h1, .nil⟩, (fun _ h => nomatch h), (by decide), fun H2 s2 => ⟨rfl, _, rfl, ?_⟩⟩⟩
    rw [e0]
    refine iteF ⟨[], (by rw [e0]; rfl), (fun _ h => nomatch h), (by decide), fun L0 ts0 H3 s3 nL0 la0 => ⟨(by show 0 ≤ sizeLine; omega), fun E1 H4 s4 n4 h4 => ⟨.list [], .list [], (la0.same s4).dp (fun _ h => nomatch h), .lst (SqL.of h4) .nil, sh0, sh0, _, rfl, ?_⟩⟩⟩
    rw [eqv_self sh0]
    refine iteF ⟨(by show 0 ≤ sizeLine; omega), fun Kp Ha sa nKp hKp => ?_⟩
    have s0 : Same H Ha := (s1.trans s2).trans (s3.trans (s4.trans sa))
    obtain ⟨cl, ci⟩ := cut_intV (vs := ns.map V.int) (fun v hv => by obtain ⟨c, _, rfl⟩ := List.mem_map.mp hv; exact ⟨c, rfl⟩) (lo := none) (hi := some 8)
    rw [List.length_map] at cl
    refine ⟨_, rfl, _, rfl, a, _, rfl, sql_same hS s0, fun p Hb sb np hp => ⟨(by show 2 ≤ sizeLine; decide), fun q Hc sc nq hq => ⟨p, q, _, _, rfl, rfl, sc _ _ hp, hq, (by show _ + 2 ≤ _; omega), fun R Hd sd nR hR => ?_⟩⟩⟩
    have iint : ∀ v ∈ cutV (ns.map V.int) none (some 8) ++ [V.int 2, V.int 7], ∃ c, v = V.int c := fun v hv => by
      rcases List.mem_append.mp hv with hv | hv
      · exact ci v hv
      · simp at hv
        rcases hv with rfl | rfl <;> exact ⟨_, rfl⟩
    have il : (cutV (ns.map V.int) none (some 8) ++ [V.int 2, V.int 7]).length ≤ 65 := by
      rw [List.length_append]
      show _ + 2 ≤ 65
      omega
    generalize cutV (ns.map V.int) none (some 8) ++ [V.int 2, V.int 7] = items at iint hR il
    have Kd : Kept Kp Hd [] := ⟨sd _ _ (sc _ _ (sb _ _ hKp)), fun x hx => nomatch hx⟩
    have nRK : R ≠ Kp := fun e => by
      subst e
      rw [sc _ _ (sb _ _ hKp)] at nR
      cases nR
    refine ⟨R, rfl, ⟨_, SqL.of hR⟩, for_list (K := K) (a := R) (xs := items) (fun i σ H' => ∃ (es : List Ent) (v2 v3 v4 v5 v6 v7 v8 : Option V), σ = [some (.ref a), some (.ref Kp), v2, v3, v4, v5, v6, v7, v8, none] ∧ H' R = some (.lst items) ∧ es.length = i ∧ Kept Kp H' es)
      ⟨[], none, none, none, none, none, none, none, rfl, hR, rfl, Kd⟩ (fun i σ H' _ ⟨_, _, _, _, _, _, _, _, _, z, _⟩ => SqL.of z) ?_ ?_⟩
    · rintro i v σ H4 hi ⟨es, v2, v3, v4, v5, v6, v7, v8, rfl, hR4, esl, K4⟩
      obtain ⟨c, rfl⟩ := iint v (List.mem_of_getElem? hi)
      have hil := (List.getElem?_eq_some_iff.mp hi).1
      refine ⟨_, rfl, c, rfl, fun b Hb sb nb wb => ⟨b, rfl, wb, fun L ts ls H5 okl l40 nL la s5 => ?_⟩⟩
      have s45 : Same H4 H5 := fun p' o' ho' => s5 _ _ (sb _ _ ho') (ne_of_none ho' nb)
      have nLK : L ≠ Kp := fun e => by
        subst e
        rw [sb _ _ K4.k] at nL
        cases nL
      have tsl : ts.length = ls.length := la.2.length
      have sh := sh_lines okl
      -- the text
      refine ⟨fun σ' H' => σ' = [some (.ref a), some (.ref Kp), some (.int c), some (.ref L), some (.str (ltext ls)), v5, v6, v7, v8, none] ∧ Same H5 H', ?_, ?_⟩
      · refine ⟨⟨_, rfl⟩, _, rfl, L, rfl, ⟨_, SqL.of la.1⟩, fun D hD => lc_it (walk_list (xs := ts.map V.ref)) (fun i H' => Same H5 H' ∧ H' D = some (.lst ((((ls.take i).map Ln.text).map lnT).map V.str))) ⟨same_new hD, upd_same⟩ (fun i H' _ z => SqL.of (z.1 _ _ la.1)) ?_ ?_⟩
        · rintro j v H6 H7 hj ⟨s6, d6⟩ ⟨rfl, hv⟩
          obtain ⟨t, ht, rfl⟩ : ∃ t, ts[j]? = some t ∧ v = V.ref t := by
            rw [List.getElem?_map] at hv
            cases e : ts[j]? with
            | none => rw [e] at hv; cases hv
            | some z => rw [e] at hv; exact ⟨z, rfl, (Option.some.inj hv).symm⟩
          obtain ⟨l, hl, al⟩ := pairL_get la.2 ht
          have okl1 := okl l (List.mem_of_getElem? hl)
          have ll : l.text.length ≤ 153 := rowL_le (rw_ln okl1)
          have n1 : ("
" : Str).length = 1 := by decide +kernel
          refine ⟨rfl, yes (iteT ⟨_, rfl, t, l, rfl, al.same s6, okl1, fun H8 s8 => ⟨_, _, rfl, rfl, (by omega), _, s8 _ _ d6, ?_, fun b o z => ?_, ?_⟩⟩)⟩
          · rw [List.length_map, List.length_map, List.length_map, List.length_take]
            omega
          · rw [upd_ne (ne_of_none z hD)]
            exact s8 _ _ (s6 _ _ z)
          · rw [upd_same, take_more hl, List.map_append, List.map_append, List.map_append]
            rfl
        · rintro H6 ⟨s6, d6⟩
          have el : (ls.take (ts.map V.ref).length) = ls := List.take_of_length_le (by rw [List.length_map, tsl]; exact Nat.le_refl _)
          rw [el] at d6
          refine ⟨_, D, (ls.map Ln.text).map lnT, rfl, rfl, .inl (SqL.of d6), ?_, ?_⟩
          · have := sum_le (n := 154) (ps := (ls.map Ln.text).map lnT) fun p hp => by
              obtain ⟨r, hr, rfl⟩ := List.mem_map.mp hp
              obtain ⟨l, hl, rfl⟩ := List.mem_map.mp hr
              rw [lnT_len]
              have : l.text.length ≤ 153 := rowL_le (rw_ln (okl l hl))
              omega
            have e : ("" : Str).length = 0 := by decide +kernel
            rw [e, Nat.mul_zero]
            rw [List.length_map, List.length_map] at this
            have : ls.length * 154 ≤ 40 * 154 := Nat.mul_le_mul_right _ l40
            omega
          · rw [join_eq]
            exact ⟨rfl, s6⟩
      rintro σ H6 ⟨rfl, s6⟩
      have la6 := la.same s6
      refine ⟨_, rfl, L, _, rfl, .inl (SqL.of la6.1), fun Hn H7 s7 nHn hHn => ?_⟩
      have la7 := la6.same s7
      have lh7 : LinesAt H7 Hn ts ls := ⟨hHn, la7.2⟩
      refine ⟨_, rfl, Hn, ts, ls, rfl, lh7, okl, (by omega), fun H8 s8 => ⟨_, rfl, rfl, _, rfl, ?_⟩⟩
      show if (!decide (V.str (ltext ls) = V.str (ltext ls))) = true then _ else _
      rw [decide_eq_true rfl]
      refine iteF ⟨_, rfl, _, rfl, ldata ls, ldata ls, (lh7.same s8).dp okl, (la7.same s8).dp okl, sh, sh, _, rfl, ?_⟩
      rw [eqv_self sh]
      have h8 := s8 _ _ hHn
      refine iteF ⟨_, rfl, .inl ⟨rfl, _, SqL.of h8⟩, Hn, _, rfl, rfl, h8, ?_⟩
      have s9 : Same H6 (upd H8 Hn (.lst [])) := fun b o e => by
        rw [upd_ne (ne_of_none e nHn)]
        exact s8 _ _ (s7 _ _ e)
      generalize upd H8 Hn (.lst []) = H9 at s9
      have S49 : Same H4 H9 := s45.trans (s6.trans s9)
      have la9 := la6.same s9
      refine ⟨2, rfl, by decide, by decide, for_range (lo := 0) (n := 2) (fun j σ H' => ∃ (v6 v7 v8 : Option V), σ = [some (.ref a), some (.ref Kp), some (.int c), some (.ref L), some (.str (ltext ls)), some (.ref Hn), v6, v7, v8, none] ∧ Same H9 H')
        ⟨v6, v7, v8, rfl, Same.refl _⟩ ?_ ?_⟩
      · rintro j σ Ha hj ⟨v6, v7, v8, rfl, sa⟩
        have laa := la9.same sa
        refine ⟨_, rfl, ls, rfl, okl, (by omega), fun Fd tf Hb sb nFd lf => ?_⟩
        have lab := laa.same sb
        refine ⟨_, rfl, _, _, _, _, true, rfl, .ty _, .base (.lst lf.1), kit_ty (by decide +kernel), _, rfl, iteF ?_⟩
        refine ⟨_, rfl, _, rfl, ldata ls, ldata ls, lf.dp okl, lab.dp okl, sh, sh, _, rfl, ?_⟩
        rw [eqv_self sh]
        have tfl : tf.length = ls.length := lf.2.length
        refine iteF ⟨_, rfl, Fd, tf, ls, rfl, lf, okl, (by omega), fun Hc sc => ⟨_, rfl, rfl, _, rfl, ?_⟩⟩
        show if (!decide (V.str (ltext ls) = V.str (ltext ls))) = true then _ else _
        rw [decide_eq_true rfl]
        have lfc := lf.same sc
        refine iteF ⟨_, rfl, Fd, rfl, ⟨_, SqL.of lfc.1⟩, for_list (K := K) (a := Fd) (xs := tf.map V.ref) (fun m σ H' => ∃ (v8 : Option V), σ = [some (.ref a), some (.ref Kp), some (.int c), some (.ref L), some (.str (ltext ls)), some (.ref Hn), some (.int (0 + (j : Int))), some (.ref Fd), v8, none] ∧ Same Hc H')
          ⟨v8, rfl, Same.refl _⟩ (fun m σ H' _ ⟨_, _, z⟩ => SqL.of (z _ _ lfc.1)) ?_ ?_⟩
        · rintro m v σ Hd hm ⟨v8, rfl, sd⟩
          obtain ⟨t, ht, rfl⟩ : ∃ t, tf[m]? = some t ∧ v = V.ref t := by
            rw [List.getElem?_map] at hm
            cases e : tf[m]? with
            | none => rw [e] at hm; cases hm
            | some z => rw [e] at hm; exact ⟨z, rfl, (Option.some.inj hm).symm⟩
          obtain ⟨l, hl, al⟩ := pairL_get lfc.2 ht
          obtain ⟨xs, hx, xl, xi⟩ := ln_items (al.same sd)
          refine ⟨_, rfl, _, _, _, _, true, rfl, .ty _, .base (.tup hx), kit_ty (by decide +kernel), _, rfl, iteF ?_⟩
          refine ⟨_, rfl, t, rfl, ⟨_, SqT.of hx⟩, fun D hD => lc_it (walk_tup (xs := xs)) (fun i H' => Same Hd H' ∧ H' D = some (.lst [])) ⟨same_new hD, upd_same⟩ (fun i H' _ z => SqT.of (z.1 _ _ hx)) ?_ ?_⟩
          · rintro n v He Hf hn ⟨se, de⟩ ⟨rfl, hv⟩
            refine ⟨rfl, _, rfl, (by show 2 ≤ sizeLine; omega), fun tp Hg sg ntp htp => ?_⟩
            have Sg : Same Hd Hg := se.trans sg
            have fin : Same Hd Hg ∧ Hg D = some (.lst []) := ⟨Sg, sg _ _ de⟩
            rcases xi v (List.mem_of_getElem? hv) with ⟨x, rfl⟩ | ⟨y, rfl⟩ | ⟨r, vs, rfl, hr2⟩
            · exact ⟨_, tp, _, _, _, false, rfl, htp, .cons (.ty _) (.cons (.ty _) .nil), .base (.str _), noBL (by decide +kernel) (by decide +kernel), _, rfl, iteF fin⟩
            · exact ⟨_, tp, _, _, _, false, rfl, htp, .cons (.ty _) (.cons (.ty _) .nil), .base (.int _), noBL (by decide +kernel) (by decide +kernel), _, rfl, iteF fin⟩
            · exact ⟨_, tp, _, _, _, false, rfl, htp, .cons (.ty _) (.cons (.ty _) .nil), .base (.tup (Sg _ _ hr2)), noBL (by decide +kernel) (by decide +kernel), _, rfl, iteF fin⟩
          · rintro He ⟨se, de⟩
            refine ⟨(by show 0 ≤ sizeLine; omega), fun E3 Hf sf nf hf => ⟨.list [], .list [], .lst (SqL.of (sf _ _ de)) .nil, .lst (SqL.of hf) .nil, sh0, sh0, _, rfl, ?_⟩⟩
            rw [eqv_self sh0]
            exact iteF ⟨_, rfl, sd.trans (se.trans sf)⟩
        · rintro σ Hd ⟨v8, rfl, sd⟩
          have lfd := lfc.same sd
          refine ⟨_, rfl, .inl ⟨rfl, _, SqL.of lfd.1⟩, (by show 3 ≤ sizeLine; omega), fun T He se nT hT => ⟨Fd, _, _, rfl, rfl, se _ _ lfd.1, (by rw [List.length_map]; omega), _, _, _, rfl, fun b o e => ?_⟩⟩
          have e2 := sa _ _ e
          rw [upd_ne (ne_of_none e2 nFd)]
          exact se _ _ (sd _ _ (sc _ _ (sb _ _ e2)))
      · rintro σ Ha ⟨v6, v7, v8, rfl, sa⟩
        have Ka := K4.same (S49.trans sa)
        refine ⟨_, rfl, .inl ⟨rfl, _, SqL.of Ka.k⟩, _, rfl, _, rfl, (by show 2 ≤ sizeLine; omega), fun T Hb sb nT hT => ?_⟩
        have Kb := Ka.same sb
        refine ⟨Kp, _, _, rfl, rfl, Kb.k, (by rw [List.length_map]; omega), es ++ [⟨T, L, ts, ls⟩], _, _, _, _, _, _, _, rfl, by rw [upd_ne nRK]; exact sb _ _ ((S49.trans sa) _ _ hR4), by rw [List.length_append, esl]; rfl, Kb.push (x := ⟨T, L, ts, ls⟩) hT ((la9.same sa).same sb) okl l40 nLK⟩
    · rintro σ H4 ⟨es, v2, v3, v4, v5, v6, v7, v8, rfl, hR4, esl, K4⟩
      refine ⟨_, rfl, Kp, _, rfl, SqL.of K4.k, fun L hL => ?_⟩
      have sL : Same H4 (upd H4 L (.lst (es.map fun e => V.ref e.t).reverse)) := same_new hL
      have hLL : upd H4 L (.lst (es.map fun e => V.ref e.t).reverse) L = some (.lst (es.map fun e => V.ref e.t).reverse) := upd_same
      generalize upd H4 L (.lst (es.map fun e => V.ref e.t).reverse) = H5 at sL hLL
      have K5 := K4.same sL
      refine ⟨L, rfl, ⟨_, SqL.of hLL⟩, for_list (K := K) (a := L) (xs := (es.map fun e => V.ref e.t).reverse) (fun i σ H' => ∃ (v2 v3 v4 v5 v6 v7 v8 : Option V), σ = [some (.ref a), some (.ref Kp), v2, v3, v4, v5, v6, v7, v8, none] ∧ Same H5 H')
        ⟨_, _, _, _, _, _, _, rfl, Same.refl _⟩ (fun i σ H' _ ⟨_, _, _, _, _, _, _, _, z⟩ => SqL.of (z _ _ hLL)) ?_ (fun σ H6 _ => k _)⟩
      rintro i v σ H6 hi ⟨v2, v3, v4, v5, v6, v7, v8, rfl, s6⟩
      obtain ⟨e, he, rfl⟩ : ∃ e ∈ es, v = V.ref e.t := by
        have := List.mem_of_getElem? hi
        rw [List.mem_reverse] at this
        obtain ⟨e, he, rfl⟩ := List.mem_map.mp this
        exact ⟨e, he, rfl⟩
      obtain ⟨ht, la, okl, l40, _⟩ := (K5.same s6).e e he
      have sh := sh_lines okl
      refine ⟨e.t, _, rfl, SqT.of ht, rfl, _, _, rfl, _, _, rfl, rfl, ?_⟩
      refine ⟨_, rfl, e.ls, rfl, okl, (by omega), fun Fd tf Hb sb nFd lf => ⟨_, rfl, ldata e.ls, ldata e.ls, lf.dp okl, (la.same sb).dp okl, sh, sh, _, rfl, ?_⟩⟩
      rw [eqv_self sh]
      have tsl : e.ts.length = e.ls.length := la.2.length
      refine iteF ⟨_, rfl, e.L, e.ts, e.ls, rfl, la.same sb, okl, (by omega), fun Hc sc => ⟨_, rfl, rfl, _, rfl, ?_⟩⟩
      show if (!decide (V.str (ltext e.ls) = V.str (ltext e.ls))) = true then _ else _
      rw [decide_eq_true rfl]
      exact iteF ⟨_, _, _, _, _, _, _, rfl, s6.trans (sb.trans sc)⟩
end
end KP
namespace KP
open PySem L2 KM KD KT
/-! ### from what the top has written -/
section
variable {K : PySem.W.Frag} {h : Heap} {mg : Str → Option Value}
theorem defT {x : Str} {st : Stmt} {ps : List Str} {f : Addr} {oc : Value} {od an : Option Addr} {sl : Array (Option Value)} {kV dc pm cd ct : Value} (X : K.In h) (G : h.Ns mainGlobals mg) (a : PySem.W.nsIn K mainGlobals x = some (some (.ref f)))
    (l : K.lookup f = some ⟨oc, od, .func (PySem.W.fnOf x x (defArgs st) (defBody st) (defScope st) .none kV dc pm an cd ct), sl⟩) (c : PySem.W.codeIn K cd x = true) (k : PySem.W.keepIn K (.ref f) = true)
    (hb : ∀ (kV doc pm : Value) (an : Option Addr) (cdv ct : Value) (us : List Value), us.length = ps.length → bindArgs (PySem.W.fnOf x x (defArgs st) (defBody st) (defScope st) .none kV doc pm an cdv ct) ⟨us, []⟩ = pure (ps.zip us)) : DefT K mg x st ps :=
  ⟨f, _, fun_mk l c k, (fun_mk l c k).binds hb, PySem.W.mg_of X G a⟩
/-- law itself -/
structure LawT (K : PySem.W.Frag) (mg : Str → Option Value) : Prop where
  ex : ∃ f fd, Fun K "law" "law" sLaw f fd ∧ mg "law" = some (.ref f) ∧ ∀ (s : Shared) (v : Value), BindsTo s fd ⟨[v], []⟩ [("_law_script", v)]
theorem lawT {f : Addr} {oc : Value} {od an : Option Addr} {sl : Array (Option Value)} {kV dc pm cd ct : Value} (X : K.In h) (G : h.Ns mainGlobals mg) (a : PySem.W.nsIn K mainGlobals "law" = some (some (.ref f)))
    (l : K.lookup f = some ⟨oc, od, .func (PySem.W.fnOf "law" "law" (defArgs sLaw) (defBody sLaw) (defScope sLaw) .none kV dc pm an cd ct), sl⟩) (c : PySem.W.codeIn K cd "law" = true) (k : PySem.W.keepIn K (.ref f) = true) : LawT K mg :=
  ⟨f, _, fun_mk l c k, PySem.W.mg_of X G a, fun s v => .of_eq rfl⟩
structure ClsF (K : PySem.W.Frag) (C : Addr) : Prop where
  pg : PySem.W.plainGet K C Str.empty = true
  hd : PySem.W.hasDictIn K C = true
  po : PySem.W.plainOver K C = true
  sa : PySem.W.findIn K (.ref C) "__setattr__" = some (some (.builtin "object.__setattr__"))
  mks : PySem.W.makesIn K C = true
  kc : PySem.W.keepIn K (.ref C) = true
  ha : PySem.W.findIn K (.ref C) "__class__" = some (some (.builtin "object.__class__"))
  hm : PySem.W.mroIn K C (.type "object") = some true
  ic : PySem.W.isClsIn K C = true
  tc : PySem.W.typeIn K (.ref C) = some (.type "type")
theorem clsT {x qI qT : Str} {C f g : Addr} {sI sT : Stmt} {psI fl : List Str} {oc oc2 : Value} {od an od2 an2 : Option Addr} {sl sl2 : Array (Option Value)} {kV dc pm cd ct kV2 dc2 pm2 cd2 ct2 : Value} (X : K.In h) (G : h.Ns mainGlobals mg)
    (F : ClsF K C) (aC : PySem.W.nsIn K mainGlobals x = some (some (.ref C)))
    (a1 : PySem.W.findIn K (.ref C) "__init__" = some (some (.ref f))) (i1 : PySem.W.isFn K (.ref f) = true) (l1 : K.lookup f = some ⟨oc, od, .func (PySem.W.fnOf "__init__" qI (defArgs sI) (defBody sI) (defScope sI) .none kV dc pm an cd ct), sl⟩) (c1 : PySem.W.codeIn K cd qI = true) (k1 : PySem.W.keepIn K (.ref f) = true)
    (a2 : PySem.W.findIn K (.ref C) "told" = some (some (.ref g))) (i2 : PySem.W.isFn K (.ref g) = true) (l2 : K.lookup g = some ⟨oc2, od2, .func (PySem.W.fnOf "told" qT (defArgs sT) (defBody sT) (defScope sT) .none kV2 dc2 pm2 an2 cd2 ct2), sl2⟩) (c2 : PySem.W.codeIn K cd2 qT = true) (k2 : PySem.W.keepIn K (.ref g) = true)
    (nF : ∀ f ∈ fl, NoAttr K C f)
    (hb1 : ∀ (kV doc pm : Value) (an : Option Addr) (cdv ct : Value) (us : List Value), us.length = psI.length → bindArgs (PySem.W.fnOf "__init__" qI (defArgs sI) (defBody sI) (defScope sI) .none kV doc pm an cdv ct) ⟨us, []⟩ = pure (psI.zip us))
    (hb2 : ∀ (kV doc pm : Value) (an : Option Addr) (cdv ct : Value) (us : List Value), us.length = (["self"] : List Str).length → bindArgs (PySem.W.fnOf "told" qT (defArgs sT) (defBody sT) (defScope sT) .none kV doc pm an cdv ct) ⟨us, []⟩ = pure ((["self"] : List Str).zip us)) :
    ClsT K mg x qI qT C sI sT psI fl :=
  ⟨⟨F.pg, F.hd, F.po, F.sa⟩, PySem.W.mg_of X G aC, ⟨f, _, ⟨F.mks, a1, i1, F.kc⟩, fun_mk l1 c1 k1, (fun_mk l1 c1 k1).binds hb1⟩, ⟨g, _, ⟨a2, i2, k2⟩, fun_mk l2 c2 k2, (fun_mk l2 c2 k2).binds hb2⟩, nF⟩
theorem nf3 {C : Addr} {a b c : Str} (h1 : PySem.W.findIn K (.ref C) a = some none) (h2 : PySem.W.findIn K (.ref C) b = some none) (h3 : PySem.W.findIn K (.ref C) c = some none) : ∀ f ∈ [a, b, c], NoAttr K C f := by
  intro f hf
  simp at hf
  rcases hf with rfl | rfl | rfl
  · exact h1
  · exact h2
  · exact h3
theorem nf4 {C : Addr} {a b c d : Str} (h1 : PySem.W.findIn K (.ref C) a = some none) (h2 : PySem.W.findIn K (.ref C) b = some none) (h3 : PySem.W.findIn K (.ref C) c = some none) (h4 : PySem.W.findIn K (.ref C) d = some none) : ∀ f ∈ [a, b, c, d], NoAttr K C f := by
  intro f hf
  simp at hf
  rcases hf with rfl | rfl | rfl | rfl
  · exact h1
  · exact h2
  · exact h3
  · exact h4
end
def c7 (c0 c1 c2 c3 c4 c5 c6 : Addr) : Nat → Addr
  | 0 => c0 | 1 => c1 | 2 => c2 | 3 => c3 | 4 => c4 | 5 => c5 | _ => c6
theorem all_mk {P : Program} {w : World} {K : PySem.W.Frag} {h : Heap} {mg : Str → Option Value} {fa c0 c1 c2 c3 c4 c5 c6 : Addr}
    (X : K.In h) (G : h.Ns mainGlobals mg) (hfa : mg "law" = some (.ref fa))
    (a0 : PySem.W.nsIn K mainGlobals "Give" = some (some (.ref c0)))
    (a1 : PySem.W.nsIn K mainGlobals "Hold" = some (some (.ref c1)))
    (a2 : PySem.W.nsIn K mainGlobals "Move" = some (some (.ref c2)))
    (a3 : PySem.W.nsIn K mainGlobals "Spend" = some (some (.ref c3)))
    (a4 : PySem.W.nsIn K mainGlobals "Promise" = some (some (.ref c4)))
    (a5 : PySem.W.nsIn K mainGlobals "Lessen" = some (some (.ref c5)))
    (a6 : PySem.W.nsIn K mainGlobals "Out" = some (some (.ref c6)))
    (t0 : ClsT K mg "Give" "Give.__init__" "Give.told" c0 sIGive sTGive ["self", "head", "coins", "note"] ["head", "coins", "note"])
    (t1 : ClsT K mg "Hold" "Hold.__init__" "Hold.told" c1 sIHold sTHold ["self", "head", "coins", "until", "note"] ["head", "coins", "until", "note"])
    (t2 : ClsT K mg "Move" "Move.__init__" "Move.told" c2 sIMove sTMove ["self", "head", "other", "coins", "note"] ["head", "other", "coins", "note"])
    (t3 : ClsT K mg "Spend" "Spend.__init__" "Spend.told" c3 sISpend sTSpend ["self", "head", "coins", "note"] ["head", "coins", "note"])
    (t4 : ClsT K mg "Promise" "Promise.__init__" "Promise.told" c4 sIPromise sTPromise ["self", "word", "head", "coins", "note"] ["word", "head", "coins", "note"])
    (t5 : ClsT K mg "Lessen" "Lessen.__init__" "Lessen.told" c5 sILessen sTLessen ["self", "word", "coins", "note"] ["word", "coins", "note"])
    (t6 : ClsT K mg "Out" "Out.__init__" "Out.told" c6 sIOut sTOut ["self", "word", "coins", "note"] ["word", "coins", "note"])
    (B : Base K mg) (TB : TextB K mg) (L : LawT K mg)
    (d0 : DefT K mg "is_whole" sWhole ["value", "least", "most"])
    (d1 : DefT K mg "is_word" sWord ["value"])
    (d2 : DefT K mg "is_note" sNote ["value"])
    (d3 : DefT K mg "check_fields" sCheck ["words", "coins", "note"])
    (d4 : DefT K mg "read_entry" sRead ["told"])
    (d5 : DefT K mg "_law_well" sWell ["_law_cell"])
    (d6 : DefT K mg "_law_draw" sDraw ["_law_well_here", "_law_many"])
    (d7 : DefT K mg "_law_name" sName ["_law_well_here"])
    (d8 : DefT K mg "_law_names" sNames ["_law_well_here", "_law_many"])
    (d9 : DefT K mg "_law_coins" sCoins ["_law_well_here"])
    (d10 : DefT K mg "_law_told" sTold ["_law_well_here"])
    (d11 : DefT K mg "is_number" sNum ["word"])
    (d12 : DefT K mg "read_field" sRf ["word"])
    (d13 : DefT K mg "read_fields" sRfs ["words"])
    (d14 : DefT K mg "rows_of" sRo2 ["text"])
    (d15 : DefT K mg "text_of" sTx ["rows"])
    (d16 : DefT K mg "number_text" sNt ["number"])
    (d17 : DefT K mg "told_text" sTt ["told"])
    (d18 : DefT K mg "line_text" sLx ["line"])
    (d19 : DefT K mg "lines_text" sLs ["lines"])
    (d20 : DefT K mg "read_told" sRt ["words", "note"])
    (d21 : DefT K mg "read_line" sRl ["row"])
    (d22 : DefT K mg "read_lines" sRls ["text"])
    (d23 : DefT K mg "_law_far" sFar ["_law_well_here"])
    (d24 : DefT K mg "_law_line" sLin ["_law_well_here"])
    (d25 : DefT K mg "_law_line_text" sLlt ["_law_line_here"])
    (d26 : DefT K mg "_law_lines" sLns ["_law_well_here"]) :
    ∃ fd : FuncData, (∀ (s : Shared) (v : Value), BindsTo s fd ⟨[v], []⟩ [("_law_script", v)]) ∧ ∀ base : Heap, K.In base → base.Ns mainGlobals mg → FnOk P w K mg base CX0 11 fa fd ["_law_script"] (spLaw K) := by
  obtain ⟨f, fd, F, hm, hb⟩ := L.ex
  have ef : fa = f := by
    have e := hfa.symm.trans hm
    injection e with e
    injection e
  subst ef
  refine ⟨fd, hb, fun base _ _ => ?_⟩
  have kWh : Cal P w K mg base 1 "is_whole" spWhole := c_whole B d0
  have kWo : Cal P w K mg base 1 "is_word" spWord := c_word B d1
  have kNo : Cal P w K mg base 2 "is_note" spNote := c_note B kWo d2
  have kCk : Cal P w K mg base 3 "check_fields" spCheck := c_check B kWh kWo kNo d3
  have S : All7 P w K mg base (c7 c0 c1 c2 c3 c4 c5 c6) := ⟨i_give (C := c7 c0 c1 c2 c3 c4 c5 c6) B kWh kCk t0, t_give (C := c7 c0 c1 c2 c3 c4 c5 c6) t0, i_hold (C := c7 c0 c1 c2 c3 c4 c5 c6) B kWh kCk t1, t_hold (C := c7 c0 c1 c2 c3 c4 c5 c6) t1, i_move (C := c7 c0 c1 c2 c3 c4 c5 c6) B kWh kCk t2, t_move (C := c7 c0 c1 c2 c3 c4 c5 c6) t2, i_spend (C := c7 c0 c1 c2 c3 c4 c5 c6) B kWh kCk t3, t_spend (C := c7 c0 c1 c2 c3 c4 c5 c6) t3, i_promise (C := c7 c0 c1 c2 c3 c4 c5 c6) B kWh kCk t4, t_promise (C := c7 c0 c1 c2 c3 c4 c5 c6) t4, i_lessen (C := c7 c0 c1 c2 c3 c4 c5 c6) B kWh kCk t5, t_lessen (C := c7 c0 c1 c2 c3 c4 c5 c6) t5, i_out (C := c7 c0 c1 c2 c3 c4 c5 c6) B kWh kCk t6, t_out (C := c7 c0 c1 c2 c3 c4 c5 c6) t6⟩
  have kRd : Cal P w K mg base 6 "read_entry" (spMade (c7 c0 c1 c2 c3 c4 c5 c6)) := c_read B S d4
  have kDr : Cal P w K mg base 1 "_law_draw" spDraw := c_draw d6
  have kNm : Cal P w K mg base 2 "_law_name" spName := c_name B kDr d7
  have kNs : Cal P w K mg base 3 "_law_names" spNames := c_names B kDr kNm d8
  have kCn : Cal P w K mg base 2 "_law_coins" spCoins := c_coins kDr d9
  have kTl : Cal P w K mg base 4 "_law_told" spToldT := c_told kDr kNm kNs kCn d10
  have kWl : Cal P w K mg base 1 "_law_well" spWell := c_well B d5
  have kNu : Cal P w K mg base 1 "is_number" spNum := c_num B TB d11
  have kRf : Cal P w K mg base 2 "read_field" spRf := c_rf B kNu d12
  have kRfs : Cal P w K mg base 3 "read_fields" spRfs := c_rfs B kRf d13
  have kRo2 : Cal P w K mg base 1 "rows_of" spRo2 := c_ro2 B d14
  have kTx : Cal P w K mg base 1 "text_of" spTx := c_tx B d15
  have kNt : Cal P w K mg base 2 "number_text" spNt := c_nt B TB kWh d16
  have kTt : Cal P w K mg base 7 "told_text" spTt := c_tt B TB S kRd d17
  have kLx : Cal P w K mg base 8 "line_text" spLx := c_lx B kNt kTt d18
  have kLs : Cal P w K mg base 9 "lines_text" spLs := c_ls B TB kLx kTx d19
  have kRt : Cal P w K mg base 4 "read_told" spRt := c_rt TB kRfs d20
  have kRl : Cal P w K mg base 9 "read_line" spRl := c_rl kRf kRt kLx d21
  have kRls : Cal P w K mg base 10 "read_lines" spRls := c_rls kRl kRo2 d22
  have kFa : Cal P w K mg base 2 "_law_far" spFar := c_far kDr d23
  have kLi : Cal P w K mg base 5 "_law_line" spLin := c_lin kDr kFa kTl d24
  have kLl : Cal P w K mg base 6 "_law_lines" spLns := c_lns B kDr kLi d26
  have kLt : Cal P w K mg base 1 "_law_line_text" spLlt := c_llt B d25
  exact ok_law F B TB kWl kLl kLt kLs kRls
theorem walk {l : PySem.W.OpenLaw} {q : Program} {loose : List Str} {XP : (Str → Option Value) → Heap → Prop} {YP : World → Heap → Prop} {d : DefRec} {K : Params → PySem.W.Frag} (hn : l.most = some 63) (hdf : d.params.defaults = [])
    (hY : ∀ (w : World) (h : Heap), YP w h → (K w.params).In h)
    (F : ∀ (w : World) (mg : Str → Option Value) (fa : Addr) (h : Heap), (K w.params).In h → h.Ns mainGlobals mg → mg d.name = some (.ref fa) →
      ∃ fd : FuncData, (∀ (s : Shared) (u : Value), BindsTo s fd ⟨[u], []⟩ [("_law_script", u)]) ∧ ∀ base : Heap, (K w.params).In base → base.Ns mainGlobals mg → FnOk l.prog w (K w.params) mg base CX0 11 fa fd ["_law_script"] (spLaw (K w.params))) :
    PySem.W.WalkO q loose XP YP l.row.toRowW d [] (fun f vs => PySem.call f vs) :=
  L2.walk_of (n := 63) (k := 11) (x := "_law_script") (CX := fun _ => CX0) (sp := fun w => spLaw (K w.params)) hn (by decide) hdf ⟨rfl, by decide, by decide⟩ hY F (fun _ _ a ns hl _ hS => ⟨a, ns, rfl, hS, hl, fun _ => rfl⟩) fun _ _ _ _ _ z => z
end KP
open PySem PySem.W PyProof.Rows
set_option maxRecDepth 100000 in
set_option maxHeartbeats 0 in
theorem PySem.Challenge.cw_knotpurse_k84_lines_as_text_holds : PySem.Challenge.rw_knotpurse_k84_lines_as_text.Holds := by
  w_on; o_law; k_head; (case hw => w_witness2)
  k_fill
  refine KP.walk (l := PySem.Challenge.rw_knotpurse_k84_lines_as_text) rfl rfl (fun w h Y => PySem.W.kIn_of Y) ?F
  case F =>
    intro w mg fa h KX G hmg
    refine' KP.all_mk KX G hmg ?a0 ?a1 ?a2 ?a3 ?a4 ?a5 ?a6 ?t0 ?t1 ?t2 ?t3 ?t4 ?t5 ?t6 ?B ?q_TB ?L ?d0 ?d1 ?d2 ?d3 ?d4 ?d5 ?d6 ?d7 ?d8 ?d9 ?d10 ?d11 ?d12 ?d13 ?d14 ?d15 ?d16 ?d17 ?d18 ?d19 ?d20 ?d21 ?d22 ?d23 ?d24 ?d25 ?d26
    (case a0 => k_is)
    (case a1 => k_is)
    (case a2 => k_is)
    (case a3 => k_is)
    (case a4 => k_is)
    (case a5 => k_is)
    (case a6 => k_is)
    (case t0 => refine' KP.clsT KX G ⟨by k_is, by k_is, by k_is, by k_is, by k_is, by k_is, by k_is, by k_is, by k_is, by k_is⟩ ?aC ?a1 ?i1 ?l1 ?c1 ?k1 ?a2 ?i2 ?l2 ?c2 ?k2 ?nF (fun _ _ _ _ _ _ us hl => match us, hl with | [_, _, _, _], _ => rfl) (fun _ _ _ _ _ _ us hl => match us, hl with | [_], _ => rfl); (case aC => k_is); (case a1 => k_is); (case i1 => k_is); (case l1 => k_is); (case c1 => k_is); (case k1 => k_is); (case a2 => k_is); (case i2 => k_is); (case l2 => k_is); (case c2 => k_is); (case k2 => k_is); (case nF => exact KP.nf3 (by k_is) (by k_is) (by k_is)))
    (case t1 => refine' KP.clsT KX G ⟨by k_is, by k_is, by k_is, by k_is, by k_is, by k_is, by k_is, by k_is, by k_is, by k_is⟩ ?aC ?a1 ?i1 ?l1 ?c1 ?k1 ?a2 ?i2 ?l2 ?c2 ?k2 ?nF (fun _ _ _ _ _ _ us hl => match us, hl with | [_, _, _, _, _], _ => rfl) (fun _ _ _ _ _ _ us hl => match us, hl with | [_], _ => rfl); (case aC => k_is); (case a1 => k_is); (case i1 => k_is); (case l1 => k_is); (case c1 => k_is); (case k1 => k_is); (case a2 => k_is); (case i2 => k_is); (case l2 => k_is); (case c2 => k_is); (case k2 => k_is); (case nF => exact KP.nf4 (by k_is) (by k_is) (by k_is) (by k_is)))
    (case t2 => refine' KP.clsT KX G ⟨by k_is, by k_is, by k_is, by k_is, by k_is, by k_is, by k_is, by k_is, by k_is, by k_is⟩ ?aC ?a1 ?i1 ?l1 ?c1 ?k1 ?a2 ?i2 ?l2 ?c2 ?k2 ?nF (fun _ _ _ _ _ _ us hl => match us, hl with | [_, _, _, _, _], _ => rfl) (fun _ _ _ _ _ _ us hl => match us, hl with | [_], _ => rfl); (case aC => k_is); (case a1 => k_is); (case i1 => k_is); (case l1 => k_is); (case c1 => k_is); (case k1 => k_is); (case a2 => k_is); (case i2 => k_is); (case l2 => k_is); (case c2 => k_is); (case k2 => k_is); (case nF => exact KP.nf4 (by k_is) (by k_is) (by k_is) (by k_is)))
    (case t3 => refine' KP.clsT KX G ⟨by k_is, by k_is, by k_is, by k_is, by k_is, by k_is, by k_is, by k_is, by k_is, by k_is⟩ ?aC ?a1 ?i1 ?l1 ?c1 ?k1 ?a2 ?i2 ?l2 ?c2 ?k2 ?nF (fun _ _ _ _ _ _ us hl => match us, hl with | [_, _, _, _], _ => rfl) (fun _ _ _ _ _ _ us hl => match us, hl with | [_], _ => rfl); (case aC => k_is); (case a1 => k_is); (case i1 => k_is); (case l1 => k_is); (case c1 => k_is); (case k1 => k_is); (case a2 => k_is); (case i2 => k_is); (case l2 => k_is); (case c2 => k_is); (case k2 => k_is); (case nF => exact KP.nf3 (by k_is) (by k_is) (by k_is)))
    (case t4 => refine' KP.clsT KX G ⟨by k_is, by k_is, by k_is, by k_is, by k_is, by k_is, by k_is, by k_is, by k_is, by k_is⟩ ?aC ?a1 ?i1 ?l1 ?c1 ?k1 ?a2 ?i2 ?l2 ?c2 ?k2 ?nF (fun _ _ _ _ _ _ us hl => match us, hl with | [_, _, _, _, _], _ => rfl) (fun _ _ _ _ _ _ us hl => match us, hl with | [_], _ => rfl); (case aC => k_is); (case a1 => k_is); (case i1 => k_is); (case l1 => k_is); (case c1 => k_is); (case k1 => k_is); (case a2 => k_is); (case i2 => k_is); (case l2 => k_is); (case c2 => k_is); (case k2 => k_is); (case nF => exact KP.nf4 (by k_is) (by k_is) (by k_is) (by k_is)))
    (case t5 => refine' KP.clsT KX G ⟨by k_is, by k_is, by k_is, by k_is, by k_is, by k_is, by k_is, by k_is, by k_is, by k_is⟩ ?aC ?a1 ?i1 ?l1 ?c1 ?k1 ?a2 ?i2 ?l2 ?c2 ?k2 ?nF (fun _ _ _ _ _ _ us hl => match us, hl with | [_, _, _, _], _ => rfl) (fun _ _ _ _ _ _ us hl => match us, hl with | [_], _ => rfl); (case aC => k_is); (case a1 => k_is); (case i1 => k_is); (case l1 => k_is); (case c1 => k_is); (case k1 => k_is); (case a2 => k_is); (case i2 => k_is); (case l2 => k_is); (case c2 => k_is); (case k2 => k_is); (case nF => exact KP.nf3 (by k_is) (by k_is) (by k_is)))
    (case t6 => refine' KP.clsT KX G ⟨by k_is, by k_is, by k_is, by k_is, by k_is, by k_is, by k_is, by k_is, by k_is, by k_is⟩ ?aC ?a1 ?i1 ?l1 ?c1 ?k1 ?a2 ?i2 ?l2 ?c2 ?k2 ?nF (fun _ _ _ _ _ _ us hl => match us, hl with | [_, _, _, _], _ => rfl) (fun _ _ _ _ _ _ us hl => match us, hl with | [_], _ => rfl); (case aC => k_is); (case a1 => k_is); (case i1 => k_is); (case l1 => k_is); (case c1 => k_is); (case k1 => k_is); (case a2 => k_is); (case i2 => k_is); (case l2 => k_is); (case c2 => k_is); (case k2 => k_is); (case nF => exact KP.nf3 (by k_is) (by k_is) (by k_is)))
    (case B => exact ⟨PySem.W.mg_none_of KX G (by k_is), PySem.W.mg_none_of KX G (by k_is), PySem.W.mg_none_of KX G (by k_is), PySem.W.mg_none_of KX G (by k_is), PySem.W.mg_none_of KX G (by k_is), PySem.W.mg_none_of KX G (by k_is), PySem.W.mg_none_of KX G (by k_is), PySem.W.mg_none_of KX G (by k_is), ⟨_, PySem.W.mg_of KX G (by k_is)⟩, ⟨_, PySem.W.mg_of KX G (by k_is)⟩, ⟨_, PySem.W.mg_of KX G (by k_is)⟩, ⟨_, PySem.W.mg_of KX G (by k_is)⟩, ⟨_, PySem.W.mg_of KX G (by k_is)⟩⟩)
    (case L => refine' KP.lawT KX G ?a ?l ?c ?k; (case a => k_is); (case l => k_is); (case c => k_is); (case k => k_is))
    (case q_TB => exact ⟨⟨_, PySem.W.mg_of KX G (by k_is)⟩, ⟨_, PySem.W.mg_of KX G (by k_is)⟩, ⟨_, PySem.W.mg_of KX G (by k_is)⟩, ⟨_, PySem.W.mg_of KX G (by k_is)⟩, PySem.W.mg_none_of KX G (by k_is)⟩)
    (case d0 => refine' KP.defT KX G ?a ?l ?c ?k (fun _ _ _ _ _ _ us hl => match us, hl with | [_, _, _], _ => rfl); (case a => k_is); (case l => k_is); (case c => k_is); (case k => k_is))
    (case d1 => refine' KP.defT KX G ?a ?l ?c ?k (fun _ _ _ _ _ _ us hl => match us, hl with | [_], _ => rfl); (case a => k_is); (case l => k_is); (case c => k_is); (case k => k_is))
    (case d2 => refine' KP.defT KX G ?a ?l ?c ?k (fun _ _ _ _ _ _ us hl => match us, hl with | [_], _ => rfl); (case a => k_is); (case l => k_is); (case c => k_is); (case k => k_is))
    (case d3 => refine' KP.defT KX G ?a ?l ?c ?k (fun _ _ _ _ _ _ us hl => match us, hl with | [_, _, _], _ => rfl); (case a => k_is); (case l => k_is); (case c => k_is); (case k => k_is))
    (case d4 => refine' KP.defT KX G ?a ?l ?c ?k (fun _ _ _ _ _ _ us hl => match us, hl with | [_], _ => rfl); (case a => k_is); (case l => k_is); (case c => k_is); (case k => k_is))
    (case d5 => refine' KP.defT KX G ?a ?l ?c ?k (fun _ _ _ _ _ _ us hl => match us, hl with | [_], _ => rfl); (case a => k_is); (case l => k_is); (case c => k_is); (case k => k_is))
    (case d6 => refine' KP.defT KX G ?a ?l ?c ?k (fun _ _ _ _ _ _ us hl => match us, hl with | [_, _], _ => rfl); (case a => k_is); (case l => k_is); (case c => k_is); (case k => k_is))
    (case d7 => refine' KP.defT KX G ?a ?l ?c ?k (fun _ _ _ _ _ _ us hl => match us, hl with | [_], _ => rfl); (case a => k_is); (case l => k_is); (case c => k_is); (case k => k_is))
    (case d8 => refine' KP.defT KX G ?a ?l ?c ?k (fun _ _ _ _ _ _ us hl => match us, hl with | [_, _], _ => rfl); (case a => k_is); (case l => k_is); (case c => k_is); (case k => k_is))
    (case d9 => refine' KP.defT KX G ?a ?l ?c ?k (fun _ _ _ _ _ _ us hl => match us, hl with | [_], _ => rfl); (case a => k_is); (case l => k_is); (case c => k_is); (case k => k_is))
    (case d10 => refine' KP.defT KX G ?a ?l ?c ?k (fun _ _ _ _ _ _ us hl => match us, hl with | [_], _ => rfl); (case a => k_is); (case l => k_is); (case c => k_is); (case k => k_is))
    (case d11 => refine' KP.defT KX G ?a ?l ?c ?k (fun _ _ _ _ _ _ us hl => match us, hl with | [_], _ => rfl); (case a => k_is); (case l => k_is); (case c => k_is); (case k => k_is))
    (case d12 => refine' KP.defT KX G ?a ?l ?c ?k (fun _ _ _ _ _ _ us hl => match us, hl with | [_], _ => rfl); (case a => k_is); (case l => k_is); (case c => k_is); (case k => k_is))
    (case d13 => refine' KP.defT KX G ?a ?l ?c ?k (fun _ _ _ _ _ _ us hl => match us, hl with | [_], _ => rfl); (case a => k_is); (case l => k_is); (case c => k_is); (case k => k_is))
    (case d14 => refine' KP.defT KX G ?a ?l ?c ?k (fun _ _ _ _ _ _ us hl => match us, hl with | [_], _ => rfl); (case a => k_is); (case l => k_is); (case c => k_is); (case k => k_is))
    (case d15 => refine' KP.defT KX G ?a ?l ?c ?k (fun _ _ _ _ _ _ us hl => match us, hl with | [_], _ => rfl); (case a => k_is); (case l => k_is); (case c => k_is); (case k => k_is))
    (case d16 => refine' KP.defT KX G ?a ?l ?c ?k (fun _ _ _ _ _ _ us hl => match us, hl with | [_], _ => rfl); (case a => k_is); (case l => k_is); (case c => k_is); (case k => k_is))
    (case d17 => refine' KP.defT KX G ?a ?l ?c ?k (fun _ _ _ _ _ _ us hl => match us, hl with | [_], _ => rfl); (case a => k_is); (case l => k_is); (case c => k_is); (case k => k_is))
    (case d18 => refine' KP.defT KX G ?a ?l ?c ?k (fun _ _ _ _ _ _ us hl => match us, hl with | [_], _ => rfl); (case a => k_is); (case l => k_is); (case c => k_is); (case k => k_is))
    (case d19 => refine' KP.defT KX G ?a ?l ?c ?k (fun _ _ _ _ _ _ us hl => match us, hl with | [_], _ => rfl); (case a => k_is); (case l => k_is); (case c => k_is); (case k => k_is))
    (case d20 => refine' KP.defT KX G ?a ?l ?c ?k (fun _ _ _ _ _ _ us hl => match us, hl with | [_, _], _ => rfl); (case a => k_is); (case l => k_is); (case c => k_is); (case k => k_is))
    (case d21 => refine' KP.defT KX G ?a ?l ?c ?k (fun _ _ _ _ _ _ us hl => match us, hl with | [_], _ => rfl); (case a => k_is); (case l => k_is); (case c => k_is); (case k => k_is))
    (case d22 => refine' KP.defT KX G ?a ?l ?c ?k (fun _ _ _ _ _ _ us hl => match us, hl with | [_], _ => rfl); (case a => k_is); (case l => k_is); (case c => k_is); (case k => k_is))
    (case d23 => refine' KP.defT KX G ?a ?l ?c ?k (fun _ _ _ _ _ _ us hl => match us, hl with | [_], _ => rfl); (case a => k_is); (case l => k_is); (case c => k_is); (case k => k_is))
    (case d24 => refine' KP.defT KX G ?a ?l ?c ?k (fun _ _ _ _ _ _ us hl => match us, hl with | [_], _ => rfl); (case a => k_is); (case l => k_is); (case c => k_is); (case k => k_is))
    (case d25 => refine' KP.defT KX G ?a ?l ?c ?k (fun _ _ _ _ _ _ us hl => match us, hl with | [_], _ => rfl); (case a => k_is); (case l => k_is); (case c => k_is); (case k => k_is))
    (case d26 => refine' KP.defT KX G ?a ?l ?c ?k (fun _ _ _ _ _ _ us hl => match us, hl with | [_], _ => rfl); (case a => k_is); (case l => k_is); (case c => k_is); (case k => k_is))
