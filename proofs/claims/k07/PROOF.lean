import PyProof.Rows.All
import Wide.All
import OpenK.AllK
import Wide.FinOn
import HandS.ForMost
import HandS.Walk
import HandS.Wide
import HandS.IsInst
import HandS.NoneIn
import HandS.Style
import HandS.Codes
import PyProof.Rows.MatchSeqLen
import HandS.ForExc
import HandS.TupAny
import HandS.ExcIs
import PyProof.Rows.IntBool
import PySem.Challenge.RW_knotpurse_k07_whole_entries_spoilt_anywh
set_option Elab.async false
set_option maxRecDepth 100000
set_option linter.all false
/-! the statement match over a tuple: cases whose first part is a written text and whose other parts are names -/
namespace KM
open PySem PySem.Spec PyProof.Rows L2
/-- the patterns ps, each a bare name of ns in turn -/
structure Caps (env : Env) (ps : List Pattern) (ns : List Str) : Prop where
  run : ∀ {M : Model} {A : Around} {E : Value → Shared → Prop} (us : List Value) (s : Shared) (Q : Option (List (Str × Value)) → Shared → Prop), us.length = ns.length → Q (some (ns.zip us)) s → wpAny M A (matchEach ps env us) Q E s
theorem caps_nil {env : Env} : Caps env [] [] := ⟨fun us s Q hl h => by
  cases us with
  | nil => exact wpAny_matchEach_nil h
  | cons u r => exact absurd hl (by simp)⟩
theorem caps_cons {env : Env} {n : Str} {pos : Pos} {ps : List Pattern} {ns : List Str} (c : Caps env ps ns) : Caps env (.MatchAs none (some n) pos :: ps) (n :: ns) := ⟨fun us s Q hl h => by
  cases us with
  | nil => exact absurd hl (by simp)
  | cons u r =>
    refine wpAny_matchEach_cons (wpAny_matchPattern_Capture ?_)
    refine c.run r s _ (by simpa using hl) ?_
    exact h⟩
/-- the slots js take the values vs in turn -/
def setAll : L2.St → List Nat → List V → L2.St
  | σ, j :: js, v :: vs => setAll (σ.set j (some v)) js vs
  | σ, _, _ => σ
structure Stor (X : Cx) (ns : List Str) (js : List Nat) : Prop where
  run : ∀ {M : Model} {A : Around} {E : Value → Shared → Prop} (pins : List (Addr × Obj)) (s : Shared) (σ : L2.St) (H : Hp) (vs : List V) (us : List Value) (Q : Unit → Shared → Prop), Inv X pins σ H s → Vals vs us → us.length = ns.length →
    (∀ s', Inv X pins (setAll σ js vs) H s' → Q () s') → wpAny M A (assignInOrder ((ns.zip us).map fun (n, _) => bindName X.env n) ((ns.zip us).map (·.2))) Q E s
theorem stores_nil {X : Cx} : Stor X [] [] := ⟨fun pins s σ H vs us Q I r hl h => by
  cases r with
  | nil => exact wpAny_assignInOrder_none (h s I)
  | cons r t => exact absurd hl (by simp)⟩
theorem stores_cons {X : Cx} {i : Nat} {x : Str} {ns : List Str} {js : List Nat} (hN : X.N.Nodup) (c : Stor X ns js) (hi : X.N[i]? = some x) (hx : Loc X.env.scope x)
    (hf : X.fn x = true ∨ X.env.scope.names.lookup x = some .local := by first | exact .inl rfl | exact .inr rfl | assumption) : Stor X (x :: ns) (i :: js) := ⟨fun pins s σ H vs us Q I r hl h => by
  cases r with
  | nil => exact absurd hl (by simp)
  | cons r t =>
    refine wpAny_assignInOrder_more (wpAny_bindName (store_ok I hN hi hx r (fun s' I' => ?_) hf))
    exact c.run pins s' _ H _ _ Q I' t (by simpa using hl) h⟩
/-- the cases, of a subject's value -/
structure PM (X : Cx) (cs : List MatchCase) (t : V → TS) : Prop where
  run : ∀ (first : Bool) (pins : List (Addr × Obj)) (s : Shared) (σ : L2.St) (H : Hp) (D : Ends) (v : V) (u : Value), Inv X pins σ H s → RelV v u → t v D σ H → wpAny (model X.prog X.w) X.A (matchCases cs X.env u first) (SP X pins D) X.xe s
def mNil : V → TS := fun _ D σ H => D.nx σ H
theorem pm_nil {X : Cx} : PM X [] mNil := ⟨fun _ _ s σ H _ _ _ I _ h => wpAny_matchCases_nil ⟨σ, H, I, h⟩⟩
/-- case ("k", a, b, ..): n names, r the rule of == -/
def mCase (K : PySem.W.Frag) (r : R2) (k : Str) (n : Nat) (js : List Nat) (tb : TS) (rest : V → TS) : V → TS := fun v D σ H => ∃ a xs, v = .ref a ∧ SqT K H a xs ∧
  ((xs.length ≠ n + 1 ∧ rest v D σ H) ∨ (xs.length = n + 1 ∧ ∃ y ys, xs = y :: ys ∧ r y (.str k) H fun z H1 => ∃ b, z = .bl b ∧ if b = true then tb D (setAll σ js ys) H1 else rest v D σ H1))
theorem pm_case {X : Cx} {r : R2} {k : Str} {j : Nat} {p1 p2 p3 : Pos} {ps : List Pattern} {ns : List Str} {js : List Nat} {n : Nat} {body : List Stmt} {cs : List MatchCase} {tb : TS} {rest : V → TS}
    (hc : X.calm = true) (ho : OpR X (compareOp .Eq) r) (hp : Caps X.env ps ns) (hs : Stor X ns js) (hb : PSs X body tb) (hr : PM X cs rest) (hn : ns.length = n := by rfl) (hpn : ps.length = n := by rfl)
    (hstar : (Pattern.MatchValue (.Constant (.str k) j p1) p2 :: ps).findIdx? (·.isStar) = none := by rfl)
    (hwild : ((Pattern.MatchValue (.Constant (.str k) j p1) p2 :: ps).all fun p => p.isWildcard || (p.isStar && p.names.isEmpty)) = false := by rfl) :
    PM X (⟨.MatchSequence (.MatchValue (.Constant (.str k) j p1) p2 :: ps) p3, none, body⟩ :: cs) (mCase X.K r k n js tb rest) := by
  refine ⟨fun first pins s σ H D v u I rv h => ?_⟩
  obtain ⟨a, xs, rfl, hq, h⟩ := h
  cases rv
  obtain ⟨its, rx, ht, hz⟩ := I.tuple hq
  have hsz : its.toArray.size = xs.length := by simp [rx.length]
  have hfit : ((its.toArray.size : Nat) : Int) < 2 ^ 63 := by
    have : xs.length ≤ sizeLine := hz
    have e : sizeLine = 16777216 := by decide
    omega
  refine wpAny_matchCases_cons ?_
  rcases h with ⟨hne, h⟩ | ⟨hlen, y, ys, rfl, h⟩
  · refine matchSeq_tuple_miss ht hfit (by rw [hsz, List.length_cons, hpn]; exact hne) ?_ hstar hwild
    exact hr.run false pins _ σ H D (.ref a) (.ref a) (I.tok _) rfl h
  · refine matchSeq_tuple_hit ht hfit (by rw [hsz, hlen]; show n + 1 = ps.length + 1; rw [hpn]) ?_ hstar hwild
    have I1 : Inv X pins σ H { s with toks := s.toks + 1 + 1 } := I.tok _
    have hl2 : (Pattern.MatchValue (.Constant (.str k) j p1) p2 :: ps).length = its.toArray.size := by rw [hsz, hlen]; show ps.length + 1 = n + 1; rw [hpn]
    rw [hl2]
    refine unpackItems_tuple (I.ok.hd hc) (show IsTup ({ s with toks := s.toks + 1 + 1 } : Shared).heap a its.toArray from ht) fun h' hx' => ?_
    have I2 := I1.kept (h' := h') (t' := s.toks + 1 + 1) fun b o e => hx' b o (Nat.ne_of_lt (Heap.lt_size e)) e
    cases rx with
    | @cons _ u0 _ us r0 rr =>
    show wpAny _ _ (matchEach _ _ (u0 :: us)) _ _ _
    refine wpAny_matchEach_cons (wpAny_matchPattern_Value (Calls.Constant_str ?_))
    have I3 := I2.tok (s.toks + 1 + 1 + 1)
    refine thn (ho pins _ σ H y (.str k) u0 _ _ I3 r0 ⟨_, rfl⟩ h) fun c s3 ⟨z, H1, I4, rz, q⟩ => ?_
    obtain ⟨b, rfl, q⟩ := q
    cases rz
    refine wpAny_truthy_bool ?_
    cases b with
    | false =>
      rw [if_neg Bool.false_ne_true]
      exact hr.run false pins _ σ H1 D (.ref a) (.ref a) I4 rfl q
    | true =>
      rw [if_pos rfl]
      have hul : us.length = ns.length := by
        have h1 := rr.length
        have h2 : ys.length = n := by simpa using hlen
        omega
      refine hp.run us _ _ hul ?_
      refine hs.run pins _ σ H1 ys us _ I4 rr hul fun s5 I5 => ?_
      exact hb.run pins s5 _ H1 D I5 q
def tMatch (te : TE) (t : V → TS) : TS := fun D σ H => te σ H fun v H1 => t v D σ H1
theorem ps_match {X : Cx} {e : Expr} {cs : List MatchCase} {pos : Pos} {te : TE} {t : V → TS} (he : PE X e te) (hm : PM X cs t) : PS X (.Match e cs pos) (tMatch te t) := by
  refine ⟨fun pins s σ H D I h => ?_⟩
  refine wpAny_Match (thn (he.run pins s σ H _ I h) fun v s1 ⟨x, H1, I1, r1, q1⟩ => ?_)
  exact hm.run true pins s1 σ H1 D x v I1 r1 q1
end KM
namespace KP
open PySem L2 KM
def top (i : Nat) : Stmt := PySem.Challenge.pw_knotpurse_k07_whole_entries_spoilt_anywh.main.body.getD i (.Pass ⟨0, 0, 0, 0⟩)
/-! ### how a def of the text is known, and called -/
structure DefT (K : PySem.W.Frag) (mg : Str → Option Value) (x : Str) (st : Stmt) (ps : List Str) : Prop where
  ex : ∃ f fd, Fun K x x st f fd ∧ Binds K fd ps [] ∧ mg x = some (.ref f)
structure Cal (P : Program) (w : World) (K : PySem.W.Frag) (mg : Str → Option Value) (base : Heap) (k : Nat) (x : Str) (sp : Sp) : Prop where
  ex : ∃ f fd ps, FnOk P w K mg base CX0 k f fd ps sp ∧ mg x = some (.ref f) ∧ PySem.W.keepIn K (.ref f) = true ∧ Binds K fd ps []
section
variable {P : Program} {w : World} {K : PySem.W.Frag} {mg : Str → Option Value} {base : Heap}
theorem cal {x : Str} {st : Stmt} {N ps : List Str} {k : Nat} {sp : Sp} (D : DefT K mg x st ps) (S : FnScope N ps (defScope st)) (len : ∀ vs H Q E, sp vs H Q E → vs.length = ps.length)
    (hbody : ∀ (f : Addr) (cdv : Value) (A : Around) (outer : List Env) (s : Shared) (H : Hp) (vs : List V) (Q : VK) (E : XK), Room k (A.deeper (PyProof.Rows.envOfC x (defScope st) s.heap.objs.size f cdv)) → sp vs H Q E →
      ∃ t, PSs (cxOf CX0 P w K mg base N x (defScope st) f cdv A outer s H E).nox (defBody st) t ∧ t { nx := fun _ H' => Q .non H', rt := Q } (start N vs) H) : Cal P w K mg base (k + 1) x sp := by
  obtain ⟨f, fd, F, b, m⟩ := D.ex
  exact ⟨f, fd, ps, F.ok S len (hbody f), m, F.kp, b⟩
end
section
variable {X : Cx} {k j : Nat} {x : Str} {sp : Sp} {p pos : Pos} {e : Expr} {es : List Expr} {t : TA}
/-- f(e, ..) -/
theorem pe_cl (c : Cal X.prog X.w X.K X.mg X.base k x sp) (hr : Room j X.A) (hk : k ≤ j) (hg : Gl X x) (ha : PA X (e :: es) t)
    (hdb : (x == ("__debug__" : Str)) = false := by decide) (he : starEach (e :: es) X.env = (false, eval e X.env) :: starEach es X.env := by rfl) (hpl : (backTo pos (starEach es X.env)).any (·.1) = false := by rfl) :
    PE X (.Call (.Name x p) (e :: es) [] pos) (tCall sp [] E0 t) := by
  obtain ⟨f, fd, ps, F, m, kp, b⟩ := c.ex
  exact pe_call F (hr.mono hk) hg m kp b .nil pass0 ha hdb he hpl
end
theorem yes {σ : L2.St} {H : Hp} {Q : Bool → Hp → Prop} (h : Q true H) : tYes σ H Q := h
/-! ### texts of letters -/
def letters : Str := "abcdefghijklmnopqrstuvwxyz"
def Ltr (c : Nat) : Prop := c ∈ letters.cps.toList
def IsW (x : Str) : Prop := (∀ c ∈ x.cps.toList, Ltr c) ∧ 1 ≤ x.length ∧ x.length ≤ 8
def IsN (x : Str) : Prop := x = "" ∨ IsW x
/-! ### the written part: what of it the walk asks -/
structure Base (K : PySem.W.Frag) (mg : Str → Option Value) : Prop where
  isi : mg "isinstance" = none
  bool : mg "bool" = none
  int : mg "int" = none
  str : mg "str" = none
  tuple : mg "tuple" = none
  len : mg "len" = none
  all : mg "all" = none
  range : mg "range" = none
  letters : ∃ t, mg "LETTERS" = some (.str letters t)
  mostL : ∃ t, mg "MOST_LETTERS" = some (.int 8 t)
  mostC : ∃ t, mg "MOST_COINS" = some (.int 1000000000000 t)
  leastU : ∃ t, mg "LEAST_UNTIL" = some (.int 2 t)
  mostU : ∃ t, mg "MOST_UNTIL" = some (.int 31 t)
abbrev sWhole : Stmt := top 17
abbrev sWord : Stmt := top 18
abbrev sNote : Stmt := top 19
abbrev sCheck : Stmt := top 24
def spWhole : Sp := fun vs H Q _ => ∃ v lo hi : Int, vs = [.int v, .int lo, .int hi] ∧ Q (.bl (decide (lo ≤ v ∧ v ≤ hi))) H
def spWord : Sp := fun vs H Q _ => ∃ x : Str, vs = [.str x] ∧ IsW x ∧ ∀ H', Same H H' → Q (.bl true) H'
def spNote : Sp := fun vs H Q _ => ∃ x : Str, vs = [.str x] ∧ IsN x ∧ ∀ H', Same H H' → Q (.bl true) H'
def spCheck : Sp := fun vs H Q _ => ∃ (a : Addr) (ws : List Str) (c : Int) (n : Str), vs = [.ref a, .int c, .str n] ∧ H a = some (.lst (ws.map V.str)) ∧ (∀ x ∈ ws, IsW x) ∧ ws.length ≤ 2 ∧ 1 ≤ c ∧ c ≤ 1000000000000 ∧ IsN n ∧ ∀ H', Same H H' → Q .non H'
section
variable {P : Program} {w : World} {K : PySem.W.Frag} {mg : Str → Option Value} {base : Heap}
theorem scWhole : FnScope ["value", "least", "most"] ["value", "least", "most"] (defScope sWhole) := ⟨rfl, rfl, rfl, by decide +kernel, rfl, by decide +kernel, by decide +kernel⟩
theorem c_whole (B : Base K mg) (D : DefT K mg "is_whole" sWhole ["value", "least", "most"]) : Cal P w K mg base 1 "is_whole" spWhole := by
  refine cal D scWhole (fun vs H Q E h => ?_) (fun f cdv A outer s H vs Q E hr h => ?_)
  · obtain ⟨v, lo, hi, rfl, _⟩ := h
    rfl
  · obtain ⟨v, lo, hi, rfl, k⟩ := h
    refine ⟨_, pss_cons (ps_if (PW.pt (pw_or (pt_val (pe_callB call_isi (by rfl) B.isi (by decide +kernel) (pa_cons (pv 0) (pa_cons (pe_bltn (v := .ty "bool") (by rfl) B.bool (by decide +kernel) rfl) pa_nil))))
        (pw_or1 (pt_not (pt_val (pe_callB call_isi (by rfl) B.isi (by decide +kernel) (pa_cons (pv 0) (pa_cons (pe_bltn (v := .ty "int") (by rfl) B.int (by decide +kernel) rfl) pa_nil)))))))) (pss_one (ps_ret pe_bl)) pss_nil)
      (pss_one (ps_ret (pe_chain op_le op_le (pv 1) (pv 0) (pv 2)))), ?_⟩
    refine ⟨_, rfl, _, _, _, _, false, rfl, .ty _, .base (.int _), kit_ty (by decide +kernel), _, rfl, iteF ?_⟩
    refine ⟨_, rfl, _, _, _, _, true, rfl, .ty _, .base (.int _), kit_ty (by decide +kernel), _, rfl, iteF ?_⟩
    refine ⟨_, rfl, _, rfl, _, _, rfl, rfl, _, rfl, ?_⟩
    by_cases h1 : lo ≤ v
    · rw [if_pos (decide_eq_true h1)]
      refine ⟨_, rfl, _, _, rfl, rfl, ?_⟩
      by_cases h2 : v ≤ hi
      · show Q (.bl (decide (v ≤ hi))) H
        rw [decide_eq_true h2]
        rw [decide_eq_true ⟨h1, h2⟩] at k
        exact k
      · show Q (.bl (decide (v ≤ hi))) H
        rw [decide_eq_false h2]
        rw [decide_eq_false fun z => h2 z.2] at k
        exact k
    · rw [if_neg (by rw [decide_eq_false h1]; exact Bool.false_ne_true)]
      rw [decide_eq_false fun z => h1 z.1] at k
      exact k
/-- a new object leaves the rest as it was -/
theorem same_new {H : Hp} {a : Addr} {o : HO} (h : H a = none) : Same H (upd H a o) := fun b u e => by
  rw [upd_ne (ne_of_none e h)]
  exact e
theorem map_rep {n : Nat} : (List.replicate n true).map V.bl = List.replicate n (V.bl true) := by simp
theorem all_rep {n : Nat} : (List.replicate n true).all id = true := by
  rw [List.all_eq_true]
  intro x hx
  exact (List.mem_replicate.mp hx).2
theorem scWord : FnScope ["value", "sign"] ["value"] (defScope sWord) := ⟨rfl, rfl, rfl, by decide +kernel, rfl, by decide +kernel, by decide +kernel⟩
theorem c_word (B : Base K mg) (D : DefT K mg "is_word" sWord ["value"]) : Cal P w K mg base 1 "is_word" spWord := by
  obtain ⟨tL, hL⟩ := B.letters
  obtain ⟨tM, hM⟩ := B.mostL
  refine cal D scWord (fun vs H Q E h => ?_) (fun f cdv A outer s H vs Q E hr h => ?_)
  · obtain ⟨x, rfl, _⟩ := h
    rfl
  · obtain ⟨x, rfl, ⟨hl, h1, h8⟩, k⟩ := h
    refine ⟨_, pss_cons (ps_if (PW.pt (pw_or (pt_not (pt_val (pe_callB call_isi (by rfl) B.isi (by decide +kernel) (pa_cons (pv 0) (pa_cons (pe_bltn (v := .ty "str") (by rfl) B.str (by decide +kernel) rfl) pa_nil)))))
        (pw_or1 (pt_not (pt_chain op_le op_le pe_int (pe_callB call_len_str (by rfl) B.len (by decide +kernel) (pa_cons (pv 0) pa_nil)) (pe_glob (v := .int 8) rfl hM ⟨_, rfl⟩)))))) (pss_one (ps_ret pe_bl)) pss_nil)
      (pss_one (ps_ret (pe_callB (cr_all rfl) (by rfl) B.all (by decide +kernel) (pa_cons (pe_lc (own := [("sign", 1)]) (g := gName 1) (tt := tYes) rfl scWord.nd (pi_str (pv 0)) (blkOk_by (N := ["value", "sign"]) (sc := defScope sWord) (by decide +kernel))
        (fun _ _ _ _ _ => pg_name (i := 1) scWord.nd rfl (Or.inl rfl)) (fun _ _ _ _ _ => pts_nil) (fun _ _ _ _ _ => pe_cmpR op_in_sign (pv 1) (pe_glob (v := .str letters) rfl hL ⟨_, rfl⟩) rfl)) pa_nil)))), ?_⟩
    refine ⟨_, rfl, _, _, _, _, true, rfl, .ty _, .base (.str _), kit_ty (by decide +kernel), _, rfl, iteF ?_⟩
    have hs : x.length ≤ sizeLine := Nat.le_trans h8 (by decide)
    refine ⟨_, rfl, _, rfl, hs, _, _, rfl, rfl, _, rfl, ?_⟩
    rw [if_pos (decide_eq_true (show (1 : Int) ≤ ((x.length : Nat) : Int) by omega))]
    refine ⟨_, _, rfl, rfl, _, rfl, ?_⟩
    have e8 : decide (((x.length : Nat) : Int) ≤ 8) = true := decide_eq_true (by omega)
    rw [e8]
    refine iteF ?_
    refine ⟨_, rfl, x, rfl, fun D hD => lc_it walk_str (fun i H' => H' = upd H D (.lst (List.replicate i (V.bl true)))) rfl (fun _ _ _ _ => trivial) ?_ ?_⟩
    · rintro i v H1 H2 hi rfl ⟨rfl, c, hc, rfl⟩
      refine ⟨rfl, yes (iteT ⟨_, rfl, c, letters, rfl, rfl, _, upd_same, ?_, ?_⟩)⟩
      · rw [List.length_replicate]
        have : x.cps.size ≤ 8 := h8
        have e : sizeLine = 16777216 := by decide
        omega
      · have ec : decide (c ∈ letters.cps.toList) = true := decide_eq_true (hl c (by
          have := Array.mem_of_getElem? hc
          simpa using this))
        rw [ec, upd_upd]
        congr 2
        exact (List.replicate_succ' (n := i) (a := V.bl true)).symm ▸ rfl
    · rintro H1 rfl
      refine ⟨D, List.replicate x.cps.size true, rfl, SqL.of (by rw [upd_same, map_rep]), ?_⟩
      rw [all_rep]
      exact k _ (same_new hD)
theorem scNote : FnScope ["value"] ["value"] (defScope sNote) := ⟨rfl, rfl, rfl, by decide +kernel, rfl, by decide +kernel, by decide +kernel⟩
theorem c_note (B : Base K mg) (W : Cal P w K mg base 1 "is_word" spWord) (D : DefT K mg "is_note" sNote ["value"]) : Cal P w K mg base 2 "is_note" spNote := by
  refine cal D scNote (fun vs H Q E h => ?_) (fun f cdv A outer s H vs Q E hr h => ?_)
  · obtain ⟨x, rfl, _⟩ := h
    rfl
  · obtain ⟨x, rfl, hx, k⟩ := h
    refine ⟨_, pss_one (ps_ret (pe_or (pe_cmpR op_eq (pv 0) pe_str (nomark _)) (pe_one (pe_cl W hr (by decide) (by rfl) (pa_cons (pv 0) pa_nil))))), ?_⟩
    refine ⟨_, rfl, rfl, _, rfl, ?_⟩
    refine ite2 (fun c => ?_) (fun c => ?_)
    · exact k _ (Same.refl _)
    · have hn : ¬ x = "" := fun e => c (by rw [e]; exact decide_eq_true rfl)
      rcases hx with e | hx
      · exact absurd e hn
      · exact ⟨_, rfl, x, rfl, hx, k⟩
theorem scCheck : FnScope ["words", "coins", "note", "word"] ["words", "coins", "note"] (defScope sCheck) := ⟨rfl, rfl, rfl, by decide +kernel, rfl, by decide +kernel, by decide +kernel⟩
theorem c_check (B : Base K mg) (Wh : Cal P w K mg base 1 "is_whole" spWhole) (W : Cal P w K mg base 1 "is_word" spWord) (N : Cal P w K mg base 2 "is_note" spNote) (D : DefT K mg "check_fields" sCheck ["words", "coins", "note"]) :
    Cal P w K mg base 3 "check_fields" spCheck := by
  obtain ⟨tC, hC⟩ := B.mostC
  refine cal D scCheck (fun vs H Q E h => ?_) (fun f cdv A outer s H vs Q E hr h => ?_)
  · obtain ⟨a, ws, c, n, rfl, _⟩ := h
    rfl
  · obtain ⟨a, ws, c, n, rfl, ha, hw, hwl, c1, c2, hn, k⟩ := h
    refine ⟨_, pss_cons (ps_if (pt_not (pt_val (pe_callB (cr_all rfl) (by rfl) B.all (by decide +kernel) (pa_cons (pe_lc (own := [("word", 3)]) (g := gName 3) (tt := tYes) rfl scCheck.nd (pi_list (pv 0)) (blkOk_by (N := ["words", "coins", "note", "word"]) (sc := defScope sCheck) (by decide +kernel))
        (fun _ _ _ _ _ => pg_name (i := 3) scCheck.nd rfl (Or.inl rfl)) (fun _ _ _ _ _ => pts_nil) (fun _ _ _ _ _ => pe_cl W hr (by decide) (by rfl) (pa_cons (pv 3) pa_nil))) pa_nil)))) (pss_one ps_never) pss_nil)
      (pss_cons (ps_if (pt_not (pt_val (pe_cl Wh hr (by decide) (by rfl) (pa_cons (pv 1) (pa_cons pe_int (pa_cons (pe_glob (v := .int 1000000000000) rfl hC ⟨_, rfl⟩) pa_nil)))))) (pss_one ps_never) pss_nil)
      (pss_one (ps_if (pt_not (pt_val (pe_cl N hr (by decide) (by rfl) (pa_cons (pv 2) pa_nil)))) (pss_one ps_never) pss_nil))), ?_⟩
    refine ⟨_, rfl, a, rfl, ⟨_, SqL.of ha⟩, fun D hD => lc_it (walk_list (xs := ws.map V.str)) (fun i H' => Same H H' ∧ H' D = some (.lst (List.replicate i (V.bl true)))) ⟨same_new hD, upd_same⟩ (fun i H' _ p => SqL.of (p.1 _ _ ha)) ?_ ?_⟩
    · rintro i v H1 H2 hi ⟨s1, d1⟩ ⟨rfl, hv⟩
      obtain ⟨x, hx, rfl⟩ : ∃ x, ws[i]? = some x ∧ v = V.str x := by
        rw [List.getElem?_map] at hv
        cases e : ws[i]? with
        | none => rw [e] at hv; cases hv
        | some x => rw [e] at hv; exact ⟨x, rfl, (Option.some.inj hv).symm⟩
      refine ⟨rfl, yes (iteT ⟨_, rfl, x, rfl, hw x (List.mem_of_getElem? hx), fun H3 s3 => ⟨_, s3 _ _ d1, ?_, ?_, ?_⟩⟩)⟩
      · rw [List.length_replicate]
        rw [List.length_map] at hi
        have e : sizeLine = 16777216 := by decide
        omega
      · intro b o e
        have hb : b ≠ D := ne_of_none e hD
        rw [upd_ne hb]
        exact s3 _ _ (s1 _ _ e)
      · rw [upd_same]
        congr 2
        exact (List.replicate_succ' (n := i) (a := V.bl true)).symm ▸ rfl
    · rintro H1 ⟨s1, d1⟩
      refine ⟨D, List.replicate (ws.map V.str).length true, rfl, SqL.of (by rw [d1, map_rep]), _, rfl, ?_⟩
      rw [all_rep]
      refine iteF ?_
      refine ⟨_, rfl, c, 1, 1000000000000, rfl, _, rfl, ?_⟩
      rw [decide_eq_true ⟨c1, c2⟩]
      refine iteF ?_
      exact ⟨_, rfl, n, rfl, hn, fun H2 s2 => ⟨_, rfl, iteF (k _ (s1.trans s2))⟩⟩
end
end KP
namespace KP
open PySem L2 KM
/-! ### entries -/
inductive En where
  | give (h : Str) (c : Int) (n : Str) | hold (h : Str) (c u : Int) (n : Str) | move (h o : Str) (c : Int) (n : Str) | spend (h : Str) (c : Int) (n : Str)
  | promise (x h : Str) (c : Int) (n : Str) | lessen (x : Str) (c : Int) (n : Str) | out (x : Str) (c : Int) (n : Str)
def Coin (c : Int) : Prop := 1 ≤ c ∧ c ≤ 1000000000000
def En.k : En → Nat
  | .give .. => 0 | .hold .. => 1 | .move .. => 2 | .spend .. => 3 | .promise .. => 4 | .lessen .. => 5 | .out .. => 6
def En.kind : En → Str
  | .give .. => "give" | .hold .. => "hold" | .move .. => "move" | .spend .. => "spend" | .promise .. => "promise" | .lessen .. => "lessen" | .out .. => "out"
def En.args : En → List V
  | .give h c n => [.str h, .int c, .str n] | .hold h c u n => [.str h, .int c, .int u, .str n] | .move h o c n => [.str h, .str o, .int c, .str n] | .spend h c n => [.str h, .int c, .str n]
  | .promise x h c n => [.str x, .str h, .int c, .str n] | .lessen x c n => [.str x, .int c, .str n] | .out x c n => [.str x, .int c, .str n]
def En.fs : En → List (Str × V)
  | .give h c n => [("head", .str h), ("coins", .int c), ("note", .str n)] | .hold h c u n => [("head", .str h), ("coins", .int c), ("until", .int u), ("note", .str n)]
  | .move h o c n => [("head", .str h), ("other", .str o), ("coins", .int c), ("note", .str n)] | .spend h c n => [("head", .str h), ("coins", .int c), ("note", .str n)]
  | .promise x h c n => [("word", .str x), ("head", .str h), ("coins", .int c), ("note", .str n)] | .lessen x c n => [("word", .str x), ("coins", .int c), ("note", .str n)] | .out x c n => [("word", .str x), ("coins", .int c), ("note", .str n)]
def En.ok : En → Prop
  | .give h c n => IsW h ∧ Coin c ∧ IsN n | .hold h c u n => IsW h ∧ Coin c ∧ (2 ≤ u ∧ u ≤ 31) ∧ IsN n | .move h o c n => IsW h ∧ IsW o ∧ h ≠ o ∧ Coin c ∧ IsN n | .spend h c n => IsW h ∧ Coin c ∧ IsN n
  | .promise x h c n => IsW x ∧ IsW h ∧ Coin c ∧ IsN n | .lessen x c n => IsW x ∧ Coin c ∧ IsN n | .out x c n => IsW x ∧ Coin c ∧ IsN n
def En.tup (e : En) : List V := .str e.kind :: e.args
/-- the entry e stands at p -/
def EntAt (C : Nat → Addr) (H : Hp) (p : Addr) (e : En) : Prop := ∃ dx, H p = some (.ins (C e.k) dx e.fs)
def spInit (C : Nat → Addr) (k : Nat) : Sp := fun vs H Q _ => ∃ (p dx : Addr) (e : En), vs = .ref p :: e.args ∧ e.k = k ∧ e.ok ∧ H p = some (.ins (C k) dx []) ∧
  ∀ H' : Hp, H' p = some (.ins (C k) dx e.fs) → (∀ b o, H b = some o → b ≠ p → H' b = some o) → Q .non H'
def spTold (C : Nat → Addr) (k : Nat) : Sp := fun vs H Q _ => ∃ (p : Addr) (e : En), vs = [.ref p] ∧ e.k = k ∧ EntAt C H p e ∧ ∀ q, H q = none → Q (.ref q) (upd H q (.tup e.tup))
theorem ne_s {a b : Str} (h : (a == b) = false) : a ≠ b := by
  intro e
  subst e
  simp at h
theorem put1 (a : Str) (x : V) : putF a x [] = [(a, x)] := rfl
theorem put2 {a b : Str} (h : a ≠ b) (x y : V) : putF b y [(a, x)] = [(a, x), (b, y)] := by
  show (if a = b then (a, y) :: [] else (a, x) :: putF b y []) = _
  rw [if_neg h]
  rfl
theorem put3 {a b c : Str} (h : a ≠ c) (h2 : b ≠ c) (x y z : V) : putF c z [(a, x), (b, y)] = [(a, x), (b, y), (c, z)] := by
  show (if a = c then _ else (a, x) :: putF c z [(b, y)]) = _
  rw [if_neg h, put2 h2]
theorem put4 {a b c d : Str} (h : a ≠ d) (h2 : b ≠ d) (h3 : c ≠ d) (x y z u : V) : putF d u [(a, x), (b, y), (c, z)] = [(a, x), (b, y), (c, z), (d, u)] := by
  show (if a = d then _ else (a, x) :: putF d u [(b, y), (c, z)]) = _
  rw [if_neg h, put3 h2 h3]
/-! ### how a class of the text is known -/
structure MakT (P : Program) (w : World) (K : PySem.W.Frag) (mg : Str → Option Value) (base : Heap) (k : Nat) (x : Str) (C : Addr) (sp : Sp) : Prop where
  ex : ∃ f fd ps, Mk K C f ∧ FnOk P w K mg base CX0 k f fd ps sp ∧ mg x = some (.ref C) ∧ Binds K fd ps []
structure MetT (P : Program) (w : World) (K : PySem.W.Frag) (mg : Str → Option Value) (base : Heap) (k : Nat) (C : Addr) (m : Str) (sp : Sp) : Prop where
  ex : ∃ f fd ps, Cls K C ∧ Meth K C m f ∧ FnOk P w K mg base CX0 k f fd ps sp ∧ Binds K fd ps []
structure ClsT (K : PySem.W.Frag) (mg : Str → Option Value) (x qI qT : Str) (C : Addr) (sI sT : Stmt) (psI fl : List Str) : Prop where
  cl : Cls K C
  mgC : mg x = some (.ref C)
  init : ∃ f fd, Mk K C f ∧ Fun K "__init__" qI sI f fd ∧ Binds K fd psI []
  told : ∃ f fd, Meth K C "told" f ∧ Fun K "told" qT sT f fd ∧ Binds K fd ["self"] []
  nF : ∀ f ∈ fl, NoAttr K C f
section
variable {X : Cx} {k j : Nat} {x m : Str} {C : Addr} {sp : Sp} {p pos apos : Pos} {e o : Expr} {es : List Expr} {ta : TE} {t : TA}
theorem pe_mkT (c : MakT X.prog X.w X.K X.mg X.base k x C sp) (hr : Room j X.A) (hk : k + 1 ≤ j) (hg : Gl X x) (ha : PA X (e :: es) t)
    (hdb : (x == ("__debug__" : Str)) = false := by decide) (he : starEach (e :: es) X.env = (false, eval e X.env) :: starEach es X.env := by rfl) (hpl : (backTo pos (starEach es X.env)).any (·.1) = false := by rfl) :
    PE X (.Call (.Name x p) (e :: es) [] pos) (tMake C sp [] E0 t) := by
  obtain ⟨f, fd, ps, M, F, m, b⟩ := c.ex
  exact pe_make M F (hr.mono hk) hg m b .nil pass0 ha hdb he hpl
theorem pe_mtT0 {pl : Sem Bool} (c : MetT X.prog X.w X.K X.mg X.base k C m sp) (hr : Room j X.A) (hk : k ≤ j) (he : PE X o ta)
    (ht : eval (.Call (.Attribute o m apos) [] [] pos) X.env = (do
      let ov ← eval o X.env
      standAt apos.atName
      let (f, first) ← holding [ov] (getMethod ov m pl)
      callWith pos f first (backTo pos (starEach [] X.env)) (backToKw pos (keywordEach [] X.env))) := by rfl) :
    PE X (.Call (.Attribute o m apos) [] [] pos) (tMeth C m sp [] E0 ta tNil) := by
  obtain ⟨f, fd, ps, c, hm, F, b⟩ := c.ex
  exact pe_meth0 he c hm F (hr.mono hk) b .nil pass0 ht
end
section
variable {P : Program} {w : World} {K : PySem.W.Frag} {mg : Str → Option Value} {base : Heap}

abbrev sIGive : Stmt := inClass (top 26) 0
abbrev sTGive : Stmt := inClass (top 26) 1
theorem scIGive : FnScope ["self", "head", "coins", "note"] ["self", "head", "coins", "note"] (defScope sIGive) := ⟨rfl, rfl, rfl, by decide +kernel, rfl, by decide +kernel, by decide +kernel⟩
theorem scTGive : FnScope ["self"] ["self"] (defScope sTGive) := ⟨rfl, rfl, rfl, by decide +kernel, rfl, by decide +kernel, by decide +kernel⟩
theorem i_give {C : Nat → Addr} (B : Base K mg) (Wh : Cal P w K mg base 1 "is_whole" spWhole) (Ck : Cal P w K mg base 3 "check_fields" spCheck) (T : ClsT K mg "Give" "Give.__init__" "Give.told" (C 0) sIGive sTGive ["self", "head", "coins", "note"] ["head", "coins", "note"]) : MakT P w K mg base 4 "Give" (C 0) (spInit C 0) := by
  obtain ⟨f, fd, M, F, b⟩ := T.init
  obtain ⟨tLU, hLU⟩ := B.leastU
  obtain ⟨tMU, hMU⟩ := B.mostU
  refine ⟨f, fd, _, M, F.ok scIGive (fun vs H Q E h => ?_) (fun cdv A outer s H vs Q E hr h => ?_), T.mgC, b⟩
  · obtain ⟨p, dx, e, rfl, hk, _⟩ := h
    cases e <;> first | rfl | (cases hk; done)
  · obtain ⟨p, dx, e, rfl, hk, hok, hp, k⟩ := h
    cases e <;> first | (cases hk; done) | skip
    rename_i x0 x1 x2
    obtain ⟨hw1, hc, hn⟩ := hok
    refine ⟨_, pss_cons (ps_expr (pe_cl Ck hr (by decide) (by rfl) (pa_cons (pe_lst (pa_cons (pv 1) pa_nil)) (pa_cons (pv 2) (pa_cons (pv 3) pa_nil)))))
      (pss_cons (ps_fld (pv 0) (pv 1) rfl)
      (pss_cons (ps_fld (pv 0) (pv 2) rfl)
      (pss_one (ps_fld (pv 0) (pv 3) rfl)))), ?_⟩
    refine ⟨_, rfl, (by show 1 ≤ sizeLine; decide), fun l hl => ⟨_, rfl, _, rfl, l, [x0], _, _, rfl, upd_same, (by intro z hz; simp at hz; subst hz; exact hw1), (by simp), hc.1, hc.2, hn, fun H1 s1 => ?_⟩⟩
    have pl : p ≠ l := ne_of_none hp hl
    have hp1 : H1 p = some (.ins (C 0) dx []) := s1 _ _ (by rw [upd_ne pl]; exact hp)
    have e12 : ("head" : Str) ≠ "coins" := by decide +kernel
    have e13 : ("head" : Str) ≠ "note" := by decide +kernel
    have e23 : ("coins" : Str) ≠ "note" := by decide +kernel
    refine ⟨_, rfl, _, rfl, p, _, dx, _, rfl, hp1, T.cl, T.nF _ (by simp), (by show 0 < 1000; decide), _, rfl, _, rfl, p, _, dx, _, rfl, upd_same, T.cl, T.nF _ (by simp), (by show 1 < 1000; decide), _, rfl, _, rfl, p, _, dx, _, rfl, upd_same, T.cl, T.nF _ (by simp), (by rw [put1, put2 e12]; show 2 < 1000; decide), ?_⟩
    refine k _ (by rw [upd_same, put1, put2 e12, put3 e13 e23]; rfl) fun b o e hb => ?_
    rw [upd_ne hb, upd_ne hb, upd_ne hb]
    exact s1 _ _ (by rw [upd_ne (ne_of_none e hl)]; exact e)
theorem t_give {C : Nat → Addr} (T : ClsT K mg "Give" "Give.__init__" "Give.told" (C 0) sIGive sTGive ["self", "head", "coins", "note"] ["head", "coins", "note"]) : MetT P w K mg base 1 (C 0) "told" (spTold C 0) := by
  obtain ⟨f, fd, M, F, b⟩ := T.told
  refine ⟨f, fd, _, T.cl, M, F.ok scTGive (fun vs H Q E h => ?_) (fun cdv A outer s H vs Q E hr h => ?_), b⟩
  · obtain ⟨p, e, rfl, _⟩ := h
    rfl
  · obtain ⟨p, e, rfl, hk, ⟨dx, hp⟩, k⟩ := h
    cases e <;> first | (cases hk; done) | skip
    rename_i x0 x1 x2
    refine ⟨_, pss_one (ps_ret (pe_tup (pa_cons pe_str (pa_cons (pe_fld (pv 0) rfl) (pa_cons (pe_fld (pv 0) rfl) (pa_cons (pe_fld (pv 0) rfl) pa_nil)))))), ?_⟩
    refine ⟨_, rfl, p, _, dx, _, _, rfl, hp, T.cl, T.nF _ (by simp), rfl, _, rfl, p, _, dx, _, _, rfl, hp, T.cl, T.nF _ (by simp), rfl, _, rfl, p, _, dx, _, _, rfl, hp, T.cl, T.nF _ (by simp), rfl, (by show 4 ≤ sizeLine; decide), fun q hq => k q hq⟩
abbrev sIHold : Stmt := inClass (top 27) 0
abbrev sTHold : Stmt := inClass (top 27) 1
theorem scIHold : FnScope ["self", "head", "coins", "until", "note"] ["self", "head", "coins", "until", "note"] (defScope sIHold) := ⟨rfl, rfl, rfl, by decide +kernel, rfl, by decide +kernel, by decide +kernel⟩
theorem scTHold : FnScope ["self"] ["self"] (defScope sTHold) := ⟨rfl, rfl, rfl, by decide +kernel, rfl, by decide +kernel, by decide +kernel⟩
theorem i_hold {C : Nat → Addr} (B : Base K mg) (Wh : Cal P w K mg base 1 "is_whole" spWhole) (Ck : Cal P w K mg base 3 "check_fields" spCheck) (T : ClsT K mg "Hold" "Hold.__init__" "Hold.told" (C 1) sIHold sTHold ["self", "head", "coins", "until", "note"] ["head", "coins", "until", "note"]) : MakT P w K mg base 4 "Hold" (C 1) (spInit C 1) := by
  obtain ⟨f, fd, M, F, b⟩ := T.init
  obtain ⟨tLU, hLU⟩ := B.leastU
  obtain ⟨tMU, hMU⟩ := B.mostU
  refine ⟨f, fd, _, M, F.ok scIHold (fun vs H Q E h => ?_) (fun cdv A outer s H vs Q E hr h => ?_), T.mgC, b⟩
  · obtain ⟨p, dx, e, rfl, hk, _⟩ := h
    cases e <;> first | rfl | (cases hk; done)
  · obtain ⟨p, dx, e, rfl, hk, hok, hp, k⟩ := h
    cases e <;> first | (cases hk; done) | skip
    rename_i x0 x1 x2 x3
    obtain ⟨hw1, hc, hu, hn⟩ := hok
    refine ⟨_, pss_cons (ps_expr (pe_cl Ck hr (by decide) (by rfl) (pa_cons (pe_lst (pa_cons (pv 1) pa_nil)) (pa_cons (pv 2) (pa_cons (pv 4) pa_nil)))))
      (pss_cons (ps_if (pt_not (pt_val (pe_cl Wh hr (by decide) (by rfl) (pa_cons (pv 3) (pa_cons (pe_glob (v := .int 2) rfl hLU ⟨_, rfl⟩) (pa_cons (pe_glob (v := .int 31) rfl hMU ⟨_, rfl⟩) pa_nil)))))) (pss_one ps_never) pss_nil)
      (pss_cons (ps_fld (pv 0) (pv 1) rfl)
      (pss_cons (ps_fld (pv 0) (pv 2) rfl)
      (pss_cons (ps_fld (pv 0) (pv 3) rfl)
      (pss_one (ps_fld (pv 0) (pv 4) rfl)))))), ?_⟩
    refine ⟨_, rfl, (by show 1 ≤ sizeLine; decide), fun l hl => ⟨_, rfl, _, rfl, l, [x0], _, _, rfl, upd_same, (by intro z hz; simp at hz; subst hz; exact hw1), (by simp), hc.1, hc.2, hn, fun H1 s1 => ?_⟩⟩
    have pl : p ≠ l := ne_of_none hp hl
    have hp1 : H1 p = some (.ins (C 1) dx []) := s1 _ _ (by rw [upd_ne pl]; exact hp)
    refine ⟨_, rfl, _, 2, 31, rfl, _, rfl, ?_⟩
    rw [decide_eq_true hu]
    refine iteF ?_
    have e12 : ("head" : Str) ≠ "coins" := by decide +kernel
    have e13 : ("head" : Str) ≠ "until" := by decide +kernel
    have e14 : ("head" : Str) ≠ "note" := by decide +kernel
    have e23 : ("coins" : Str) ≠ "until" := by decide +kernel
    have e24 : ("coins" : Str) ≠ "note" := by decide +kernel
    have e34 : ("until" : Str) ≠ "note" := by decide +kernel
    refine ⟨_, rfl, _, rfl, p, _, dx, _, rfl, hp1, T.cl, T.nF _ (by simp), (by show 0 < 1000; decide), _, rfl, _, rfl, p, _, dx, _, rfl, upd_same, T.cl, T.nF _ (by simp), (by show 1 < 1000; decide), _, rfl, _, rfl, p, _, dx, _, rfl, upd_same, T.cl, T.nF _ (by simp), (by rw [put1, put2 e12]; show 2 < 1000; decide), _, rfl, _, rfl, p, _, dx, _, rfl, upd_same, T.cl, T.nF _ (by simp), (by rw [put1, put2 e12, put3 e13 e23]; show 3 < 1000; decide), ?_⟩
    refine k _ (by rw [upd_same, put1, put2 e12, put3 e13 e23, put4 e14 e24 e34]; rfl) fun b o e hb => ?_
    rw [upd_ne hb, upd_ne hb, upd_ne hb, upd_ne hb]
    exact s1 _ _ (by rw [upd_ne (ne_of_none e hl)]; exact e)
theorem t_hold {C : Nat → Addr} (T : ClsT K mg "Hold" "Hold.__init__" "Hold.told" (C 1) sIHold sTHold ["self", "head", "coins", "until", "note"] ["head", "coins", "until", "note"]) : MetT P w K mg base 1 (C 1) "told" (spTold C 1) := by
  obtain ⟨f, fd, M, F, b⟩ := T.told
  refine ⟨f, fd, _, T.cl, M, F.ok scTHold (fun vs H Q E h => ?_) (fun cdv A outer s H vs Q E hr h => ?_), b⟩
  · obtain ⟨p, e, rfl, _⟩ := h
    rfl
  · obtain ⟨p, e, rfl, hk, ⟨dx, hp⟩, k⟩ := h
    cases e <;> first | (cases hk; done) | skip
    rename_i x0 x1 x2 x3
    refine ⟨_, pss_one (ps_ret (pe_tup (pa_cons pe_str (pa_cons (pe_fld (pv 0) rfl) (pa_cons (pe_fld (pv 0) rfl) (pa_cons (pe_fld (pv 0) rfl) (pa_cons (pe_fld (pv 0) rfl) pa_nil))))))), ?_⟩
    refine ⟨_, rfl, p, _, dx, _, _, rfl, hp, T.cl, T.nF _ (by simp), rfl, _, rfl, p, _, dx, _, _, rfl, hp, T.cl, T.nF _ (by simp), rfl, _, rfl, p, _, dx, _, _, rfl, hp, T.cl, T.nF _ (by simp), rfl, _, rfl, p, _, dx, _, _, rfl, hp, T.cl, T.nF _ (by simp), rfl, (by show 5 ≤ sizeLine; decide), fun q hq => k q hq⟩
abbrev sIMove : Stmt := inClass (top 28) 0
abbrev sTMove : Stmt := inClass (top 28) 1
theorem scIMove : FnScope ["self", "head", "other", "coins", "note"] ["self", "head", "other", "coins", "note"] (defScope sIMove) := ⟨rfl, rfl, rfl, by decide +kernel, rfl, by decide +kernel, by decide +kernel⟩
theorem scTMove : FnScope ["self"] ["self"] (defScope sTMove) := ⟨rfl, rfl, rfl, by decide +kernel, rfl, by decide +kernel, by decide +kernel⟩
theorem i_move {C : Nat → Addr} (B : Base K mg) (Wh : Cal P w K mg base 1 "is_whole" spWhole) (Ck : Cal P w K mg base 3 "check_fields" spCheck) (T : ClsT K mg "Move" "Move.__init__" "Move.told" (C 2) sIMove sTMove ["self", "head", "other", "coins", "note"] ["head", "other", "coins", "note"]) : MakT P w K mg base 4 "Move" (C 2) (spInit C 2) := by
  obtain ⟨f, fd, M, F, b⟩ := T.init
  obtain ⟨tLU, hLU⟩ := B.leastU
  obtain ⟨tMU, hMU⟩ := B.mostU
  refine ⟨f, fd, _, M, F.ok scIMove (fun vs H Q E h => ?_) (fun cdv A outer s H vs Q E hr h => ?_), T.mgC, b⟩
  · obtain ⟨p, dx, e, rfl, hk, _⟩ := h
    cases e <;> first | rfl | (cases hk; done)
  · obtain ⟨p, dx, e, rfl, hk, hok, hp, k⟩ := h
    cases e <;> first | (cases hk; done) | skip
    rename_i x0 x1 x2 x3
    obtain ⟨hw1, hw2, hne, hc, hn⟩ := hok
    refine ⟨_, pss_cons (ps_expr (pe_cl Ck hr (by decide) (by rfl) (pa_cons (pe_lst (pa_cons (pv 1) (pa_cons (pv 2) pa_nil))) (pa_cons (pv 3) (pa_cons (pv 4) pa_nil)))))
      (pss_cons (ps_if (pt_cmpR op_eq (pv 1) (pv 2) (nomark _)) (pss_one ps_never) pss_nil)
      (pss_cons (ps_fld (pv 0) (pv 1) rfl)
      (pss_cons (ps_fld (pv 0) (pv 2) rfl)
      (pss_cons (ps_fld (pv 0) (pv 3) rfl)
      (pss_one (ps_fld (pv 0) (pv 4) rfl)))))), ?_⟩
    refine ⟨_, rfl, _, rfl, (by show 2 ≤ sizeLine; decide), fun l hl => ⟨_, rfl, _, rfl, l, [x0, x1], _, _, rfl, upd_same, (by intro z hz; simp at hz; rcases hz with rfl | rfl; exact hw1; exact hw2), (by simp), hc.1, hc.2, hn, fun H1 s1 => ?_⟩⟩
    have pl : p ≠ l := ne_of_none hp hl
    have hp1 : H1 p = some (.ins (C 2) dx []) := s1 _ _ (by rw [upd_ne pl]; exact hp)
    refine ⟨_, rfl, _, rfl, rfl, _, rfl, ?_⟩
    rw [decide_eq_false (show ¬ (V.str x0 = V.str x1) from fun z => hne (by injection z))]
    refine iteF ?_
    have e12 : ("head" : Str) ≠ "other" := by decide +kernel
    have e13 : ("head" : Str) ≠ "coins" := by decide +kernel
    have e14 : ("head" : Str) ≠ "note" := by decide +kernel
    have e23 : ("other" : Str) ≠ "coins" := by decide +kernel
    have e24 : ("other" : Str) ≠ "note" := by decide +kernel
    have e34 : ("coins" : Str) ≠ "note" := by decide +kernel
    refine ⟨_, rfl, _, rfl, p, _, dx, _, rfl, hp1, T.cl, T.nF _ (by simp), (by show 0 < 1000; decide), _, rfl, _, rfl, p, _, dx, _, rfl, upd_same, T.cl, T.nF _ (by simp), (by show 1 < 1000; decide), _, rfl, _, rfl, p, _, dx, _, rfl, upd_same, T.cl, T.nF _ (by simp), (by rw [put1, put2 e12]; show 2 < 1000; decide), _, rfl, _, rfl, p, _, dx, _, rfl, upd_same, T.cl, T.nF _ (by simp), (by rw [put1, put2 e12, put3 e13 e23]; show 3 < 1000; decide), ?_⟩
    refine k _ (by rw [upd_same, put1, put2 e12, put3 e13 e23, put4 e14 e24 e34]; rfl) fun b o e hb => ?_
    rw [upd_ne hb, upd_ne hb, upd_ne hb, upd_ne hb]
    exact s1 _ _ (by rw [upd_ne (ne_of_none e hl)]; exact e)
theorem t_move {C : Nat → Addr} (T : ClsT K mg "Move" "Move.__init__" "Move.told" (C 2) sIMove sTMove ["self", "head", "other", "coins", "note"] ["head", "other", "coins", "note"]) : MetT P w K mg base 1 (C 2) "told" (spTold C 2) := by
  obtain ⟨f, fd, M, F, b⟩ := T.told
  refine ⟨f, fd, _, T.cl, M, F.ok scTMove (fun vs H Q E h => ?_) (fun cdv A outer s H vs Q E hr h => ?_), b⟩
  · obtain ⟨p, e, rfl, _⟩ := h
    rfl
  · obtain ⟨p, e, rfl, hk, ⟨dx, hp⟩, k⟩ := h
    cases e <;> first | (cases hk; done) | skip
    rename_i x0 x1 x2 x3
    refine ⟨_, pss_one (ps_ret (pe_tup (pa_cons pe_str (pa_cons (pe_fld (pv 0) rfl) (pa_cons (pe_fld (pv 0) rfl) (pa_cons (pe_fld (pv 0) rfl) (pa_cons (pe_fld (pv 0) rfl) pa_nil))))))), ?_⟩
    refine ⟨_, rfl, p, _, dx, _, _, rfl, hp, T.cl, T.nF _ (by simp), rfl, _, rfl, p, _, dx, _, _, rfl, hp, T.cl, T.nF _ (by simp), rfl, _, rfl, p, _, dx, _, _, rfl, hp, T.cl, T.nF _ (by simp), rfl, _, rfl, p, _, dx, _, _, rfl, hp, T.cl, T.nF _ (by simp), rfl, (by show 5 ≤ sizeLine; decide), fun q hq => k q hq⟩
abbrev sISpend : Stmt := inClass (top 29) 0
abbrev sTSpend : Stmt := inClass (top 29) 1
theorem scISpend : FnScope ["self", "head", "coins", "note"] ["self", "head", "coins", "note"] (defScope sISpend) := ⟨rfl, rfl, rfl, by decide +kernel, rfl, by decide +kernel, by decide +kernel⟩
theorem scTSpend : FnScope ["self"] ["self"] (defScope sTSpend) := ⟨rfl, rfl, rfl, by decide +kernel, rfl, by decide +kernel, by decide +kernel⟩
theorem i_spend {C : Nat → Addr} (B : Base K mg) (Wh : Cal P w K mg base 1 "is_whole" spWhole) (Ck : Cal P w K mg base 3 "check_fields" spCheck) (T : ClsT K mg "Spend" "Spend.__init__" "Spend.told" (C 3) sISpend sTSpend ["self", "head", "coins", "note"] ["head", "coins", "note"]) : MakT P w K mg base 4 "Spend" (C 3) (spInit C 3) := by
  obtain ⟨f, fd, M, F, b⟩ := T.init
  obtain ⟨tLU, hLU⟩ := B.leastU
  obtain ⟨tMU, hMU⟩ := B.mostU
  refine ⟨f, fd, _, M, F.ok scISpend (fun vs H Q E h => ?_) (fun cdv A outer s H vs Q E hr h => ?_), T.mgC, b⟩
  · obtain ⟨p, dx, e, rfl, hk, _⟩ := h
    cases e <;> first | rfl | (cases hk; done)
  · obtain ⟨p, dx, e, rfl, hk, hok, hp, k⟩ := h
    cases e <;> first | (cases hk; done) | skip
    rename_i x0 x1 x2
    obtain ⟨hw1, hc, hn⟩ := hok
    refine ⟨_, pss_cons (ps_expr (pe_cl Ck hr (by decide) (by rfl) (pa_cons (pe_lst (pa_cons (pv 1) pa_nil)) (pa_cons (pv 2) (pa_cons (pv 3) pa_nil)))))
      (pss_cons (ps_fld (pv 0) (pv 1) rfl)
      (pss_cons (ps_fld (pv 0) (pv 2) rfl)
      (pss_one (ps_fld (pv 0) (pv 3) rfl)))), ?_⟩
    refine ⟨_, rfl, (by show 1 ≤ sizeLine; decide), fun l hl => ⟨_, rfl, _, rfl, l, [x0], _, _, rfl, upd_same, (by intro z hz; simp at hz; subst hz; exact hw1), (by simp), hc.1, hc.2, hn, fun H1 s1 => ?_⟩⟩
    have pl : p ≠ l := ne_of_none hp hl
    have hp1 : H1 p = some (.ins (C 3) dx []) := s1 _ _ (by rw [upd_ne pl]; exact hp)
    have e12 : ("head" : Str) ≠ "coins" := by decide +kernel
    have e13 : ("head" : Str) ≠ "note" := by decide +kernel
    have e23 : ("coins" : Str) ≠ "note" := by decide +kernel
    refine ⟨_, rfl, _, rfl, p, _, dx, _, rfl, hp1, T.cl, T.nF _ (by simp), (by show 0 < 1000; decide), _, rfl, _, rfl, p, _, dx, _, rfl, upd_same, T.cl, T.nF _ (by simp), (by show 1 < 1000; decide), _, rfl, _, rfl, p, _, dx, _, rfl, upd_same, T.cl, T.nF _ (by simp), (by rw [put1, put2 e12]; show 2 < 1000; decide), ?_⟩
    refine k _ (by rw [upd_same, put1, put2 e12, put3 e13 e23]; rfl) fun b o e hb => ?_
    rw [upd_ne hb, upd_ne hb, upd_ne hb]
    exact s1 _ _ (by rw [upd_ne (ne_of_none e hl)]; exact e)
theorem t_spend {C : Nat → Addr} (T : ClsT K mg "Spend" "Spend.__init__" "Spend.told" (C 3) sISpend sTSpend ["self", "head", "coins", "note"] ["head", "coins", "note"]) : MetT P w K mg base 1 (C 3) "told" (spTold C 3) := by
  obtain ⟨f, fd, M, F, b⟩ := T.told
  refine ⟨f, fd, _, T.cl, M, F.ok scTSpend (fun vs H Q E h => ?_) (fun cdv A outer s H vs Q E hr h => ?_), b⟩
  · obtain ⟨p, e, rfl, _⟩ := h
    rfl
  · obtain ⟨p, e, rfl, hk, ⟨dx, hp⟩, k⟩ := h
    cases e <;> first | (cases hk; done) | skip
    rename_i x0 x1 x2
    refine ⟨_, pss_one (ps_ret (pe_tup (pa_cons pe_str (pa_cons (pe_fld (pv 0) rfl) (pa_cons (pe_fld (pv 0) rfl) (pa_cons (pe_fld (pv 0) rfl) pa_nil)))))), ?_⟩
    refine ⟨_, rfl, p, _, dx, _, _, rfl, hp, T.cl, T.nF _ (by simp), rfl, _, rfl, p, _, dx, _, _, rfl, hp, T.cl, T.nF _ (by simp), rfl, _, rfl, p, _, dx, _, _, rfl, hp, T.cl, T.nF _ (by simp), rfl, (by show 4 ≤ sizeLine; decide), fun q hq => k q hq⟩
abbrev sIPromise : Stmt := inClass (top 30) 0
abbrev sTPromise : Stmt := inClass (top 30) 1
theorem scIPromise : FnScope ["self", "word", "head", "coins", "note"] ["self", "word", "head", "coins", "note"] (defScope sIPromise) := ⟨rfl, rfl, rfl, by decide +kernel, rfl, by decide +kernel, by decide +kernel⟩
theorem scTPromise : FnScope ["self"] ["self"] (defScope sTPromise) := ⟨rfl, rfl, rfl, by decide +kernel, rfl, by decide +kernel, by decide +kernel⟩
theorem i_promise {C : Nat → Addr} (B : Base K mg) (Wh : Cal P w K mg base 1 "is_whole" spWhole) (Ck : Cal P w K mg base 3 "check_fields" spCheck) (T : ClsT K mg "Promise" "Promise.__init__" "Promise.told" (C 4) sIPromise sTPromise ["self", "word", "head", "coins", "note"] ["word", "head", "coins", "note"]) : MakT P w K mg base 4 "Promise" (C 4) (spInit C 4) := by
  obtain ⟨f, fd, M, F, b⟩ := T.init
  obtain ⟨tLU, hLU⟩ := B.leastU
  obtain ⟨tMU, hMU⟩ := B.mostU
  refine ⟨f, fd, _, M, F.ok scIPromise (fun vs H Q E h => ?_) (fun cdv A outer s H vs Q E hr h => ?_), T.mgC, b⟩
  · obtain ⟨p, dx, e, rfl, hk, _⟩ := h
    cases e <;> first | rfl | (cases hk; done)
  · obtain ⟨p, dx, e, rfl, hk, hok, hp, k⟩ := h
    cases e <;> first | (cases hk; done) | skip
    rename_i x0 x1 x2 x3
    obtain ⟨hw1, hw2, hc, hn⟩ := hok
    refine ⟨_, pss_cons (ps_expr (pe_cl Ck hr (by decide) (by rfl) (pa_cons (pe_lst (pa_cons (pv 1) (pa_cons (pv 2) pa_nil))) (pa_cons (pv 3) (pa_cons (pv 4) pa_nil)))))
      (pss_cons (ps_fld (pv 0) (pv 1) rfl)
      (pss_cons (ps_fld (pv 0) (pv 2) rfl)
      (pss_cons (ps_fld (pv 0) (pv 3) rfl)
      (pss_one (ps_fld (pv 0) (pv 4) rfl))))), ?_⟩
    refine ⟨_, rfl, _, rfl, (by show 2 ≤ sizeLine; decide), fun l hl => ⟨_, rfl, _, rfl, l, [x0, x1], _, _, rfl, upd_same, (by intro z hz; simp at hz; rcases hz with rfl | rfl; exact hw1; exact hw2), (by simp), hc.1, hc.2, hn, fun H1 s1 => ?_⟩⟩
    have pl : p ≠ l := ne_of_none hp hl
    have hp1 : H1 p = some (.ins (C 4) dx []) := s1 _ _ (by rw [upd_ne pl]; exact hp)
    have e12 : ("word" : Str) ≠ "head" := by decide +kernel
    have e13 : ("word" : Str) ≠ "coins" := by decide +kernel
    have e14 : ("word" : Str) ≠ "note" := by decide +kernel
    have e23 : ("head" : Str) ≠ "coins" := by decide +kernel
    have e24 : ("head" : Str) ≠ "note" := by decide +kernel
    have e34 : ("coins" : Str) ≠ "note" := by decide +kernel
    refine ⟨_, rfl, _, rfl, p, _, dx, _, rfl, hp1, T.cl, T.nF _ (by simp), (by show 0 < 1000; decide), _, rfl, _, rfl, p, _, dx, _, rfl, upd_same, T.cl, T.nF _ (by simp), (by show 1 < 1000; decide), _, rfl, _, rfl, p, _, dx, _, rfl, upd_same, T.cl, T.nF _ (by simp), (by rw [put1, put2 e12]; show 2 < 1000; decide), _, rfl, _, rfl, p, _, dx, _, rfl, upd_same, T.cl, T.nF _ (by simp), (by rw [put1, put2 e12, put3 e13 e23]; show 3 < 1000; decide), ?_⟩
    refine k _ (by rw [upd_same, put1, put2 e12, put3 e13 e23, put4 e14 e24 e34]; rfl) fun b o e hb => ?_
    rw [upd_ne hb, upd_ne hb, upd_ne hb, upd_ne hb]
    exact s1 _ _ (by rw [upd_ne (ne_of_none e hl)]; exact e)
theorem t_promise {C : Nat → Addr} (T : ClsT K mg "Promise" "Promise.__init__" "Promise.told" (C 4) sIPromise sTPromise ["self", "word", "head", "coins", "note"] ["word", "head", "coins", "note"]) : MetT P w K mg base 1 (C 4) "told" (spTold C 4) := by
  obtain ⟨f, fd, M, F, b⟩ := T.told
  refine ⟨f, fd, _, T.cl, M, F.ok scTPromise (fun vs H Q E h => ?_) (fun cdv A outer s H vs Q E hr h => ?_), b⟩
  · obtain ⟨p, e, rfl, _⟩ := h
    rfl
  · obtain ⟨p, e, rfl, hk, ⟨dx, hp⟩, k⟩ := h
    cases e <;> first | (cases hk; done) | skip
    rename_i x0 x1 x2 x3
    refine ⟨_, pss_one (ps_ret (pe_tup (pa_cons pe_str (pa_cons (pe_fld (pv 0) rfl) (pa_cons (pe_fld (pv 0) rfl) (pa_cons (pe_fld (pv 0) rfl) (pa_cons (pe_fld (pv 0) rfl) pa_nil))))))), ?_⟩
    refine ⟨_, rfl, p, _, dx, _, _, rfl, hp, T.cl, T.nF _ (by simp), rfl, _, rfl, p, _, dx, _, _, rfl, hp, T.cl, T.nF _ (by simp), rfl, _, rfl, p, _, dx, _, _, rfl, hp, T.cl, T.nF _ (by simp), rfl, _, rfl, p, _, dx, _, _, rfl, hp, T.cl, T.nF _ (by simp), rfl, (by show 5 ≤ sizeLine; decide), fun q hq => k q hq⟩
abbrev sILessen : Stmt := inClass (top 31) 0
abbrev sTLessen : Stmt := inClass (top 31) 1
theorem scILessen : FnScope ["self", "word", "coins", "note"] ["self", "word", "coins", "note"] (defScope sILessen) := ⟨rfl, rfl, rfl, by decide +kernel, rfl, by decide +kernel, by decide +kernel⟩
theorem scTLessen : FnScope ["self"] ["self"] (defScope sTLessen) := ⟨rfl, rfl, rfl, by decide +kernel, rfl, by decide +kernel, by decide +kernel⟩
theorem i_lessen {C : Nat → Addr} (B : Base K mg) (Wh : Cal P w K mg base 1 "is_whole" spWhole) (Ck : Cal P w K mg base 3 "check_fields" spCheck) (T : ClsT K mg "Lessen" "Lessen.__init__" "Lessen.told" (C 5) sILessen sTLessen ["self", "word", "coins", "note"] ["word", "coins", "note"]) : MakT P w K mg base 4 "Lessen" (C 5) (spInit C 5) := by
  obtain ⟨f, fd, M, F, b⟩ := T.init
  obtain ⟨tLU, hLU⟩ := B.leastU
  obtain ⟨tMU, hMU⟩ := B.mostU
  refine ⟨f, fd, _, M, F.ok scILessen (fun vs H Q E h => ?_) (fun cdv A outer s H vs Q E hr h => ?_), T.mgC, b⟩
  · obtain ⟨p, dx, e, rfl, hk, _⟩ := h
    cases e <;> first | rfl | (cases hk; done)
  · obtain ⟨p, dx, e, rfl, hk, hok, hp, k⟩ := h
    cases e <;> first | (cases hk; done) | skip
    rename_i x0 x1 x2
    obtain ⟨hw1, hc, hn⟩ := hok
    refine ⟨_, pss_cons (ps_expr (pe_cl Ck hr (by decide) (by rfl) (pa_cons (pe_lst (pa_cons (pv 1) pa_nil)) (pa_cons (pv 2) (pa_cons (pv 3) pa_nil)))))
      (pss_cons (ps_fld (pv 0) (pv 1) rfl)
      (pss_cons (ps_fld (pv 0) (pv 2) rfl)
      (pss_one (ps_fld (pv 0) (pv 3) rfl)))), ?_⟩
    refine ⟨_, rfl, (by show 1 ≤ sizeLine; decide), fun l hl => ⟨_, rfl, _, rfl, l, [x0], _, _, rfl, upd_same, (by intro z hz; simp at hz; subst hz; exact hw1), (by simp), hc.1, hc.2, hn, fun H1 s1 => ?_⟩⟩
    have pl : p ≠ l := ne_of_none hp hl
    have hp1 : H1 p = some (.ins (C 5) dx []) := s1 _ _ (by rw [upd_ne pl]; exact hp)
    have e12 : ("word" : Str) ≠ "coins" := by decide +kernel
    have e13 : ("word" : Str) ≠ "note" := by decide +kernel
    have e23 : ("coins" : Str) ≠ "note" := by decide +kernel
    refine ⟨_, rfl, _, rfl, p, _, dx, _, rfl, hp1, T.cl, T.nF _ (by simp), (by show 0 < 1000; decide), _, rfl, _, rfl, p, _, dx, _, rfl, upd_same, T.cl, T.nF _ (by simp), (by show 1 < 1000; decide), _, rfl, _, rfl, p, _, dx, _, rfl, upd_same, T.cl, T.nF _ (by simp), (by rw [put1, put2 e12]; show 2 < 1000; decide), ?_⟩
    refine k _ (by rw [upd_same, put1, put2 e12, put3 e13 e23]; rfl) fun b o e hb => ?_
    rw [upd_ne hb, upd_ne hb, upd_ne hb]
    exact s1 _ _ (by rw [upd_ne (ne_of_none e hl)]; exact e)
theorem t_lessen {C : Nat → Addr} (T : ClsT K mg "Lessen" "Lessen.__init__" "Lessen.told" (C 5) sILessen sTLessen ["self", "word", "coins", "note"] ["word", "coins", "note"]) : MetT P w K mg base 1 (C 5) "told" (spTold C 5) := by
  obtain ⟨f, fd, M, F, b⟩ := T.told
  refine ⟨f, fd, _, T.cl, M, F.ok scTLessen (fun vs H Q E h => ?_) (fun cdv A outer s H vs Q E hr h => ?_), b⟩
  · obtain ⟨p, e, rfl, _⟩ := h
    rfl
  · obtain ⟨p, e, rfl, hk, ⟨dx, hp⟩, k⟩ := h
    cases e <;> first | (cases hk; done) | skip
    rename_i x0 x1 x2
    refine ⟨_, pss_one (ps_ret (pe_tup (pa_cons pe_str (pa_cons (pe_fld (pv 0) rfl) (pa_cons (pe_fld (pv 0) rfl) (pa_cons (pe_fld (pv 0) rfl) pa_nil)))))), ?_⟩
    refine ⟨_, rfl, p, _, dx, _, _, rfl, hp, T.cl, T.nF _ (by simp), rfl, _, rfl, p, _, dx, _, _, rfl, hp, T.cl, T.nF _ (by simp), rfl, _, rfl, p, _, dx, _, _, rfl, hp, T.cl, T.nF _ (by simp), rfl, (by show 4 ≤ sizeLine; decide), fun q hq => k q hq⟩
abbrev sIOut : Stmt := inClass (top 32) 0
abbrev sTOut : Stmt := inClass (top 32) 1
theorem scIOut : FnScope ["self", "word", "coins", "note"] ["self", "word", "coins", "note"] (defScope sIOut) := ⟨rfl, rfl, rfl, by decide +kernel, rfl, by decide +kernel, by decide +kernel⟩
theorem scTOut : FnScope ["self"] ["self"] (defScope sTOut) := ⟨rfl, rfl, rfl, by decide +kernel, rfl, by decide +kernel, by decide +kernel⟩
theorem i_out {C : Nat → Addr} (B : Base K mg) (Wh : Cal P w K mg base 1 "is_whole" spWhole) (Ck : Cal P w K mg base 3 "check_fields" spCheck) (T : ClsT K mg "Out" "Out.__init__" "Out.told" (C 6) sIOut sTOut ["self", "word", "coins", "note"] ["word", "coins", "note"]) : MakT P w K mg base 4 "Out" (C 6) (spInit C 6) := by
  obtain ⟨f, fd, M, F, b⟩ := T.init
  obtain ⟨tLU, hLU⟩ := B.leastU
  obtain ⟨tMU, hMU⟩ := B.mostU
  refine ⟨f, fd, _, M, F.ok scIOut (fun vs H Q E h => ?_) (fun cdv A outer s H vs Q E hr h => ?_), T.mgC, b⟩
  · obtain ⟨p, dx, e, rfl, hk, _⟩ := h
    cases e <;> first | rfl | (cases hk; done)
  · obtain ⟨p, dx, e, rfl, hk, hok, hp, k⟩ := h
    cases e <;> first | (cases hk; done) | skip
    rename_i x0 x1 x2
    obtain ⟨hw1, hc, hn⟩ := hok
    refine ⟨_, pss_cons (ps_expr (pe_cl Ck hr (by decide) (by rfl) (pa_cons (pe_lst (pa_cons (pv 1) pa_nil)) (pa_cons (pv 2) (pa_cons (pv 3) pa_nil)))))
      (pss_cons (ps_fld (pv 0) (pv 1) rfl)
      (pss_cons (ps_fld (pv 0) (pv 2) rfl)
      (pss_one (ps_fld (pv 0) (pv 3) rfl)))), ?_⟩
    refine ⟨_, rfl, (by show 1 ≤ sizeLine; decide), fun l hl => ⟨_, rfl, _, rfl, l, [x0], _, _, rfl, upd_same, (by intro z hz; simp at hz; subst hz; exact hw1), (by simp), hc.1, hc.2, hn, fun H1 s1 => ?_⟩⟩
    have pl : p ≠ l := ne_of_none hp hl
    have hp1 : H1 p = some (.ins (C 6) dx []) := s1 _ _ (by rw [upd_ne pl]; exact hp)
    have e12 : ("word" : Str) ≠ "coins" := by decide +kernel
    have e13 : ("word" : Str) ≠ "note" := by decide +kernel
    have e23 : ("coins" : Str) ≠ "note" := by decide +kernel
    refine ⟨_, rfl, _, rfl, p, _, dx, _, rfl, hp1, T.cl, T.nF _ (by simp), (by show 0 < 1000; decide), _, rfl, _, rfl, p, _, dx, _, rfl, upd_same, T.cl, T.nF _ (by simp), (by show 1 < 1000; decide), _, rfl, _, rfl, p, _, dx, _, rfl, upd_same, T.cl, T.nF _ (by simp), (by rw [put1, put2 e12]; show 2 < 1000; decide), ?_⟩
    refine k _ (by rw [upd_same, put1, put2 e12, put3 e13 e23]; rfl) fun b o e hb => ?_
    rw [upd_ne hb, upd_ne hb, upd_ne hb]
    exact s1 _ _ (by rw [upd_ne (ne_of_none e hl)]; exact e)
theorem t_out {C : Nat → Addr} (T : ClsT K mg "Out" "Out.__init__" "Out.told" (C 6) sIOut sTOut ["self", "word", "coins", "note"] ["word", "coins", "note"]) : MetT P w K mg base 1 (C 6) "told" (spTold C 6) := by
  obtain ⟨f, fd, M, F, b⟩ := T.told
  refine ⟨f, fd, _, T.cl, M, F.ok scTOut (fun vs H Q E h => ?_) (fun cdv A outer s H vs Q E hr h => ?_), b⟩
  · obtain ⟨p, e, rfl, _⟩ := h
    rfl
  · obtain ⟨p, e, rfl, hk, ⟨dx, hp⟩, k⟩ := h
    cases e <;> first | (cases hk; done) | skip
    rename_i x0 x1 x2
    refine ⟨_, pss_one (ps_ret (pe_tup (pa_cons pe_str (pa_cons (pe_fld (pv 0) rfl) (pa_cons (pe_fld (pv 0) rfl) (pa_cons (pe_fld (pv 0) rfl) pa_nil)))))), ?_⟩
    refine ⟨_, rfl, p, _, dx, _, _, rfl, hp, T.cl, T.nF _ (by simp), rfl, _, rfl, p, _, dx, _, _, rfl, hp, T.cl, T.nF _ (by simp), rfl, _, rfl, p, _, dx, _, _, rfl, hp, T.cl, T.nF _ (by simp), rfl, (by show 4 ≤ sizeLine; decide), fun q hq => k q hq⟩
end
end KP
namespace KP
open PySem L2 KM
theorem ifT {c A B : Prop} [Decidable c] (h : c) (ha : A) : if c then A else B := by
  rw [if_pos h]
  exact ha
theorem ifF {c A B : Prop} [Decidable c] (h : ¬ c) (hb : B) : if c then A else B := by
  rw [if_neg h]
  exact hb
/-- all seven classes, as they are made and told -/
structure All7 (P : Program) (w : World) (K : PySem.W.Frag) (mg : Str → Option Value) (base : Heap) (C : Nat → Addr) : Prop where
  i0 : MakT P w K mg base 4 "Give" (C 0) (spInit C 0)
  t0 : MetT P w K mg base 1 (C 0) "told" (spTold C 0)
  i1 : MakT P w K mg base 4 "Hold" (C 1) (spInit C 1)
  t1 : MetT P w K mg base 1 (C 1) "told" (spTold C 1)
  i2 : MakT P w K mg base 4 "Move" (C 2) (spInit C 2)
  t2 : MetT P w K mg base 1 (C 2) "told" (spTold C 2)
  i3 : MakT P w K mg base 4 "Spend" (C 3) (spInit C 3)
  t3 : MetT P w K mg base 1 (C 3) "told" (spTold C 3)
  i4 : MakT P w K mg base 4 "Promise" (C 4) (spInit C 4)
  t4 : MetT P w K mg base 1 (C 4) "told" (spTold C 4)
  i5 : MakT P w K mg base 4 "Lessen" (C 5) (spInit C 5)
  t5 : MetT P w K mg base 1 (C 5) "told" (spTold C 5)
  i6 : MakT P w K mg base 4 "Out" (C 6) (spInit C 6)
  t6 : MetT P w K mg base 1 (C 6) "told" (spTold C 6)
/-- of a tuple that tells e: a new entry, e -/
def spMade (C : Nat → Addr) : Sp := fun vs H Q _ => ∃ (t : Addr) (e : En), vs = [.ref t] ∧ H t = some (.tup e.tup) ∧ e.ok ∧ ∀ p H', Same H H' → H p = none → EntAt C H' p e → Q (.ref p) H'
abbrev sRead : Stmt := top 33
abbrev sMade : Stmt := top 42
section
variable {P : Program} {w : World} {K : PySem.W.Frag} {mg : Str → Option Value} {base : Heap}
theorem scRead : FnScope ["told", "head", "coins", "note", "until", "other", "word"] ["told"] (defScope sRead) := ⟨rfl, rfl, rfl, by decide +kernel, rfl, by decide +kernel, by decide +kernel⟩
theorem scMade : FnScope ["_law_told_here"] ["_law_told_here"] (defScope sMade) := ⟨rfl, rfl, rfl, by decide +kernel, rfl, by decide +kernel, by decide +kernel⟩
theorem c_read {C : Nat → Addr} (B : Base K mg) (S : All7 P w K mg base C) (D : DefT K mg "read_entry" sRead ["told"]) : Cal P w K mg base 6 "read_entry" (spMade C) := by
  refine cal D scRead (fun vs H Q E h => ?_) (fun f cdv A outer s H vs Q E hr h => ?_)
  · obtain ⟨t, e, rfl, _⟩ := h
    rfl
  · obtain ⟨t, e, rfl, ht, hok, k⟩ := h
    refine ⟨_, pss_cons (ps_if (pt_not (pt_val (pe_callB call_isi (by rfl) B.isi (by decide +kernel) (pa_cons (pv 0) (pa_cons (pe_bltn (v := .ty "tuple") (by rfl) B.tuple (by decide +kernel) rfl) pa_nil))))) (pss_one ps_never) pss_nil)
      (pss_cons (ps_match (pv 0)
        (pm_case rfl op_eq (caps_cons (caps_cons (caps_cons caps_nil))) (stores_cons (i := 1) scRead.nd (stores_cons (i := 2) scRead.nd (stores_cons (i := 3) scRead.nd stores_nil rfl (Or.inl rfl)) rfl (Or.inl rfl)) rfl (Or.inl rfl)) (pss_one (ps_ret (pe_mkT S.i0 hr (by decide) (by rfl) (pa_cons (pv 1) (pa_cons (pv 2) (pa_cons (pv 3) pa_nil))))))
        (pm_case rfl op_eq (caps_cons (caps_cons (caps_cons (caps_cons caps_nil)))) (stores_cons (i := 1) scRead.nd (stores_cons (i := 2) scRead.nd (stores_cons (i := 4) scRead.nd (stores_cons (i := 3) scRead.nd stores_nil rfl (Or.inl rfl)) rfl (Or.inl rfl)) rfl (Or.inl rfl)) rfl (Or.inl rfl)) (pss_one (ps_ret (pe_mkT S.i1 hr (by decide) (by rfl) (pa_cons (pv 1) (pa_cons (pv 2) (pa_cons (pv 4) (pa_cons (pv 3) pa_nil)))))))
        (pm_case rfl op_eq (caps_cons (caps_cons (caps_cons (caps_cons caps_nil)))) (stores_cons (i := 1) scRead.nd (stores_cons (i := 5) scRead.nd (stores_cons (i := 2) scRead.nd (stores_cons (i := 3) scRead.nd stores_nil rfl (Or.inl rfl)) rfl (Or.inl rfl)) rfl (Or.inl rfl)) rfl (Or.inl rfl)) (pss_one (ps_ret (pe_mkT S.i2 hr (by decide) (by rfl) (pa_cons (pv 1) (pa_cons (pv 5) (pa_cons (pv 2) (pa_cons (pv 3) pa_nil)))))))
        (pm_case rfl op_eq (caps_cons (caps_cons (caps_cons caps_nil))) (stores_cons (i := 1) scRead.nd (stores_cons (i := 2) scRead.nd (stores_cons (i := 3) scRead.nd stores_nil rfl (Or.inl rfl)) rfl (Or.inl rfl)) rfl (Or.inl rfl)) (pss_one (ps_ret (pe_mkT S.i3 hr (by decide) (by rfl) (pa_cons (pv 1) (pa_cons (pv 2) (pa_cons (pv 3) pa_nil))))))
        (pm_case rfl op_eq (caps_cons (caps_cons (caps_cons (caps_cons caps_nil)))) (stores_cons (i := 6) scRead.nd (stores_cons (i := 1) scRead.nd (stores_cons (i := 2) scRead.nd (stores_cons (i := 3) scRead.nd stores_nil rfl (Or.inl rfl)) rfl (Or.inl rfl)) rfl (Or.inl rfl)) rfl (Or.inl rfl)) (pss_one (ps_ret (pe_mkT S.i4 hr (by decide) (by rfl) (pa_cons (pv 6) (pa_cons (pv 1) (pa_cons (pv 2) (pa_cons (pv 3) pa_nil)))))))
        (pm_case rfl op_eq (caps_cons (caps_cons (caps_cons caps_nil))) (stores_cons (i := 6) scRead.nd (stores_cons (i := 2) scRead.nd (stores_cons (i := 3) scRead.nd stores_nil rfl (Or.inl rfl)) rfl (Or.inl rfl)) rfl (Or.inl rfl)) (pss_one (ps_ret (pe_mkT S.i5 hr (by decide) (by rfl) (pa_cons (pv 6) (pa_cons (pv 2) (pa_cons (pv 3) pa_nil))))))
        (pm_case rfl op_eq (caps_cons (caps_cons (caps_cons caps_nil))) (stores_cons (i := 6) scRead.nd (stores_cons (i := 2) scRead.nd (stores_cons (i := 3) scRead.nd stores_nil rfl (Or.inl rfl)) rfl (Or.inl rfl)) rfl (Or.inl rfl)) (pss_one (ps_ret (pe_mkT S.i6 hr (by decide) (by rfl) (pa_cons (pv 6) (pa_cons (pv 2) (pa_cons (pv 3) pa_nil))))))
        pm_nil))))))))
      (pss_one ps_never)), ?_⟩
    refine ⟨_, rfl, _, _, _, _, true, rfl, .ty _, .base (.tup ht), kit_ty (by decide +kernel), _, rfl, iteF ?_⟩
    refine ⟨_, rfl, ?_⟩
    cases e with
    | give x0 x1 x2 =>
      refine ⟨t, _, rfl, SqT.of ht, Or.inr ⟨rfl, _, _, rfl, rfl, _, rfl, ifT (decide_eq_true rfl) ?_⟩⟩
      refine ⟨_, rfl, _, rfl, _, rfl, fun x dx nx ndx nex => ⟨x, dx, .give x0 x1 x2, rfl, rfl, hok, upd_same, fun H1 h1 k1 => ⟨rfl, ?_⟩⟩⟩
      exact k x H1 (Same.made nx ndx k1) nx ⟨dx, h1⟩
    | hold x0 x1 x2 x3 =>
      refine ⟨t, _, rfl, SqT.of ht, Or.inl ⟨(by show 5 ≠ 4; decide), ?_⟩⟩
      refine ⟨t, _, rfl, SqT.of ht, Or.inr ⟨rfl, _, _, rfl, rfl, _, rfl, ifT (decide_eq_true rfl) ?_⟩⟩
      refine ⟨_, rfl, _, rfl, _, rfl, _, rfl, fun x dx nx ndx nex => ⟨x, dx, .hold x0 x1 x2 x3, rfl, rfl, hok, upd_same, fun H1 h1 k1 => ⟨rfl, ?_⟩⟩⟩
      exact k x H1 (Same.made nx ndx k1) nx ⟨dx, h1⟩
    | move x0 x1 x2 x3 =>
      refine ⟨t, _, rfl, SqT.of ht, Or.inl ⟨(by show 5 ≠ 4; decide), ?_⟩⟩
      refine ⟨t, _, rfl, SqT.of ht, Or.inr ⟨rfl, _, _, rfl, rfl, _, rfl, ifF (show ¬ decide (V.str "move" = V.str "hold") = true by decide +kernel) ?_⟩⟩
      refine ⟨t, _, rfl, SqT.of ht, Or.inr ⟨rfl, _, _, rfl, rfl, _, rfl, ifT (decide_eq_true rfl) ?_⟩⟩
      refine ⟨_, rfl, _, rfl, _, rfl, _, rfl, fun x dx nx ndx nex => ⟨x, dx, .move x0 x1 x2 x3, rfl, rfl, hok, upd_same, fun H1 h1 k1 => ⟨rfl, ?_⟩⟩⟩
      exact k x H1 (Same.made nx ndx k1) nx ⟨dx, h1⟩
    | spend x0 x1 x2 =>
      refine ⟨t, _, rfl, SqT.of ht, Or.inr ⟨rfl, _, _, rfl, rfl, _, rfl, ifF (show ¬ decide (V.str "spend" = V.str "give") = true by decide +kernel) ?_⟩⟩
      refine ⟨t, _, rfl, SqT.of ht, Or.inl ⟨(by show 4 ≠ 5; decide), ?_⟩⟩
      refine ⟨t, _, rfl, SqT.of ht, Or.inl ⟨(by show 4 ≠ 5; decide), ?_⟩⟩
      refine ⟨t, _, rfl, SqT.of ht, Or.inr ⟨rfl, _, _, rfl, rfl, _, rfl, ifT (decide_eq_true rfl) ?_⟩⟩
      refine ⟨_, rfl, _, rfl, _, rfl, fun x dx nx ndx nex => ⟨x, dx, .spend x0 x1 x2, rfl, rfl, hok, upd_same, fun H1 h1 k1 => ⟨rfl, ?_⟩⟩⟩
      exact k x H1 (Same.made nx ndx k1) nx ⟨dx, h1⟩
    | promise x0 x1 x2 x3 =>
      refine ⟨t, _, rfl, SqT.of ht, Or.inl ⟨(by show 5 ≠ 4; decide), ?_⟩⟩
      refine ⟨t, _, rfl, SqT.of ht, Or.inr ⟨rfl, _, _, rfl, rfl, _, rfl, ifF (show ¬ decide (V.str "promise" = V.str "hold") = true by decide +kernel) ?_⟩⟩
      refine ⟨t, _, rfl, SqT.of ht, Or.inr ⟨rfl, _, _, rfl, rfl, _, rfl, ifF (show ¬ decide (V.str "promise" = V.str "move") = true by decide +kernel) ?_⟩⟩
      refine ⟨t, _, rfl, SqT.of ht, Or.inl ⟨(by show 5 ≠ 4; decide), ?_⟩⟩
      refine ⟨t, _, rfl, SqT.of ht, Or.inr ⟨rfl, _, _, rfl, rfl, _, rfl, ifT (decide_eq_true rfl) ?_⟩⟩
      refine ⟨_, rfl, _, rfl, _, rfl, _, rfl, fun x dx nx ndx nex => ⟨x, dx, .promise x0 x1 x2 x3, rfl, rfl, hok, upd_same, fun H1 h1 k1 => ⟨rfl, ?_⟩⟩⟩
      exact k x H1 (Same.made nx ndx k1) nx ⟨dx, h1⟩
    | lessen x0 x1 x2 =>
      refine ⟨t, _, rfl, SqT.of ht, Or.inr ⟨rfl, _, _, rfl, rfl, _, rfl, ifF (show ¬ decide (V.str "lessen" = V.str "give") = true by decide +kernel) ?_⟩⟩
      refine ⟨t, _, rfl, SqT.of ht, Or.inl ⟨(by show 4 ≠ 5; decide), ?_⟩⟩
      refine ⟨t, _, rfl, SqT.of ht, Or.inl ⟨(by show 4 ≠ 5; decide), ?_⟩⟩
      refine ⟨t, _, rfl, SqT.of ht, Or.inr ⟨rfl, _, _, rfl, rfl, _, rfl, ifF (show ¬ decide (V.str "lessen" = V.str "spend") = true by decide +kernel) ?_⟩⟩
      refine ⟨t, _, rfl, SqT.of ht, Or.inl ⟨(by show 4 ≠ 5; decide), ?_⟩⟩
      refine ⟨t, _, rfl, SqT.of ht, Or.inr ⟨rfl, _, _, rfl, rfl, _, rfl, ifT (decide_eq_true rfl) ?_⟩⟩
      refine ⟨_, rfl, _, rfl, _, rfl, fun x dx nx ndx nex => ⟨x, dx, .lessen x0 x1 x2, rfl, rfl, hok, upd_same, fun H1 h1 k1 => ⟨rfl, ?_⟩⟩⟩
      exact k x H1 (Same.made nx ndx k1) nx ⟨dx, h1⟩
    | out x0 x1 x2 =>
      refine ⟨t, _, rfl, SqT.of ht, Or.inr ⟨rfl, _, _, rfl, rfl, _, rfl, ifF (show ¬ decide (V.str "out" = V.str "give") = true by decide +kernel) ?_⟩⟩
      refine ⟨t, _, rfl, SqT.of ht, Or.inl ⟨(by show 4 ≠ 5; decide), ?_⟩⟩
      refine ⟨t, _, rfl, SqT.of ht, Or.inl ⟨(by show 4 ≠ 5; decide), ?_⟩⟩
      refine ⟨t, _, rfl, SqT.of ht, Or.inr ⟨rfl, _, _, rfl, rfl, _, rfl, ifF (show ¬ decide (V.str "out" = V.str "spend") = true by decide +kernel) ?_⟩⟩
      refine ⟨t, _, rfl, SqT.of ht, Or.inl ⟨(by show 4 ≠ 5; decide), ?_⟩⟩
      refine ⟨t, _, rfl, SqT.of ht, Or.inr ⟨rfl, _, _, rfl, rfl, _, rfl, ifF (show ¬ decide (V.str "out" = V.str "lessen") = true by decide +kernel) ?_⟩⟩
      refine ⟨t, _, rfl, SqT.of ht, Or.inr ⟨rfl, _, _, rfl, rfl, _, rfl, ifT (decide_eq_true rfl) ?_⟩⟩
      refine ⟨_, rfl, _, rfl, _, rfl, fun x dx nx ndx nex => ⟨x, dx, .out x0 x1 x2, rfl, rfl, hok, upd_same, fun H1 h1 k1 => ⟨rfl, ?_⟩⟩⟩
      exact k x H1 (Same.made nx ndx k1) nx ⟨dx, h1⟩
theorem c_made {C : Nat → Addr} (S : All7 P w K mg base C) (D : DefT K mg "_law_made" sMade ["_law_told_here"]) : Cal P w K mg base 6 "_law_made" (spMade C) := by
  refine cal D scMade (fun vs H Q E h => ?_) (fun f cdv A outer s H vs Q E hr h => ?_)
  · obtain ⟨t, e, rfl, _⟩ := h
    rfl
  · obtain ⟨t, e, rfl, ht, hok, k⟩ := h
    refine ⟨_, (pss_cons (ps_if (pt_cmpR op_eq (pe_ix ix_tup (pv 0) pe_int (fun _ _ => rfl)) pe_str (nomark _)) (pss_one (ps_ret (pe_mkT S.i0 hr (by decide) (by rfl) (pa_cons (pe_ix ix_tup (pv 0) pe_int (fun _ _ => rfl)) (pa_cons (pe_ix ix_tup (pv 0) pe_int (fun _ _ => rfl)) (pa_cons (pe_ix ix_tup (pv 0) pe_int (fun _ _ => rfl)) pa_nil)))))) pss_nil)
      (pss_cons (ps_if (pt_cmpR op_eq (pe_ix ix_tup (pv 0) pe_int (fun _ _ => rfl)) pe_str (nomark _)) (pss_one (ps_ret (pe_mkT S.i1 hr (by decide) (by rfl) (pa_cons (pe_ix ix_tup (pv 0) pe_int (fun _ _ => rfl)) (pa_cons (pe_ix ix_tup (pv 0) pe_int (fun _ _ => rfl)) (pa_cons (pe_ix ix_tup (pv 0) pe_int (fun _ _ => rfl)) (pa_cons (pe_ix ix_tup (pv 0) pe_int (fun _ _ => rfl)) pa_nil))))))) pss_nil)
      (pss_cons (ps_if (pt_cmpR op_eq (pe_ix ix_tup (pv 0) pe_int (fun _ _ => rfl)) pe_str (nomark _)) (pss_one (ps_ret (pe_mkT S.i2 hr (by decide) (by rfl) (pa_cons (pe_ix ix_tup (pv 0) pe_int (fun _ _ => rfl)) (pa_cons (pe_ix ix_tup (pv 0) pe_int (fun _ _ => rfl)) (pa_cons (pe_ix ix_tup (pv 0) pe_int (fun _ _ => rfl)) (pa_cons (pe_ix ix_tup (pv 0) pe_int (fun _ _ => rfl)) pa_nil))))))) pss_nil)
      (pss_cons (ps_if (pt_cmpR op_eq (pe_ix ix_tup (pv 0) pe_int (fun _ _ => rfl)) pe_str (nomark _)) (pss_one (ps_ret (pe_mkT S.i3 hr (by decide) (by rfl) (pa_cons (pe_ix ix_tup (pv 0) pe_int (fun _ _ => rfl)) (pa_cons (pe_ix ix_tup (pv 0) pe_int (fun _ _ => rfl)) (pa_cons (pe_ix ix_tup (pv 0) pe_int (fun _ _ => rfl)) pa_nil)))))) pss_nil)
      (pss_cons (ps_if (pt_cmpR op_eq (pe_ix ix_tup (pv 0) pe_int (fun _ _ => rfl)) pe_str (nomark _)) (pss_one (ps_ret (pe_mkT S.i4 hr (by decide) (by rfl) (pa_cons (pe_ix ix_tup (pv 0) pe_int (fun _ _ => rfl)) (pa_cons (pe_ix ix_tup (pv 0) pe_int (fun _ _ => rfl)) (pa_cons (pe_ix ix_tup (pv 0) pe_int (fun _ _ => rfl)) (pa_cons (pe_ix ix_tup (pv 0) pe_int (fun _ _ => rfl)) pa_nil))))))) pss_nil)
      (pss_cons (ps_if (pt_cmpR op_eq (pe_ix ix_tup (pv 0) pe_int (fun _ _ => rfl)) pe_str (nomark _)) (pss_one (ps_ret (pe_mkT S.i5 hr (by decide) (by rfl) (pa_cons (pe_ix ix_tup (pv 0) pe_int (fun _ _ => rfl)) (pa_cons (pe_ix ix_tup (pv 0) pe_int (fun _ _ => rfl)) (pa_cons (pe_ix ix_tup (pv 0) pe_int (fun _ _ => rfl)) pa_nil)))))) pss_nil)
      (pss_one (ps_ret (pe_mkT S.i6 hr (by decide) (by rfl) (pa_cons (pe_ix ix_tup (pv 0) pe_int (fun _ _ => rfl)) (pa_cons (pe_ix ix_tup (pv 0) pe_int (fun _ _ => rfl)) (pa_cons (pe_ix ix_tup (pv 0) pe_int (fun _ _ => rfl)) pa_nil)))))))))))), ?_⟩
    cases e with
    | give x0 x1 x2 =>
      refine ⟨_, rfl, t, _, _, _, rfl, rfl, SqT.of ht, rfl, rfl, _, rfl, ifT (decide_eq_true rfl) ?_⟩
      refine ⟨_, rfl, t, _, _, _, rfl, rfl, SqT.of ht, rfl, _, rfl, t, _, _, _, rfl, rfl, SqT.of ht, rfl, _, rfl, t, _, _, _, rfl, rfl, SqT.of ht, rfl, fun x dx nx ndx nex => ⟨x, dx, .give x0 x1 x2, rfl, rfl, hok, upd_same, fun H1 h1 k1 => ⟨rfl, ?_⟩⟩⟩
      exact k x H1 (Same.made nx ndx k1) nx ⟨dx, h1⟩
    | hold x0 x1 x2 x3 =>
      refine ⟨_, rfl, t, _, _, _, rfl, rfl, SqT.of ht, rfl, rfl, _, rfl, ifF (show ¬ decide (V.str "hold" = V.str "give") = true by decide +kernel) ?_⟩
      refine ⟨_, rfl, t, _, _, _, rfl, rfl, SqT.of ht, rfl, rfl, _, rfl, ifT (decide_eq_true rfl) ?_⟩
      refine ⟨_, rfl, t, _, _, _, rfl, rfl, SqT.of ht, rfl, _, rfl, t, _, _, _, rfl, rfl, SqT.of ht, rfl, _, rfl, t, _, _, _, rfl, rfl, SqT.of ht, rfl, _, rfl, t, _, _, _, rfl, rfl, SqT.of ht, rfl, fun x dx nx ndx nex => ⟨x, dx, .hold x0 x1 x2 x3, rfl, rfl, hok, upd_same, fun H1 h1 k1 => ⟨rfl, ?_⟩⟩⟩
      exact k x H1 (Same.made nx ndx k1) nx ⟨dx, h1⟩
    | move x0 x1 x2 x3 =>
      refine ⟨_, rfl, t, _, _, _, rfl, rfl, SqT.of ht, rfl, rfl, _, rfl, ifF (show ¬ decide (V.str "move" = V.str "give") = true by decide +kernel) ?_⟩
      refine ⟨_, rfl, t, _, _, _, rfl, rfl, SqT.of ht, rfl, rfl, _, rfl, ifF (show ¬ decide (V.str "move" = V.str "hold") = true by decide +kernel) ?_⟩
      refine ⟨_, rfl, t, _, _, _, rfl, rfl, SqT.of ht, rfl, rfl, _, rfl, ifT (decide_eq_true rfl) ?_⟩
      refine ⟨_, rfl, t, _, _, _, rfl, rfl, SqT.of ht, rfl, _, rfl, t, _, _, _, rfl, rfl, SqT.of ht, rfl, _, rfl, t, _, _, _, rfl, rfl, SqT.of ht, rfl, _, rfl, t, _, _, _, rfl, rfl, SqT.of ht, rfl, fun x dx nx ndx nex => ⟨x, dx, .move x0 x1 x2 x3, rfl, rfl, hok, upd_same, fun H1 h1 k1 => ⟨rfl, ?_⟩⟩⟩
      exact k x H1 (Same.made nx ndx k1) nx ⟨dx, h1⟩
    | spend x0 x1 x2 =>
      refine ⟨_, rfl, t, _, _, _, rfl, rfl, SqT.of ht, rfl, rfl, _, rfl, ifF (show ¬ decide (V.str "spend" = V.str "give") = true by decide +kernel) ?_⟩
      refine ⟨_, rfl, t, _, _, _, rfl, rfl, SqT.of ht, rfl, rfl, _, rfl, ifF (show ¬ decide (V.str "spend" = V.str "hold") = true by decide +kernel) ?_⟩
      refine ⟨_, rfl, t, _, _, _, rfl, rfl, SqT.of ht, rfl, rfl, _, rfl, ifF (show ¬ decide (V.str "spend" = V.str "move") = true by decide +kernel) ?_⟩
      refine ⟨_, rfl, t, _, _, _, rfl, rfl, SqT.of ht, rfl, rfl, _, rfl, ifT (decide_eq_true rfl) ?_⟩
      refine ⟨_, rfl, t, _, _, _, rfl, rfl, SqT.of ht, rfl, _, rfl, t, _, _, _, rfl, rfl, SqT.of ht, rfl, _, rfl, t, _, _, _, rfl, rfl, SqT.of ht, rfl, fun x dx nx ndx nex => ⟨x, dx, .spend x0 x1 x2, rfl, rfl, hok, upd_same, fun H1 h1 k1 => ⟨rfl, ?_⟩⟩⟩
      exact k x H1 (Same.made nx ndx k1) nx ⟨dx, h1⟩
    | promise x0 x1 x2 x3 =>
      refine ⟨_, rfl, t, _, _, _, rfl, rfl, SqT.of ht, rfl, rfl, _, rfl, ifF (show ¬ decide (V.str "promise" = V.str "give") = true by decide +kernel) ?_⟩
      refine ⟨_, rfl, t, _, _, _, rfl, rfl, SqT.of ht, rfl, rfl, _, rfl, ifF (show ¬ decide (V.str "promise" = V.str "hold") = true by decide +kernel) ?_⟩
      refine ⟨_, rfl, t, _, _, _, rfl, rfl, SqT.of ht, rfl, rfl, _, rfl, ifF (show ¬ decide (V.str "promise" = V.str "move") = true by decide +kernel) ?_⟩
      refine ⟨_, rfl, t, _, _, _, rfl, rfl, SqT.of ht, rfl, rfl, _, rfl, ifF (show ¬ decide (V.str "promise" = V.str "spend") = true by decide +kernel) ?_⟩
      refine ⟨_, rfl, t, _, _, _, rfl, rfl, SqT.of ht, rfl, rfl, _, rfl, ifT (decide_eq_true rfl) ?_⟩
      refine ⟨_, rfl, t, _, _, _, rfl, rfl, SqT.of ht, rfl, _, rfl, t, _, _, _, rfl, rfl, SqT.of ht, rfl, _, rfl, t, _, _, _, rfl, rfl, SqT.of ht, rfl, _, rfl, t, _, _, _, rfl, rfl, SqT.of ht, rfl, fun x dx nx ndx nex => ⟨x, dx, .promise x0 x1 x2 x3, rfl, rfl, hok, upd_same, fun H1 h1 k1 => ⟨rfl, ?_⟩⟩⟩
      exact k x H1 (Same.made nx ndx k1) nx ⟨dx, h1⟩
    | lessen x0 x1 x2 =>
      refine ⟨_, rfl, t, _, _, _, rfl, rfl, SqT.of ht, rfl, rfl, _, rfl, ifF (show ¬ decide (V.str "lessen" = V.str "give") = true by decide +kernel) ?_⟩
      refine ⟨_, rfl, t, _, _, _, rfl, rfl, SqT.of ht, rfl, rfl, _, rfl, ifF (show ¬ decide (V.str "lessen" = V.str "hold") = true by decide +kernel) ?_⟩
      refine ⟨_, rfl, t, _, _, _, rfl, rfl, SqT.of ht, rfl, rfl, _, rfl, ifF (show ¬ decide (V.str "lessen" = V.str "move") = true by decide +kernel) ?_⟩
      refine ⟨_, rfl, t, _, _, _, rfl, rfl, SqT.of ht, rfl, rfl, _, rfl, ifF (show ¬ decide (V.str "lessen" = V.str "spend") = true by decide +kernel) ?_⟩
      refine ⟨_, rfl, t, _, _, _, rfl, rfl, SqT.of ht, rfl, rfl, _, rfl, ifF (show ¬ decide (V.str "lessen" = V.str "promise") = true by decide +kernel) ?_⟩
      refine ⟨_, rfl, t, _, _, _, rfl, rfl, SqT.of ht, rfl, rfl, _, rfl, ifT (decide_eq_true rfl) ?_⟩
      refine ⟨_, rfl, t, _, _, _, rfl, rfl, SqT.of ht, rfl, _, rfl, t, _, _, _, rfl, rfl, SqT.of ht, rfl, _, rfl, t, _, _, _, rfl, rfl, SqT.of ht, rfl, fun x dx nx ndx nex => ⟨x, dx, .lessen x0 x1 x2, rfl, rfl, hok, upd_same, fun H1 h1 k1 => ⟨rfl, ?_⟩⟩⟩
      exact k x H1 (Same.made nx ndx k1) nx ⟨dx, h1⟩
    | out x0 x1 x2 =>
      refine ⟨_, rfl, t, _, _, _, rfl, rfl, SqT.of ht, rfl, rfl, _, rfl, ifF (show ¬ decide (V.str "out" = V.str "give") = true by decide +kernel) ?_⟩
      refine ⟨_, rfl, t, _, _, _, rfl, rfl, SqT.of ht, rfl, rfl, _, rfl, ifF (show ¬ decide (V.str "out" = V.str "hold") = true by decide +kernel) ?_⟩
      refine ⟨_, rfl, t, _, _, _, rfl, rfl, SqT.of ht, rfl, rfl, _, rfl, ifF (show ¬ decide (V.str "out" = V.str "move") = true by decide +kernel) ?_⟩
      refine ⟨_, rfl, t, _, _, _, rfl, rfl, SqT.of ht, rfl, rfl, _, rfl, ifF (show ¬ decide (V.str "out" = V.str "spend") = true by decide +kernel) ?_⟩
      refine ⟨_, rfl, t, _, _, _, rfl, rfl, SqT.of ht, rfl, rfl, _, rfl, ifF (show ¬ decide (V.str "out" = V.str "promise") = true by decide +kernel) ?_⟩
      refine ⟨_, rfl, t, _, _, _, rfl, rfl, SqT.of ht, rfl, rfl, _, rfl, ifF (show ¬ decide (V.str "out" = V.str "lessen") = true by decide +kernel) ?_⟩
      refine ⟨_, rfl, t, _, _, _, rfl, rfl, SqT.of ht, rfl, _, rfl, t, _, _, _, rfl, rfl, SqT.of ht, rfl, _, rfl, t, _, _, _, rfl, rfl, SqT.of ht, rfl, fun x dx nx ndx nex => ⟨x, dx, .out x0 x1 x2, rfl, rfl, hok, upd_same, fun H1 h1 k1 => ⟨rfl, ?_⟩⟩⟩
      exact k x H1 (Same.made nx ndx k1) nx ⟨dx, h1⟩
end
end KP
namespace KP
open PySem L2 KM
/-! ### numbers drawn -/
def WellAt (H : Hp) (a : Addr) : Prop := ∃ x y z : Int, H a = some (.lst [.int x, .int y, .int z])
/-- all but a is as it was -/
def SameB (a : Addr) (H H' : Hp) : Prop := ∀ b o, H b = some o → b ≠ a → H' b = some o
theorem SameB.trans {a : Addr} {H H1 H2 : Hp} (p : SameB a H H1) (q : SameB a H1 H2) : SameB a H H2 := fun b o e hb => q b o (p b o e hb) hb
theorem SameB.refl {a : Addr} {H : Hp} : SameB a H H := fun _ _ e _ => e
theorem SameB.of {a : Addr} {H H' : Hp} (s : Same H H') : SameB a H H' := fun b o e _ => s b o e
theorem SameB.newD {a D : Addr} {H H1 H2 : Hp} {o : HO} (hD : H D = none) (p : SameB a H H1) : SameB a H (upd H1 D o) := fun b u e hb => by
  rw [upd_ne (ne_of_none e hD)]
  exact p b u e hb
theorem WellAt.up {H : Hp} {a D : Addr} {o : HO} (h : WellAt H a) (hn : a ≠ D) : WellAt (upd H D o) a := by
  obtain ⟨x, y, z, e⟩ := h
  exact ⟨x, y, z, by rw [upd_ne hn]; exact e⟩
theorem WellAt.new {H : Hp} {a D : Addr} {o : HO} (h : WellAt H a) (hD : H D = none) : WellAt (upd H D o) a := by
  obtain ⟨x, y, z, e⟩ := id h
  exact h.up (ne_of_none e hD)
theorem WellAt.ne {H : Hp} {a D : Addr} (h : WellAt H a) (hD : H D = none) : a ≠ D := by
  obtain ⟨x, y, z, e⟩ := h
  exact ne_of_none e hD
abbrev sWell : Stmt := top 36
abbrev sDraw : Stmt := top 37
abbrev sName : Stmt := top 38
def spWell : Sp := fun vs H Q _ => ∃ c : Int, vs = [.int c] ∧ ∀ a H', Same H H' → H a = none → WellAt H' a → Q (.ref a) H'
def spDraw : Sp := fun vs H Q _ => ∃ (a : Addr) (m : Int), vs = [.ref a, .int m] ∧ WellAt H a ∧ 0 < m ∧ m < 1180591620717411303424 ∧ ∀ r H', 0 ≤ r → r < m → WellAt H' a → SameB a H H' → Q (.int r) H'
def spName : Sp := fun vs H Q _ => ∃ a : Addr, vs = [.ref a] ∧ WellAt H a ∧ ∀ x H', IsW x → WellAt H' a → SameB a H H' → Q (.str x) H'
section
variable {P : Program} {w : World} {K : PySem.W.Frag} {mg : Str → Option Value} {base : Heap}
theorem scWell : FnScope ["_law_cell"] ["_law_cell"] (defScope sWell) := ⟨rfl, rfl, rfl, by decide +kernel, rfl, by decide +kernel, by decide +kernel⟩
theorem c_well (B : Base K mg) (D : DefT K mg "_law_well" sWell ["_law_cell"]) : Cal P w K mg base 1 "_law_well" spWell := by
  refine cal D scWell (fun vs H Q E h => ?_) (fun f cdv A outer s H vs Q E hr h => ?_)
  · obtain ⟨c, rfl, _⟩ := h
    rfl
  · obtain ⟨c, rfl, k⟩ := h
    refine ⟨_, pss_one (ps_ret (pe_lst (pa_cons (pe_op op_mul (pv 0) (pe_callTy call_int1 (by rfl) B.int (by decide +kernel) (pa_cons (pe_cmpR op_ge (pv 0) (pe_op op_pow pe_int pe_int) (nomark _)) pa_nil)))
      (pa_cons (pe_op op_mod (pv 0) pe_int) (pa_cons pe_int pa_nil))))), ?_⟩
    refine ⟨_, rfl, _, rfl, _, _, rfl, rfl, ⟨by decide, by decide, by decide⟩, _, _, rfl, rfl, Or.inr ⟨_, rfl, _, _, rfl, rfl, Or.inr ?_, ?_⟩⟩
    · split <;> constructor <;> decide
    · refine ⟨_, rfl, _, _, rfl, rfl, (by show (0 : Int) < 2147483647; decide), (by show 3 ≤ sizeLine; decide), fun l hl => ?_⟩
      exact k l _ (same_new hl) hl ⟨_, _, _, upd_same⟩
theorem scDraw : FnScope ["_law_well_here", "_law_many", "_law_found", "_law_number"] ["_law_well_here", "_law_many"] (defScope sDraw) := ⟨rfl, rfl, rfl, by decide +kernel, rfl, by decide +kernel, by decide +kernel⟩
theorem c_draw (D : DefT K mg "_law_draw" sDraw ["_law_well_here", "_law_many"]) : Cal P w K mg base 1 "_law_draw" spDraw := by
  refine cal D scDraw (fun vs H Q E h => ?_) (fun f cdv A outer s H vs Q E hr h => ?_)
  · obtain ⟨a, m, rfl, _⟩ := h
    rfl
  · obtain ⟨a, m, rfl, ⟨x, y, z, ha⟩, m0, m1, k⟩ := h
    refine ⟨_, pss_cons (ps_if (pt_cmpR op_gt (pe_ix ix_list (pv 0) pe_int (fun _ _ => rfl)) pe_int (nomark _))
        (pss_cons (ps_set (i := 2) scDraw.nd rfl (Or.inl rfl) (pe_op op_mod (pe_ix ix_list (pv 0) pe_int (fun _ _ => rfl)) (pv 1)))
        (pss_cons (ps_asg (pe_op op_fdivW (pe_ix ix_list (pv 0) pe_int (fun _ _ => rfl)) (pv 1)) (pg_sub (pv 0) pe_int set_list))
        (pss_one (ps_ret (pv 2))))) pss_nil)
      (pss_cons (ps_asg (pe_op op_add (pe_ix ix_list (pv 0) pe_int (fun _ _ => rfl)) pe_int) (pg_sub (pv 0) pe_int set_list))
      (pss_cons (ps_set (i := 3) scDraw.nd rfl (Or.inl rfl) (pe_op op_mod (pe_op op_mul (pe_op op_add (pe_op op_add (pe_ix ix_list (pv 0) pe_int (fun _ _ => rfl)) (pe_op op_mul pe_int (pe_ix ix_list (pv 0) pe_int (fun _ _ => rfl)))) pe_int) pe_int) pe_int))
      (pss_cons (ps_set (i := 3) scDraw.nd rfl (Or.inl rfl) (pe_op op_mod (pe_op op_mul (pv 3) (pe_op op_add (pe_op op_fdiv (pv 3) pe_int) pe_int)) pe_int))
      (pss_one (ps_ret (pe_op op_mod (pe_op op_mod (pe_op op_mul (pv 3) (pe_op op_add (pe_op op_fdiv (pv 3) pe_int) pe_int)) pe_int) (pv 1))))))), ?_⟩
    refine ⟨_, rfl, a, _, 0, .int x, rfl, rfl, SqL.of ha, rfl, _, _, rfl, rfl, _, rfl, ite2 (fun c => ?_) (fun c => ?_)⟩
    · refine ⟨_, rfl, a, _, 0, .int x, rfl, rfl, SqL.of ha, rfl, _, rfl, _, _, rfl, rfl, m0, ?_⟩
      refine ⟨_, rfl, a, _, 0, .int x, rfl, rfl, SqL.of ha, rfl, _, rfl, _, _, rfl, rfl, wide_div m0 (b := 70) (by omega) (by decide) (by decide), ?_⟩
      refine ⟨_, rfl, a, _, 0, 0, rfl, rfl, ha, rfl, ?_⟩
      refine ⟨_, rfl, k _ _ (Int.emod_nonneg _ (by omega)) (Int.emod_lt_of_pos _ m0) ⟨_, _, _, upd_same⟩ fun b o e hb => ?_⟩
      rw [upd_ne hb]
      exact e
    · refine ⟨_, rfl, a, _, 2, .int z, rfl, rfl, SqL.of ha, rfl, _, _, rfl, rfl, _, rfl, a, _, 2, 2, rfl, rfl, ha, rfl, ?_⟩
      have h1 : ∀ n : Int, -(2 ^ 64) < n % 2147483647 ∧ n % 2147483647 < 2 ^ 64 := fun n => by omega
      refine ⟨_, rfl, a, _, 1, .int y, rfl, rfl, SqL.of upd_same, rfl, _, rfl, a, _, 2, .int (z + 1), rfl, rfl, SqL.of upd_same, rfl, _, _, rfl, rfl, Or.inl ⟨by decide, by decide⟩, _, _, rfl, rfl, _, _, rfl, rfl, _, _, rfl, rfl, Or.inr ⟨by decide, by decide⟩, _, _, rfl, rfl, (by show (0 : Int) < 2147483647; decide), ?_⟩
      refine ⟨_, rfl, _, rfl, _, _, rfl, rfl, ⟨by decide, by decide⟩, _, _, rfl, rfl, _, _, rfl, rfl, Or.inl (h1 _), _, _, rfl, rfl, (by show (0 : Int) < 2147483647; decide), ?_⟩
      refine ⟨_, rfl, _, rfl, _, _, rfl, rfl, ⟨by decide, by decide⟩, _, _, rfl, rfl, _, _, rfl, rfl, Or.inl (h1 _), _, _, rfl, rfl, (by show (0 : Int) < 2147483399; decide), _, rfl, _, _, rfl, rfl, m0, ?_⟩
      refine k _ _ (Int.emod_nonneg _ (by omega)) (Int.emod_lt_of_pos _ m0) ⟨_, _, _, upd_same⟩ fun b o e hb => ?_
      rw [upd_ne hb]
      exact e
theorem join_signs : ∀ cs : List Nat, TL.joinL [] (cs.map fun c => [c]) = cs
  | [] => rfl
  | [c] => rfl
  | c :: d :: r => by
    show [c] ++ ([] ++ TL.joinL [] ((d :: r).map fun c => [c])) = c :: d :: r
    rw [join_signs (d :: r)]
    rfl
theorem join_is (cs : List Nat) : Txt.join "" (cs.map fun c => (⟨#[c]⟩ : Str)) = SX.S cs := by
  have h := SX.join_S [] (cs.map fun c => [c])
  rw [join_signs, List.map_map] at h
  exact h
theorem isW_S {cs : List Nat} (h : ∀ c ∈ cs, Ltr c) (h1 : 1 ≤ cs.length) (h8 : cs.length ≤ 8) : IsW (SX.S cs) := ⟨fun c hc => h c (by simpa using hc), by rw [SX.S_len]; exact h1, by rw [SX.S_len]; exact h8⟩
def names16 : List Str := ["in", "year", "head", "limit", "rule", "back", "right", "give", "hold", "move", "spend", "promise", "lessen", "out", "none", "carried"]
def wordB (x : Str) : Bool := x.cps.toList.all (fun c => decide (c ∈ letters.cps.toList)) && decide (1 ≤ x.length) && decide (x.length ≤ 8)
theorem isW_of {x : Str} (h : wordB x = true) : IsW x := by
  unfold wordB at h
  simp only [Bool.and_eq_true, List.all_eq_true, decide_eq_true_eq] at h
  exact ⟨h.1.1, h.1.2, h.2⟩
theorem names16_ok : ∀ x ∈ names16, IsW x := by
  have h : names16.all wordB = true := by decide +kernel
  intro x hx
  exact isW_of (List.all_eq_true.mp h x hx)
theorem get_lt {α : Type} {l : List α} {r : Int} (h0 : 0 ≤ r) (h1 : r < (l.length : Int)) : ∃ v, atI l r = some v ∧ v ∈ l := by
  obtain ⟨j, rfl⟩ : ∃ j : Nat, r = (j : Int) := ⟨r.toNat, by omega⟩
  have hj : j < l.length := by omega
  exact ⟨l[j], atI_nat (List.getElem?_eq_getElem hj), List.getElem_mem hj⟩
theorem let_get {r : Int} (h0 : 0 ≤ r) (h1 : r < 26) : ∃ c, letters.cps[r.toNat]? = some c ∧ Ltr c := by
  have e : letters.cps.size = 26 := by decide +kernel
  have hj : r.toNat < letters.cps.size := by omega
  refine ⟨letters.cps[r.toNat], by simp [hj], ?_⟩
  show _ ∈ letters.cps.toList
  simp
theorem scName : FnScope ["_law_well_here", "_law_some", "_law_signs", "_law_k"] ["_law_well_here"] (defScope sName) := ⟨rfl, rfl, rfl, by decide +kernel, rfl, by decide +kernel, by decide +kernel⟩
theorem c_name (B : Base K mg) (Dr : Cal P w K mg base 1 "_law_draw" spDraw) (D : DefT K mg "_law_name" sName ["_law_well_here"]) : Cal P w K mg base 2 "_law_name" spName := by
  refine cal D scName (fun vs H Q E h => ?_) (fun f cdv A outer s H vs Q E hr h => ?_)
  · obtain ⟨a, rfl, _⟩ := h
    rfl
  · obtain ⟨a, rfl, ha, k⟩ := h
    refine ⟨_, pss_cons (ps_if (pt_cmpR op_eq (pe_cl Dr hr (by decide) (by rfl) (pa_cons (pv 0) (pa_cons pe_int pa_nil))) pe_int (nomark _))
        (pss_cons (ps_set (i := 1) scName.nd rfl (Or.inl rfl) (pe_lst (pa_cons pe_str (pa_cons pe_str (pa_cons pe_str (pa_cons pe_str (pa_cons pe_str (pa_cons pe_str (pa_cons pe_str (pa_cons pe_str (pa_cons pe_str (pa_cons pe_str (pa_cons pe_str (pa_cons pe_str pa_nil))))))))))))))
        (pss_one (ps_ret (pe_ix ix_list (pe_op op_cat (pv 1) (pe_lst (pa_cons pe_str (pa_cons pe_str (pa_cons pe_str (pa_cons pe_str pa_nil)))))) (pe_cl Dr hr (by decide) (by rfl) (pa_cons (pv 0) (pa_cons pe_int pa_nil))) (fun _ _ => rfl))))) pss_nil)
      (pss_cons (ps_set (i := 2) scName.nd rfl (by first | exact Or.inl rfl | exact Or.inr rfl) pe_str)
      (pss_one (ps_ret (pe_join pe_str (pe_lc (own := [("_law_k", 3)]) (g := gName 3) (tt := tYes) rfl scName.nd (pi_range1 (by rfl) B.range (pa_cons (pe_op op_add pe_int (pe_cl Dr hr (by decide) (by rfl) (pa_cons (pv 0) (pa_cons pe_int pa_nil)))) pa_nil))
        (blkOk_by (N := ["_law_well_here", "_law_some", "_law_signs", "_law_k"]) (sc := defScope sName) (by decide +kernel)) (fun _ _ _ _ _ => pg_name (i := 3) scName.nd rfl (Or.inl rfl)) (fun _ _ _ _ _ => pts_nil)
        (fun _ _ _ _ _ => pe_item_str (pv 2) (pe_cl Dr hr (by decide) (by rfl) (pa_cons (pv 0) (pa_cons pe_int pa_nil))) (fun _ _ => rfl))))))), ?_⟩
    refine ⟨_, rfl, a, 8, rfl, ha, by decide, by decide, fun r H1 r0 r8 w1 s1 => ⟨rfl, _, rfl, ite2 (fun _ => ?_) (fun _ => ?_)⟩⟩
    · refine ⟨(by show 12 ≤ sizeLine; decide), fun p hp => ?_⟩
      refine ⟨_, rfl, (by show 4 ≤ sizeLine; decide), fun q hq => ?_⟩
      have pq : p ≠ q := ne_of_none upd_same hq
      refine ⟨p, q, _, _, rfl, rfl, (by rw [upd_ne pq]; exact upd_same), upd_same, (by show 12 + 4 ≤ sizeLine; decide), fun t ht => ?_⟩
      refine ⟨_, rfl, a, 16, rfl, ((w1.new hp).new hq).new ht, by decide, by decide, fun r2 H2 r20 r216 w2 s2 => ?_⟩
      obtain ⟨v, hv, hm⟩ := get_lt (l := names16.map V.str) r20 (by show r2 < 16; exact r216)
      obtain ⟨x, hx, rfl⟩ := List.mem_map.mp hm
      have ta : a ≠ t := ((w1.new hp).new hq).ne ht
      refine ⟨t, _, r2, .str x, rfl, rfl, SqL.of (s2 t _ upd_same ta.symm), hv, ?_⟩
      refine k x H2 (names16_ok x hx) w2 (s1.trans fun b o e hb => s2 b o ?_ hb)
      exact same_new ht b o (same_new hq b o (same_new hp b o e))
    · refine ⟨⟨_, rfl⟩, _, rfl, a, 8, rfl, w1, by decide, by decide, fun r2 H2 r20 r28 w2 s2 => ?_⟩
      have hn : (1 + r2).toNat ≤ 8 := by omega
      refine ⟨_, _, rfl, rfl, (1 + r2), rfl, by omega, by omega, fun D hD => lc_range (lo := 0) (n := (1 + r2).toNat)
        (fun i H' => ∃ cs : List Nat, cs.length = i ∧ (∀ c ∈ cs, Ltr c) ∧ H' D = some (.lst (cs.map fun c => V.str ⟨#[c]⟩)) ∧ WellAt H' a ∧ SameB a H H')
        ⟨[], rfl, (fun _ h => nomatch h), upd_same, w2.new hD, ?_⟩ ?_ ?_⟩
      · exact (s1.trans s2).trans (SameB.of (same_new hD))
      · rintro i H3 hi ⟨cs, hl, hL, hd, wd, sd⟩
        refine ⟨rfl, yes (iteT ⟨_, rfl, _, rfl, a, 26, rfl, wd, by decide, by decide, fun r3 H4 r30 r326 w4 s4 => ?_⟩)⟩
        obtain ⟨c, hc, hcl⟩ := let_get r30 r326
        have e26 : (letters.length : Int) = 26 := by decide +kernel
        refine ⟨letters, r3, c, rfl, rfl, r30, by omega, by rw [e26]; exact r326, hc, _, s4 D _ hd (w2.ne hD).symm, ?_, cs ++ [c], by simp [hl], ?_, ?_, w4.up (w2.ne hD), ?_⟩
        · rw [List.length_map, hl]
          have e : sizeLine = 16777216 := by decide
          omega
        · intro x hx
          rcases List.mem_append.mp hx with hx | hx
          · exact hL x hx
          · rw [List.mem_singleton.mp hx]; exact hcl
        · rw [upd_same, List.map_append]; rfl
        · intro b o e hb
          by_cases hbD : b = D
          · subst hbD
            have q1 := (s1.trans s2) b o e hb
            rw [hD] at q1; cases q1
          · rw [upd_ne hbD]; exact (sd.trans s4) b o e hb
      · rintro H3 ⟨cs, hl, hL, hd, wd, sd⟩
        refine ⟨_, D, cs.map fun c => (⟨#[c]⟩ : Str), rfl, rfl, Or.inl (SqL.of (by rw [hd, List.map_map]; rfl)), ?_, ?_⟩
        · rw [List.map_map, List.length_map, hl]
          have e1 : ∀ l : List Nat, (l.map (Function.comp (fun x : Str => x.length) fun c => (⟨#[c]⟩ : Str))).sum = l.length := by
            intro l
            induction l with
            | nil => rfl
            | cons c l ih => rw [List.map_cons, List.sum_cons, ih]; show 1 + l.length = _; rw [List.length_cons]; omega
          rw [e1, hl]
          show _ + _ * 0 ≤ _
          omega
        · rw [join_is]
          exact k _ H3 (isW_S hL (by omega) (by omega)) wd sd
end
end KP
namespace KP
open PySem L2 KM
/-! ### the mathematics of names -/
theorem len_le_of_sub {α : Type} [DecidableEq α] : ∀ {l m : List α}, l.Nodup → (∀ x ∈ l, x ∈ m) → l.length ≤ m.length
  | [], _, _, _ => Nat.zero_le _
  | a :: l, m, hn, hs => by
    have ha : a ∈ m := hs a List.mem_cons_self
    have hn' := List.nodup_cons.mp hn
    have ih := len_le_of_sub (l := l) (m := m.erase a) hn'.2 (fun x hx => (List.mem_erase_of_ne (fun (e : x = a) => hn'.1 (e ▸ hx))).mpr (hs x (List.mem_cons_of_mem _ hx)))
    have e := List.length_erase_of_mem ha
    have p := List.length_pos_of_mem ha
    rw [List.length_cons]
    omega
def stem (y : Str) : Str := cutS y none (some 7)
def cands (y : Str) : List Str := y :: letters.cps.toList.map fun c => stem y ++ (⟨#[c]⟩ : Str)
theorem stem_S (y : Str) : stem y = SX.S (y.cps.toList.take 7) := by
  unfold stem
  rw [C8.cutS_slice]
  have h := SX.slice_to (a := y.cps.toList) (i := 7) (by decide)
  rw [SX.S_tl] at h
  exact h
theorem cand_S (y : Str) (c : Nat) : stem y ++ (⟨#[c]⟩ : Str) = SX.S (y.cps.toList.take 7 ++ [c]) := by
  rw [stem_S]
  exact SX.S_cat _ [c]
theorem cands_ok {y : Str} (h : IsW y) : ∀ x ∈ cands y, IsW x := by
  intro x hx
  rcases List.mem_cons.mp hx with rfl | hx
  · exact h
  · obtain ⟨c, hc, rfl⟩ := List.mem_map.mp hx
    rw [cand_S]
    refine isW_S (fun d hd => ?_) (by simp) (by simp; omega)
    rcases List.mem_append.mp hd with hd | hd
    · exact h.1 d (List.mem_of_mem_take hd)
    · rw [List.mem_singleton.mp hd]; exact hc
theorem letters_nd : letters.cps.toList.Nodup := by decide +kernel
theorem letters_len : letters.cps.toList.length = 26 := by decide +kernel
theorem nodup_map {α β : Type} {f : α → β} (hf : ∀ a b, f a = f b → a = b) : ∀ {l : List α}, l.Nodup → (l.map f).Nodup
  | [], _ => List.nodup_nil
  | a :: l, h => by
    have h' := List.nodup_cons.mp h
    rw [List.map_cons, List.nodup_cons]
    refine ⟨fun hm => ?_, nodup_map hf h'.2⟩
    obtain ⟨b, hb, e⟩ := List.mem_map.mp hm
    exact h'.1 (hf b a e ▸ hb)
def fresh (y : Str) (xs : List Str) : List Str := (cands y).filter fun c => !decide (c ∈ xs)
theorem fresh_ne {y : Str} {xs : List Str} (h : xs.length ≤ 8) : ∃ z zs, fresh y xs = z :: zs ∧ z ∈ cands y ∧ ¬ z ∈ xs := by
  cases e : fresh y xs with
  | nil =>
    exfalso
    have nd : (letters.cps.toList.map fun c => stem y ++ (⟨#[c]⟩ : Str)).Nodup := nodup_map (fun a b q => by
      rw [cand_S, cand_S] at q
      have := List.append_cancel_left (SX.S_inj q)
      simpa using this) letters_nd
    have hle := len_le_of_sub (m := xs) nd (fun x hx => by
      by_cases hm : x ∈ xs
      · exact hm
      · have : x ∈ fresh y xs := List.mem_filter.mpr ⟨List.mem_cons_of_mem _ hx, by simp [hm]⟩
        rw [e] at this
        cases this)
    rw [List.length_map, letters_len] at hle
    omega
  | cons z zs =>
    have hz : z ∈ fresh y xs := by rw [e]; exact List.mem_cons_self
    have h2 := List.mem_filter.mp hz
    exact ⟨z, zs, rfl, h2.1, by simpa using h2.2⟩
theorem strOk_W {x : Str} (h : IsW x) : PyData.strOk x = true := by
  have hb : letters.cps.toList.all (· < 0x110000) = true := by decide +kernel
  unfold PyData.strOk
  rw [← Array.all_toList, List.all_eq_true]
  intro c hc
  exact List.all_eq_true.mp hb c (h.1 c hc)
theorem canLay_strs : ∀ {xs : List Str}, (∀ x ∈ xs, PyData.strOk x = true) → PyData.canLayAll0 (xs.map PyData.str) = true
  | [], _ => rfl
  | x :: xs, h => by
    show (PyData.strOk x && PyData.canLayAll0 (xs.map PyData.str)) = true
    rw [h x List.mem_cons_self, canLay_strs fun y hy => h y (List.mem_cons_of_mem _ hy)]
    rfl
theorem depth_strs : ∀ {xs : List Str}, PyData.depthAll (xs.map PyData.str) = 0
  | [] => rfl
  | x :: xs => by
    show max 0 (PyData.depthAll (xs.map PyData.str)) = 0
    rw [depth_strs]
    rfl
theorem shaped_strs {xs : List Str} (h : ∀ x ∈ xs, PyData.strOk x = true) : SeqAt.shaped (.list (xs.map PyData.str)) = true := by
  have h1 : (PyData.list (xs.map PyData.str)).canLay0 = true := canLay_strs h
  have h2 : (PyData.list (xs.map PyData.str)).depth ≤ 64 := by
    show PyData.depthAll (xs.map PyData.str) + 1 ≤ 64
    rw [depth_strs]; decide
  unfold SeqAt.shaped
  rw [h1, decide_eq_true h2]
  rfl
theorem dp_strs {K : PySem.W.Frag} {H : Hp} : ∀ (xs : List Str), DpAll K H (xs.map V.str) (xs.map PyData.str)
  | [] => .nil
  | x :: xs => .cons (.str x) (dp_strs xs)
theorem inV_str {x : Str} : ∀ {xs : List Str}, inV (.str x) (xs.map V.str) = decide (x ∈ xs)
  | [] => by simp [inV]
  | y :: xs => by
    have ih := inV_str (x := x) (xs := xs)
    unfold inV at ih ⊢
    rw [List.map_cons, List.any_cons, ih]
    show ((y == x) || decide (x ∈ xs)) = decide (x ∈ y :: xs)
    by_cases h : y = x
    · subst h; simp
    · have h' : (y == x) = false := beq_eq_false_iff_ne.mpr h
      have h'' : ¬ x = y := fun e => h e.symm
      rw [h']; simp [h'']
theorem flat_strs {xs : List Str} : (xs.map V.str).all flatV = true := by
  rw [List.all_eq_true]
  intro v hv
  obtain ⟨x, _, rfl⟩ := List.mem_map.mp hv
  rfl
theorem take_more {α : Type} : ∀ {l : List α} {i : Nat} {x : α}, l[i]? = some x → l.take (i + 1) = l.take i ++ [x]
  | [], i, x, h => by simp at h
  | a :: l, 0, x, h => by
    have e : a = x := Option.some.inj h
    subst e
    rfl
  | a :: l, i + 1, x, h => by
    have ih := take_more (l := l) (i := i) (x := x) h
    show a :: l.take (i + 1) = a :: l.take i ++ [x]
    rw [ih]
    rfl
abbrev sNames : Stmt := top 39
def spNames : Sp := fun vs H Q _ => ∃ (a : Addr) (m : Nat), vs = [.ref a, .int (m : Int)] ∧ WellAt H a ∧ m ≤ 8 ∧ ∀ (p : Addr) (xs : List Str) (H' : Hp), xs.length = m → (∀ x ∈ xs, IsW x) → xs.Nodup → H p = none → H' p = some (.lst (xs.map V.str)) → WellAt H' a → SameB a H H' → Q (.ref p) H'
section
variable {P : Program} {w : World} {K : PySem.W.Frag} {mg : Str → Option Value} {base : Heap}
abbrev nNames : List Str := ["_law_well_here", "_law_many", "_law_found", "_law_k", "_law_name_here", "_law_some", "_law_sign_here", "_law_one"]
theorem scNames : FnScope nNames ["_law_well_here", "_law_many"] (defScope sNames) := ⟨rfl, rfl, rfl, by decide +kernel, rfl, by decide +kernel, by decide +kernel⟩
theorem c_names (B : Base K mg) (Dr : Cal P w K mg base 1 "_law_draw" spDraw) (Nm : Cal P w K mg base 2 "_law_name" spName) (D : DefT K mg "_law_names" sNames ["_law_well_here", "_law_many"]) : Cal P w K mg base 3 "_law_names" spNames := by
  refine cal D scNames (fun vs H Q E h => ?_) (fun f cdv A outer s H vs Q E hr h => ?_)
  · obtain ⟨a, m, rfl, _⟩ := h
    rfl
  · obtain ⟨a, m, rfl, ha, m8, k⟩ := h
    refine ⟨_, pss_cons (ps_set (i := 2) scNames.nd rfl (by first | exact Or.inl rfl | exact Or.inr rfl) (pe_lst pa_nil))
      (pss_cons (ps_for PassesOwn.never rfl (pi_range1 (by rfl) B.range (pa_cons (pv 1) pa_nil)) (pg_name (i := 3) scNames.nd rfl (Or.inl rfl))
        (pss_cons (ps_set (i := 4) scNames.nd rfl (by first | exact Or.inl rfl | exact Or.inr rfl) (pe_cl Nm hr (by decide) (by rfl) (pa_cons (pv 0) pa_nil)))
        (C8.pss_cut (ps_if (PW.pt (pw_and (pt_cmpR (op_neD hr.units) (pv 2) (pe_lst pa_nil) (nomark _)) (pw_and1 (pt_cmpR op_eq (pe_cl Dr hr (by decide) (by rfl) (pa_cons (pv 0) (pa_cons pe_int pa_nil))) pe_int (nomark _)))))
          (pss_one (ps_set (i := 4) scNames.nd rfl (by first | exact Or.inl rfl | exact Or.inr rfl) (pe_ix ix_list (pv 2) (pe_cl Dr hr (by decide) (by rfl) (pa_cons (pv 0) (pa_cons (pe_callB call_len_seq (by rfl) B.len PySem.boot_len (pa_cons (pv 2) pa_nil)) pa_nil))) (fun _ _ => rfl)))) pss_nil)
        (pss_cons (ps_set (i := 5) scNames.nd rfl (by first | exact Or.inl rfl | exact Or.inr rfl) (pe_op op_cat (pe_lst (pa_cons (pv 4) pa_nil))
          (pe_lc (own := [("_law_sign_here", 6)]) (g := gName 6) (tt := tYes) rfl scNames.nd (pi_str pe_str) (blkOk_by (N := nNames) (sc := defScope sNames) (by decide +kernel)) (fun _ _ _ _ _ => pg_name (i := 6) scNames.nd rfl (Or.inl rfl)) (fun _ _ _ _ _ => pts_nil)
            (fun _ _ _ _ _ => pe_op op_add_str (pe_slice sl_str (pv 4) po_none (po_some pe_int)) (pv 6)))))
        (pss_one (ps_expr (pe_bm PySem.F.plainAttrs_list PySem.F.slot_list_append PySem.F.type_list_append mt_append (pv 2) (pa_cons (pe_ix ix_list
          (pe_lc (own := [("_law_one", 7)]) (g := gName 7) (tt := tTest (tOp (rIn K true) (tVar 7) (tVar 2))) rfl scNames.nd (pi_list (pv 5)) (blkOk_by (N := nNames) (sc := defScope sNames) (by decide +kernel)) (fun _ _ _ _ _ => pg_name (i := 7) scNames.nd rfl (Or.inl rfl))
            (fun _ _ _ _ _ => pts_one (pt_cmpR op_notIn_seq (pv 7) (pv 2) rfl)) (fun _ _ _ _ _ => pv 7)) pe_int (fun _ _ => rfl)) pa_nil))))))))
      (pss_one (ps_ret (pv 2)))), ?_⟩
    refine ⟨(by show 0 ≤ sizeLine; decide), fun F hF => ?_⟩
    have aF : a ≠ F := ha.ne hF
    refine ⟨_, rfl, _, rfl, by omega, by omega, for_range (lo := 0) (n := (m : Int).toNat) (fun i σ H' => ∃ (xs : List Str) (v3 v4 v5 : Option V), σ = [some (.ref a), some (.int (m : Int)), some (.ref F), v3, v4, v5, none, none] ∧ xs.length = i ∧ (∀ x ∈ xs, IsW x) ∧ xs.Nodup ∧ H' F = some (.lst (xs.map V.str)) ∧ WellAt H' a ∧ SameB a H H')
      ⟨[], none, none, none, rfl, rfl, (fun _ h => nomatch h), List.nodup_nil, upd_same, ha.new hF, SameB.of (same_new hF)⟩ ?_ ?_⟩
    · rintro i σ H1 hi ⟨xs, v3, v4, v5, rfl, hl, hw, hnd, hx, w1, s1⟩
      have hl8 : xs.length ≤ 8 := by omega
      have hz : sizeLine = 16777216 := by decide
      refine ⟨_, rfl, a, rfl, w1, fun y H2 hy w2 s2 => ?_⟩
      have hx2 : H2 F = some (.lst (xs.map V.str)) := s2 F _ hx aF.symm
      refine ⟨fun σ' H' => ∃ (y : Str) (v3 v5 : Option V), σ' = [some (.ref a), some (.int (m : Int)), some (.ref F), v3, some (.str y), v5, none, none] ∧ IsW y ∧ H' F = some (.lst (xs.map V.str)) ∧ WellAt H' a ∧ SameB a H H', ?_, ?_⟩
      · refine ⟨_, rfl, (by show 0 ≤ sizeLine; decide), fun t ht => ?_⟩
        have Ft : F ≠ t := ne_of_none hx2 ht
        refine ⟨.list (xs.map PyData.str), .list [], .lst (SqL.of (by rw [upd_ne Ft]; exact hx2)) (dp_strs xs), .lst (SqL.of upd_same) .nil, shaped_strs (fun x h => strOk_W (hw x h)), by decide +kernel, _, rfl, ?_⟩
        have s3 : SameB a H (upd H2 t (.lst [])) := (s1.trans s2).trans (SameB.of (same_new ht))
        have w3 : WellAt (upd H2 t (.lst [])) a := w2.new ht
        have hx3 : (upd H2 t (.lst [])) F = some (.lst (xs.map V.str)) := by rw [upd_ne Ft]; exact hx2
        refine ite2 (fun c => ?_) (fun _ => ?_)
        · refine ⟨_, rfl, a, 3, rfl, w3, by decide, by decide, fun r H4 r0 r3 w4 s4 => ⟨rfl, _, rfl, ite2 (fun _ => ?_) (fun _ => ?_)⟩⟩
          · have hx4 : H4 F = some (.lst (xs.map V.str)) := s4 F _ hx3 aF.symm
            have hp : 0 < xs.length := by
              rcases Nat.eq_zero_or_pos xs.length with e | e
              · have e2 := List.length_eq_zero_iff.mp e
                subst e2
                exact absurd c (by decide +kernel)
              · exact e
            refine ⟨_, rfl, _, rfl, _, rfl, F, _, rfl, .inl (SqL.of hx4), a, _, rfl, w4, (by rw [List.length_map]; omega), (by rw [List.length_map]; omega), fun r2 H5 r20 r21 w5 s5 => ?_⟩
            obtain ⟨v, hv, hm⟩ := get_lt (l := xs.map V.str) r20 r21
            obtain ⟨z, hzm, rfl⟩ := List.mem_map.mp hm
            exact ⟨F, _, r2, .str z, rfl, rfl, SqL.of (s5 F _ hx4 aF.symm), hv, z, _, _, rfl, hw z hzm, s5 F _ hx4 aF.symm, w5, (s3.trans s4).trans s5⟩
          · exact ⟨y, _, _, rfl, hy, s4 F _ hx3 aF.symm, w4, s3.trans s4⟩
        · exact iteF ⟨y, _, _, rfl, hy, hx3, w3, s3⟩
      · rintro σ H3 ⟨y, v3, v5, rfl, hy, hx3, w3, s3⟩
        refine ⟨_, rfl, (by show 1 ≤ sizeLine; decide), fun l hl2 => ?_⟩
        refine ⟨_, rfl, fun D hD => lc_it walk_str (fun i H' => H' = upd (upd H3 l (.lst [.str y])) D (.lst ((letters.cps.toList.take i).map fun c => V.str (stem y ++ (⟨#[c]⟩ : Str))))) rfl (fun _ _ _ _ => trivial) ?_ ?_⟩
        · rintro i v H4 H5 hi rfl ⟨rfl, c, hc, rfl⟩
          have hi26 : i < 26 := by
            have e : (Str.cps "abcdefghijklmnopqrstuvwxyz").size = 26 := by decide +kernel
            omega
          have hst : (stem y).length ≤ 8 := Nat.le_trans (cutS_length y none (some 7)) hy.2.2
          refine ⟨rfl, yes (iteT ⟨_, rfl, _, rfl, y, rfl, (by have := hy.2.2; omega), _, rfl, _, _, rfl, rfl, ?_, _, upd_same, ?_, ?_⟩)⟩
          · show (stem y).length + 1 ≤ sizeLine
            omega
          · rw [List.length_map, List.length_take]
            omega
          · rw [upd_upd]
            congr 2
            rw [take_more (l := letters.cps.toList) (x := c) (by rw [← hc]; exact Array.getElem?_toList ..), List.map_append]
            rfl
        · rintro H4 rfl
          have lD : l ≠ D := ne_of_none upd_same hD
          have e26 : (letters.cps.toList.take (Str.cps "abcdefghijklmnopqrstuvwxyz").size) = letters.cps.toList := List.take_of_length_le (by rw [letters_len]; decide +kernel)
          rw [e26]
          refine ⟨l, D, _, _, rfl, rfl, (by rw [upd_ne lD]; exact upd_same), upd_same, (by rw [List.length_map, letters_len]; show 1 + 26 ≤ sizeLine; decide), fun p hp => ?_⟩
          have hxl : (upd H3 l (.lst [.str y])) F = some (.lst (xs.map V.str)) := same_new hl2 _ _ hx3
          have hxD := same_new (o := .lst (letters.cps.toList.map fun c => V.str (stem y ++ (⟨#[c]⟩ : Str)))) hD _ _ hxl
          have hxp := same_new (o := .lst ([V.str y] ++ letters.cps.toList.map fun c => V.str (stem y ++ (⟨#[c]⟩ : Str)))) hp _ _ hxD
          have w4 := ((w3.new (o := .lst [.str y]) hl2).new (o := .lst (letters.cps.toList.map fun c => V.str (stem y ++ (⟨#[c]⟩ : Str)))) hD).new (o := .lst ([V.str y] ++ letters.cps.toList.map fun c => V.str (stem y ++ (⟨#[c]⟩ : Str)))) hp
          have s4 : SameB a H _ := ((s3.trans (SameB.of (same_new (o := .lst [.str y]) hl2))).trans (SameB.of (same_new (o := .lst (letters.cps.toList.map fun c => V.str (stem y ++ (⟨#[c]⟩ : Str)))) hD))).trans (SameB.of (same_new (o := .lst ([V.str y] ++ letters.cps.toList.map fun c => V.str (stem y ++ (⟨#[c]⟩ : Str)))) hp))
          have ec : [V.str y] ++ letters.cps.toList.map (fun c => V.str (stem y ++ (⟨#[c]⟩ : Str))) = (cands y).map V.str := by
            unfold cands
            rw [List.map_cons, List.map_map]
            rfl
          generalize hH4 : upd (upd (upd H3 l (.lst [.str y])) D (.lst (letters.cps.toList.map fun c => V.str (stem y ++ (⟨#[c]⟩ : Str))))) p (.lst ([V.str y] ++ letters.cps.toList.map fun c => V.str (stem y ++ (⟨#[c]⟩ : Str)))) = H4 at *
          have hp4 : H4 p = some (.lst ((cands y).map V.str)) := by rw [← hH4, upd_same, ec]
          refine ⟨_, rfl, .inl ⟨rfl, _, SqL.of hxp⟩, _, rfl, p, rfl, ⟨_, SqL.of hp4⟩, fun D2 hD2 => lc_it (walk_list (xs := (cands y).map V.str))
            (fun i H' => H' = upd H4 D2 (.lst ((((cands y).take i).filter fun c => !decide (c ∈ xs)).map V.str))) rfl (fun i H' _ e => by rw [e]; exact SqL.of (same_new hD2 _ _ hp4)) ?_ ?_⟩
          · rintro i v H5 H6 hi rfl ⟨rfl, hv⟩
            obtain ⟨z, hz2, rfl⟩ : ∃ z, (cands y)[i]? = some z ∧ v = V.str z := by
              rw [List.getElem?_map] at hv
              cases e : (cands y)[i]? with
              | none => rw [e] at hv; cases hv
              | some z => rw [e] at hv; exact ⟨z, rfl, (Option.some.inj hv).symm⟩
            refine ⟨rfl, _, rfl, _, rfl, F, _, rfl, .inl (SqL.of (same_new hD2 _ _ hxp)), rfl, flat_strs, _, rfl, ?_⟩
            show if (!inV (.str z) (xs.map V.str)) = true then _ else _
            rw [inV_str]
            have et := take_more hz2
            refine ite2 (fun c => ?_) (fun c => ?_)
            · refine ⟨_, rfl, _, upd_same, ?_, ?_⟩
              · have h1 : (((cands y).take i).filter fun c => !decide (c ∈ xs)).length ≤ ((cands y).take i).length := List.length_filter_le _ _
                rw [List.length_map]
                rw [List.length_take] at h1
                have h2 : (cands y).length = 27 := by unfold cands; rw [List.length_cons, List.length_map, letters_len]
                omega
              · rw [upd_upd, et, List.filter_append, List.map_append]
                congr 2
                rw [List.filter_cons, if_pos c]
                rfl
            · rw [et, List.filter_append, List.filter_cons, if_neg c]
              simp
          · rintro H5 rfl
            rw [List.length_map, List.take_length]
            obtain ⟨z, zs, ef, hzc, hzn⟩ := fresh_ne (y := y) hl8
            have ef2 : (cands y).filter (fun c => !decide (c ∈ xs)) = z :: zs := ef
            rw [ef2]
            refine ⟨D2, _, 0, .str z, rfl, rfl, SqL.of upd_same, atI_nat (j := 0) rfl, F, _, _, rfl, rfl, same_new hD2 _ _ hxp, (by rw [List.length_map]; omega), ?_⟩
            refine ⟨xs ++ [z], _, _, _, rfl, by rw [List.length_append, hl]; rfl, ?_, ?_, ?_, ?_, ?_⟩
            · intro x hx
              rcases List.mem_append.mp hx with hx | hx
              · exact hw x hx
              · rw [List.mem_singleton.mp hx]; exact cands_ok hy z hzc
            · refine List.nodup_append.mpr ⟨hnd, by simp, fun x hx u hu => ?_⟩
              rw [List.mem_singleton.mp hu]
              intro e
              exact hzn (e ▸ hx)
            · rw [upd_same, List.map_append]; rfl
            · exact (w4.new hD2).up aF
            · intro b o e hb
              have hbF : b ≠ F := ne_of_none e hF
              rw [upd_ne hbF]
              exact same_new hD2 _ _ (s4 b o e hb)
    · rintro σ H1 ⟨xs, v3, v4, v5, rfl, hl, hw, hnd, hx, w1, s1⟩
      exact ⟨_, rfl, k F xs H1 (by rw [hl]; rfl) hw hnd hF hx w1 s1⟩
end
end KP
namespace KP
open PySem L2 KM
abbrev sCoins : Stmt := top 40
abbrev sTold : Stmt := top 41
def spCoins : Sp := fun vs H Q _ => ∃ a : Addr, vs = [.ref a] ∧ WellAt H a ∧ ∀ c H', Coin c → WellAt H' a → SameB a H H' → Q (.int c) H'
def spToldT : Sp := fun vs H Q _ => ∃ a : Addr, vs = [.ref a] ∧ WellAt H a ∧ ∀ (q : Addr) (e : En) (H' : Hp), e.ok → H q = none → H' q = some (.tup e.tup) → WellAt H' a → SameB a H H' → Q (.ref q) H'
theorem free_of {a q : Addr} {H H1 : Hp} (w : WellAt H1 a) (s : SameB a H H1) (h : H1 q = none) : H q = none := by
  cases e : H q with
  | none => rfl
  | some o =>
    by_cases hq : q = a
    · subst hq
      obtain ⟨x, y, z, e1⟩ := w
      rw [h] at e1; cases e1
    · have := s q o e hq
      rw [h] at this; cases this
section
variable {P : Program} {w : World} {K : PySem.W.Frag} {mg : Str → Option Value} {base : Heap}
theorem scCoins : FnScope ["_law_well_here"] ["_law_well_here"] (defScope sCoins) := ⟨rfl, rfl, rfl, by decide +kernel, rfl, by decide +kernel, by decide +kernel⟩
theorem c_coins (Dr : Cal P w K mg base 1 "_law_draw" spDraw) (D : DefT K mg "_law_coins" sCoins ["_law_well_here"]) : Cal P w K mg base 2 "_law_coins" spCoins := by
  refine cal D scCoins (fun vs H Q E h => ?_) (fun f cdv A outer s H vs Q E hr h => ?_)
  · obtain ⟨a, rfl, _⟩ := h
    rfl
  · obtain ⟨a, rfl, ha, k⟩ := h
    refine ⟨_, pss_one (ps_ret (pe_ix ix_list (pe_lst (pa_cons pe_int (pa_cons (pe_op op_pow pe_int pe_int) (pa_cons (pe_op op_add pe_int (pe_cl Dr hr (by decide) (by rfl) (pa_cons (pv 0) (pa_cons (pe_op op_pow pe_int pe_int) pa_nil))))
      (pa_cons (pe_op op_add pe_int (pe_cl Dr hr (by decide) (by rfl) (pa_cons (pv 0) (pa_cons pe_int pa_nil)))) pa_nil))))) (pe_cl Dr hr (by decide) (by rfl) (pa_cons (pv 0) (pa_cons pe_int pa_nil))) (fun _ _ => rfl))), ?_⟩
    refine ⟨_, _, rfl, rfl, ⟨by decide, by decide, by decide⟩, _, rfl, _, _, rfl, rfl, ⟨by decide, by decide, by decide⟩, a, _, rfl, ha, by decide, by decide, fun r1 H1 r10 r11 w1 s1 => ?_⟩
    refine ⟨_, _, rfl, rfl, _, rfl, a, 50, rfl, w1, by decide, by decide, fun r2 H2 r20 r21 w2 s2 => ⟨_, _, rfl, rfl, (by show 4 ≤ sizeLine; decide), fun l hl => ?_⟩⟩
    refine ⟨_, rfl, a, 4, rfl, w2.new hl, by decide, by decide, fun r3 H3 r30 r31 w3 s3 => ?_⟩
    have hl3 := s3 l _ upd_same (w2.ne hl).symm
    have r11' : r1 < 1000000000000 := r11
    have s4 : SameB a H H3 := ((s1.trans s2).trans (SameB.of (same_new hl))).trans s3
    rcases (by omega : r3 = 0 ∨ r3 = 1 ∨ r3 = 2 ∨ r3 = 3) with rfl | rfl | rfl | rfl
    · exact ⟨l, _, _, _, rfl, rfl, SqL.of hl3, rfl, k 1 H3 ⟨by decide, by decide⟩ w3 s4⟩
    · exact ⟨l, _, _, _, rfl, rfl, SqL.of hl3, rfl, k 1000000000000 H3 ⟨by decide, by decide⟩ w3 s4⟩
    · exact ⟨l, _, _, _, rfl, rfl, SqL.of hl3, rfl, k (1 + r1) H3 ⟨by omega, by omega⟩ w3 s4⟩
    · exact ⟨l, _, _, _, rfl, rfl, SqL.of hl3, rfl, k (1 + r2) H3 ⟨by omega, by omega⟩ w3 s4⟩
def kinds7 : List Str := ["give", "hold", "move", "spend", "promise", "lessen", "out"]
abbrev nTold : List Str := ["_law_well_here", "_law_kind", "_law_one", "_law_other", "_law_coins_here", "_law_note"]
theorem scToldT : FnScope nTold ["_law_well_here"] (defScope sTold) := ⟨rfl, rfl, rfl, by decide +kernel, rfl, by decide +kernel, by decide +kernel⟩
theorem c_told (Dr : Cal P w K mg base 1 "_law_draw" spDraw) (Nm : Cal P w K mg base 2 "_law_name" spName) (Ns : Cal P w K mg base 3 "_law_names" spNames) (Cn : Cal P w K mg base 2 "_law_coins" spCoins) (D : DefT K mg "_law_told" sTold ["_law_well_here"]) :
    Cal P w K mg base 4 "_law_told" spToldT := by
  refine cal D scToldT (fun vs H Q E h => ?_) (fun f cdv A outer s H vs Q E hr h => ?_)
  · obtain ⟨a, rfl, _⟩ := h
    rfl
  · obtain ⟨a, rfl, ha, k⟩ := h
    refine ⟨_, pss_cons (ps_set (i := 1) scToldT.nd rfl (Or.inl rfl) (pe_ix ix_list (pe_lst (pa_cons pe_str (pa_cons pe_str (pa_cons pe_str (pa_cons pe_str (pa_cons pe_str (pa_cons pe_str (pa_cons pe_str pa_nil)))))))) (pe_cl Dr hr (by decide) (by rfl) (pa_cons (pv 0) (pa_cons pe_int pa_nil))) (fun _ _ => rfl)))
      (pss_cons (ps_asg (pe_cl Ns hr (by decide) (by rfl) (pa_cons (pv 0) (pa_cons pe_int pa_nil))) (pg_unl rfl (pgs_cons (pg_name (i := 2) scToldT.nd rfl (Or.inl rfl)) (pgs_cons (pg_name (i := 3) scToldT.nd rfl (Or.inl rfl)) pgs_nil))))
      (pss_cons (ps_set (i := 4) scToldT.nd rfl (Or.inl rfl) (pe_cl Cn hr (by decide) (by rfl) (pa_cons (pv 0) pa_nil)))
      (pss_cons (ps_set (i := 5) scToldT.nd rfl (Or.inl rfl) (pe_ix ix_list (pe_lst (pa_cons pe_str (pa_cons (pe_cl Nm hr (by decide) (by rfl) (pa_cons (pv 0) pa_nil)) (pa_cons (pv 2) (pa_cons (pv 3) pa_nil))))) (pe_cl Dr hr (by decide) (by rfl) (pa_cons (pv 0) (pa_cons pe_int pa_nil))) (fun _ _ => rfl)))
      (pss_cons (ps_if (pt_cmpR op_eq (pv 1) pe_str (nomark _)) (pss_one (ps_ret (pe_tup (pa_cons (pv 1) (pa_cons (pv 2) (pa_cons (pv 4) (pa_cons (pe_ix ix_list (pe_lst (pa_cons pe_int (pa_cons pe_int (pa_cons (pe_op op_add pe_int (pe_cl Dr hr (by decide) (by rfl) (pa_cons (pv 0) (pa_cons pe_int pa_nil)))) pa_nil))))
          (pe_cl Dr hr (by decide) (by rfl) (pa_cons (pv 0) (pa_cons pe_int pa_nil))) (fun _ _ => rfl)) (pa_cons (pv 5) pa_nil)))))))) pss_nil)
      (pss_cons (ps_if (pt_cmpR op_eq (pv 1) pe_str (nomark _)) (pss_one (ps_ret (pe_tup (pa_cons (pv 1) (pa_cons (pv 2) (pa_cons (pv 3) (pa_cons (pv 4) (pa_cons (pv 5) pa_nil)))))))) pss_nil)
      (pss_cons (ps_if (pt_cmpR op_eq (pv 1) pe_str (nomark _)) (pss_one (ps_ret (pe_tup (pa_cons (pv 1) (pa_cons (pe_ix ix_list (pe_lst (pa_cons (pv 3) (pa_cons (pv 2) pa_nil))) (pe_cl Dr hr (by decide) (by rfl) (pa_cons (pv 0) (pa_cons pe_int pa_nil))) (fun _ _ => rfl)) (pa_cons (pv 2) (pa_cons (pv 4) (pa_cons (pv 5) pa_nil)))))))) pss_nil)
      (pss_one (ps_ret (pe_tup (pa_cons (pv 1) (pa_cons (pv 2) (pa_cons (pv 4) (pa_cons (pv 5) pa_nil))))))))))))), ?_⟩
    refine ⟨(by show 7 ≤ sizeLine; decide), fun l hl => ⟨_, rfl, a, 7, rfl, ha.new hl, by decide, by decide, fun r1 H1 r10 r11 w1 s1 => ?_⟩⟩
    have hl1 := s1 l _ upd_same (ha.ne hl).symm
    have s1' : SameB a H H1 := (SameB.of (same_new hl)).trans s1
    obtain ⟨v, hv, hm⟩ := get_lt (l := kinds7.map V.str) r10 r11
    obtain ⟨kd, hkd, rfl⟩ := List.mem_map.mp hm
    refine ⟨l, _, r1, .str kd, rfl, rfl, SqL.of hl1, hv, ?_⟩
    refine ⟨_, rfl, a, 2, rfl, w1, by decide, fun p xs H2 xl xw xn np hp w2 s2 => ?_⟩
    obtain ⟨x, y, rfl⟩ : ∃ x y, xs = [x, y] := by
      match xs, xl with
      | [x, y], _ => exact ⟨x, y, rfl⟩
    have hx : IsW x := xw x (by simp)
    have hy : IsW y := xw y (by simp)
    have hxy : x ≠ y := fun e => by subst e; simp at xn
    refine ⟨p, _, rfl, SqL.of hp, rfl, _, _, rfl, _, _, rfl, rfl, ?_⟩
    refine ⟨_, rfl, a, rfl, w2, fun c H3 hc w3 s3 => ?_⟩
    refine ⟨_, rfl, a, rfl, w3, fun nm H4 hnm w4 s4 => ⟨_, rfl, _, rfl, (by show 4 ≤ sizeLine; decide), fun l2 hl2 => ?_⟩⟩
    refine ⟨_, rfl, a, 4, rfl, w4.new hl2, by decide, by decide, fun r2 H5 r20 r21 w5 s5 => ?_⟩
    have hl5 := s5 l2 _ upd_same (w4.ne hl2).symm
    obtain ⟨v, hv2, hm2⟩ := get_lt (l := ([("" : Str), nm, x, y]).map V.str) r20 r21
    obtain ⟨n, hn, rfl⟩ := List.mem_map.mp hm2
    have hN : IsN n := by
      simp at hn
      rcases hn with rfl | rfl | rfl | rfl
      · exact Or.inl rfl
      · exact Or.inr hnm
      · exact Or.inr hx
      · exact Or.inr hy
    refine ⟨l2, _, r2, .str n, rfl, rfl, SqL.of hl5, hv2, ?_⟩
    have s5' : SameB a H H5 := ((((s1'.trans s2).trans s3).trans s4).trans (SameB.of (same_new hl2))).trans s5
    have fin : ∀ (e : En) (H6 : Hp), e.ok → WellAt H6 a → SameB a H H6 → ∀ q, H6 q = none → Q (.ref q) (upd H6 q (.tup e.tup)) := fun e H6 he w6 s6 q hq => k q e _ he (free_of w6 s6 hq) upd_same (w6.new hq) (s6.trans (SameB.of (same_new hq)))
    refine ⟨_, rfl, rfl, _, rfl, ite2 (fun c1 => ?_) (fun c1 => ?_)⟩
    · have ek : kd = "hold" := by have := of_decide_eq_true c1; injection this
      subst ek
      refine ⟨_, rfl, _, rfl, _, rfl, _, rfl, a, 30, rfl, w5, by decide, by decide, fun r3 H6 r30 r31 w6 s6 => ⟨_, _, rfl, rfl, (by show 3 ≤ sizeLine; decide), fun l3 hl3 => ?_⟩⟩
      refine ⟨_, rfl, a, 3, rfl, w6.new hl3, by decide, by decide, fun r4 H7 r40 r41 w7 s7 => ?_⟩
      have hl7 := s7 l3 _ upd_same (w6.ne hl3).symm
      have s7' : SameB a H H7 := ((s5'.trans s6).trans (SameB.of (same_new hl3))).trans s7
      rcases (by omega : r4 = 0 ∨ r4 = 1 ∨ r4 = 2) with rfl | rfl | rfl
      · exact ⟨l3, _, _, _, rfl, rfl, SqL.of hl7, rfl, _, rfl, (by show 5 ≤ sizeLine; decide), fin (.hold x c 2 n) H7 ⟨hx, hc, ⟨by decide, by decide⟩, hN⟩ w7 s7'⟩
      · exact ⟨l3, _, _, _, rfl, rfl, SqL.of hl7, rfl, _, rfl, (by show 5 ≤ sizeLine; decide), fin (.hold x c 31 n) H7 ⟨hx, hc, ⟨by decide, by decide⟩, hN⟩ w7 s7'⟩
      · exact ⟨l3, _, _, _, rfl, rfl, SqL.of hl7, rfl, _, rfl, (by show 5 ≤ sizeLine; decide), fin (.hold x c (2 + r3) n) H7 ⟨hx, hc, ⟨by omega, by omega⟩, hN⟩ w7 s7'⟩
    · refine ⟨_, rfl, rfl, _, rfl, ite2 (fun c2 => ?_) (fun c2 => ?_)⟩
      · have ek : kd = "move" := by have := of_decide_eq_true c2; injection this
        subst ek
        exact ⟨_, rfl, _, rfl, _, rfl, _, rfl, _, rfl, (by show 5 ≤ sizeLine; decide), fin (.move x y c n) H5 ⟨hx, hy, hxy, hc, hN⟩ w5 s5'⟩
      · refine ⟨_, rfl, rfl, _, rfl, ite2 (fun c3 => ?_) (fun c3 => ?_)⟩
        · have ek : kd = "promise" := by have := of_decide_eq_true c3; injection this
          subst ek
          refine ⟨_, rfl, _, rfl, _, rfl, (by show 2 ≤ sizeLine; decide), fun l3 hl3 => ?_⟩
          refine ⟨_, rfl, a, 2, rfl, w5.new hl3, by decide, by decide, fun r4 H7 r40 r41 w7 s7 => ?_⟩
          have hl7 := s7 l3 _ upd_same (w5.ne hl3).symm
          have s7' : SameB a H H7 := (s5'.trans (SameB.of (same_new hl3))).trans s7
          rcases (by omega : r4 = 0 ∨ r4 = 1) with rfl | rfl
          · exact ⟨l3, _, _, _, rfl, rfl, SqL.of hl7, rfl, _, rfl, _, rfl, _, rfl, (by show 5 ≤ sizeLine; decide), fin (.promise y x c n) H7 ⟨hy, hx, hc, hN⟩ w7 s7'⟩
          · exact ⟨l3, _, _, _, rfl, rfl, SqL.of hl7, rfl, _, rfl, _, rfl, _, rfl, (by show 5 ≤ sizeLine; decide), fin (.promise x x c n) H7 ⟨hx, hx, hc, hN⟩ w7 s7'⟩
        · refine ⟨_, rfl, _, rfl, _, rfl, _, rfl, (by show 4 ≤ sizeLine; decide), ?_⟩
          simp only [kinds7, List.mem_cons, List.not_mem_nil, or_false] at hkd
          rcases hkd with rfl | rfl | rfl | rfl | rfl | rfl | rfl
          · exact fin (.give x c n) H5 ⟨hx, hc, hN⟩ w5 s5'
          · exact absurd (decide_eq_true rfl) c1
          · exact absurd (decide_eq_true rfl) c2
          · exact fin (.spend x c n) H5 ⟨hx, hc, hN⟩ w5 s5'
          · exact absurd (decide_eq_true rfl) c3
          · exact fin (.lessen x c n) H5 ⟨hx, hc, hN⟩ w5 s5'
          · exact fin (.out x c n) H5 ⟨hx, hc, hN⟩ w5 s5'
end
end KP
namespace KP
open PySem L2 KM
/-! ### one of several readings -/
theorem pe_alt {X : Cx} {e : Expr} {t u : TE} (h : PE X e t) (g : PE X e u) : PE X e (fun σ H Q => t σ H Q ∨ u σ H Q) := ⟨fun pins s σ H Q I hw => by
  rcases hw with hw | hw
  · exact h.run pins s σ H Q I hw
  · exact g.run pins s σ H Q I hw⟩
def kindOf (k : Nat) : Str := kinds7.getD k ""
theorem kind_of (e : En) : e.kind = kindOf e.k := by cases e <;> rfl
theorem k_lt (e : En) : e.k < 7 := by cases e <;> simp [En.k]
def bits (k : Nat) : List Bool := kinds7.map fun x => decide (V.str x = V.str (kindOf k))
theorem bits_is : ∀ k < 7, (List.range 7).map (fun j => decide (k = j)) = bits k := by decide +kernel
/-! ### entries as data -/
def okd (v : V) : Prop := (∃ x, v = .str x ∧ PyData.strOk x = true) ∨ ∃ i, v = .int i
def dat : V → PyData
  | .str x => .str x
  | .int i => .int i
  | _ => .none
theorem dp_flat {K : PySem.W.Frag} {H : Hp} : ∀ {vs : List V}, (∀ v ∈ vs, okd v) → DpAll K H vs (vs.map dat)
  | [], _ => .nil
  | v :: vs, h => by
    refine .cons ?_ (dp_flat fun u hu => h u (List.mem_cons_of_mem _ hu))
    rcases h v List.mem_cons_self with ⟨x, rfl, _⟩ | ⟨i, rfl⟩
    · exact .str x
    · exact .int i
theorem lay_flat : ∀ {vs : List V}, (∀ v ∈ vs, okd v) → PyData.canLayAll0 (vs.map dat) = true ∧ PyData.depthAll (vs.map dat) = 0
  | [], _ => ⟨rfl, rfl⟩
  | v :: vs, h => by
    obtain ⟨h1, h2⟩ := lay_flat (vs := vs) fun u hu => h u (List.mem_cons_of_mem _ hu)
    have hv : (dat v).canLay0 = true ∧ (dat v).depth = 0 := by
      rcases h v List.mem_cons_self with ⟨x, rfl, hx⟩ | ⟨i, rfl⟩
      · exact ⟨hx, rfl⟩
      · exact ⟨rfl, rfl⟩
    refine ⟨?_, ?_⟩
    · show ((dat v).canLay0 && PyData.canLayAll0 (vs.map dat)) = true
      rw [hv.1, h1]; rfl
    · show max (dat v).depth (PyData.depthAll (vs.map dat)) = 0
      rw [hv.2, h2]; rfl
theorem shaped_tup {vs : List V} (h : ∀ v ∈ vs, okd v) : SeqAt.shaped (.tuple (vs.map dat)) = true := by
  obtain ⟨h1, h2⟩ := lay_flat h
  have e1 : (PyData.tuple (vs.map dat)).canLay0 = true := h1
  have e2 : (PyData.tuple (vs.map dat)).depth ≤ 64 := by
    show PyData.depthAll (vs.map dat) + 1 ≤ 64
    rw [h2]; decide
  unfold SeqAt.shaped
  rw [e1, decide_eq_true e2]; rfl
theorem eqv_self {d : PyData} (h : SeqAt.shaped d = true) : PyData.eqv d d = true := SeqAt.eqv_refl d (SeqAt.canLay_of_shaped h)
theorem strOk_N {x : Str} (h : IsN x) : PyData.strOk x = true := by
  rcases h with rfl | h
  · decide +kernel
  · exact strOk_W h
theorem okd_N {x : Str} (h : IsN x) : okd (.str x) := .inl ⟨x, rfl, strOk_N h⟩
theorem okd_W {x : Str} (h : IsW x) : okd (.str x) := .inl ⟨x, rfl, strOk_W h⟩
theorem okd_I {i : Int} : okd (.int i) := .inr ⟨i, rfl⟩
theorem kinds_ok : ∀ k < 7, PyData.strOk (kindOf k) = true := by decide +kernel
theorem tup_okd {e : En} (h : e.ok) : ∀ v ∈ e.tup, okd v := by
  intro v hv
  rcases List.mem_cons.mp hv with rfl | hv
  · exact .inl ⟨_, rfl, by rw [kind_of]; exact kinds_ok _ (k_lt e)⟩
  · cases e with
    | give x0 x1 x2 =>
      obtain ⟨hw1, hc, hn⟩ := h
      simp only [En.args, List.mem_cons, List.not_mem_nil, or_false] at hv
      rcases hv with rfl | rfl | rfl
      · exact okd_W hw1
      · exact okd_I
      · exact okd_N hn
    | hold x0 x1 x2 x3 =>
      obtain ⟨hw1, hc, hu, hn⟩ := h
      simp only [En.args, List.mem_cons, List.not_mem_nil, or_false] at hv
      rcases hv with rfl | rfl | rfl | rfl
      · exact okd_W hw1
      · exact okd_I
      · exact okd_I
      · exact okd_N hn
    | move x0 x1 x2 x3 =>
      obtain ⟨hw1, hw2, hne, hc, hn⟩ := h
      simp only [En.args, List.mem_cons, List.not_mem_nil, or_false] at hv
      rcases hv with rfl | rfl | rfl | rfl
      · exact okd_W hw1
      · exact okd_W hw2
      · exact okd_I
      · exact okd_N hn
    | spend x0 x1 x2 =>
      obtain ⟨hw1, hc, hn⟩ := h
      simp only [En.args, List.mem_cons, List.not_mem_nil, or_false] at hv
      rcases hv with rfl | rfl | rfl
      · exact okd_W hw1
      · exact okd_I
      · exact okd_N hn
    | promise x0 x1 x2 x3 =>
      obtain ⟨hw1, hw2, hc, hn⟩ := h
      simp only [En.args, List.mem_cons, List.not_mem_nil, or_false] at hv
      rcases hv with rfl | rfl | rfl | rfl
      · exact okd_W hw1
      · exact okd_W hw2
      · exact okd_I
      · exact okd_N hn
    | lessen x0 x1 x2 =>
      obtain ⟨hw1, hc, hn⟩ := h
      simp only [En.args, List.mem_cons, List.not_mem_nil, or_false] at hv
      rcases hv with rfl | rfl | rfl
      · exact okd_W hw1
      · exact okd_I
      · exact okd_N hn
    | out x0 x1 x2 =>
      obtain ⟨hw1, hc, hn⟩ := h
      simp only [En.args, List.mem_cons, List.not_mem_nil, or_false] at hv
      rcases hv with rfl | rfl | rfl
      · exact okd_W hw1
      · exact okd_I
      · exact okd_N hn
theorem dp_bools {K : PySem.W.Frag} {H : Hp} : ∀ (bs : List Bool), DpAll K H (bs.map V.bl) (bs.map PyData.bool)
  | [] => .nil
  | b :: bs => .cons (.bl b) (dp_bools bs)
theorem bools_shaped : ∀ k < 7, SeqAt.shaped (.list ((bits k).map PyData.bool)) = true := by decide +kernel
/-! ### what the law asks of classes -/
structure Kits (K : PySem.W.Frag) (mg : Str → Option Value) (C : Nat → Addr) (E : Addr) : Prop where
  cl : ∀ k < 7, Cls K (C k)
  ha : ∀ k < 7, PySem.W.findIn K (.ref (C k)) "__class__" = some (some (.builtin "object.__class__"))
  hn : PySem.W.specialIn K (.builtin "object.__class__") "__get__" = some (some (.builtin "getset_descriptor.__get__"))
  htk : PySem.W.takesIn K (.builtin "object.__class__") = some true
  hm : ∀ k < 7, PySem.W.mroIn K (C k) (.type "object") = some true
  kit : ∀ k < 7, ∀ j < 7, PySem.W.kitOne K (.ref (C k)) (.ref (C j)) = some (decide (k = j))
  kitE : ∀ k < 7, PySem.W.kitOne K (.ref (C k)) (.ref E) = some true
  mgE : mg "Entry" = some (.ref E)
  nF : ∀ e : En, ∀ f ∈ e.fs.map Prod.fst, NoAttr K (C e.k) f
  m0 : mg "Give" = some (.ref (C 0))
  m1 : mg "Hold" = some (.ref (C 1))
  m2 : mg "Move" = some (.ref (C 2))
  m3 : mg "Spend" = some (.ref (C 3))
  m4 : mg "Promise" = some (.ref (C 4))
  m5 : mg "Lessen" = some (.ref (C 5))
  m6 : mg "Out" = some (.ref (C 6))
abbrev sKinds : Stmt := top 43
abbrev sFields : Stmt := top 44
abbrev sIs : Stmt := top 45
abbrev sLaw : Stmt := top 53
def spKinds (C : Nat → Addr) : Sp := fun vs H Q _ => ∃ (p : Addr) (e : En), vs = [.ref p] ∧ EntAt C H p e ∧ ∀ q H', Same H H' → H q = none → H' q = some (.lst ((bits e.k).map V.bl)) → Q (.ref q) H'
def spFields (C : Nat → Addr) : Sp := fun vs H Q _ => ∃ (p : Addr) (e : En), vs = [.ref p, .str e.kind] ∧ EntAt C H p e ∧ ∀ q, H q = none → Q (.ref q) (upd H q (.tup e.tup))
def spIs (C : Nat → Addr) : Sp := fun vs H Q _ => ∃ (p t : Addr) (e : En), vs = [.ref p, .ref t] ∧ EntAt C H p e ∧ H t = some (.tup e.tup) ∧ e.ok ∧ ∀ H', Same H H' → Q (.bl true) H'
section
variable {P : Program} {w : World} {K : PySem.W.Frag} {mg : Str → Option Value} {base : Heap} {C : Nat → Addr} {E : Addr}
theorem Kits.ty (T : Kits K mg C E) {H : Hp} {p : Addr} {e : En} (h : EntAt C H p e) : TyX K H (.ref p) (.ref (C e.k)) := by
  obtain ⟨dx, h⟩ := h
  exact .base (.ins h (T.cl _ (k_lt e)) (T.ha _ (k_lt e)) T.hn T.htk (T.hm _ (k_lt e)))
theorem scKinds : FnScope ["_law_entry", "_law_found"] ["_law_entry"] (defScope sKinds) := ⟨rfl, rfl, rfl, by decide +kernel, rfl, by decide +kernel, by decide +kernel⟩
theorem EntAt.same {H H' : Hp} {p : Addr} {e : En} (h : EntAt C H p e) (s : Same H H') : EntAt C H' p e := by
  obtain ⟨dx, h⟩ := h
  exact ⟨dx, s _ _ h⟩
theorem c_kinds (B : Base K mg) (T : Kits K mg C E) (D : DefT K mg "_law_kinds" sKinds ["_law_entry"]) : Cal P w K mg base 1 "_law_kinds" (spKinds C) := by
  refine cal D scKinds (fun vs H Q E h => ?_) (fun f cdv A outer s H vs Q E hr h => ?_)
  · obtain ⟨p, e, rfl, _⟩ := h
    rfl
  · obtain ⟨p, e, rfl, he, k⟩ := h
    refine ⟨_, pss_cons (ps_set (i := 1) scKinds.nd rfl (Or.inl rfl) (pe_lst (pa_cons (pe_callB call_isi (by rfl) B.isi (by decide +kernel) (pa_cons (pv 0) (pa_cons (pe_glob (v := .ref (C 0)) rfl T.m0 rfl) pa_nil))) (pa_cons (pe_callB call_isi (by rfl) B.isi (by decide +kernel) (pa_cons (pv 0) (pa_cons (pe_glob (v := .ref (C 1)) rfl T.m1 rfl) pa_nil))) (pa_cons (pe_callB call_isi (by rfl) B.isi (by decide +kernel) (pa_cons (pv 0) (pa_cons (pe_glob (v := .ref (C 2)) rfl T.m2 rfl) pa_nil))) (pa_cons (pe_callB call_isi (by rfl) B.isi (by decide +kernel) (pa_cons (pv 0) (pa_cons (pe_glob (v := .ref (C 3)) rfl T.m3 rfl) pa_nil))) pa_nil))))))
      (pss_one (ps_ret (pe_op op_cat (pv 1) (pe_lst (pa_cons (pe_callB call_isi (by rfl) B.isi (by decide +kernel) (pa_cons (pv 0) (pa_cons (pe_glob (v := .ref (C 4)) rfl T.m4 rfl) pa_nil))) (pa_cons (pe_callB call_isi (by rfl) B.isi (by decide +kernel) (pa_cons (pv 0) (pa_cons (pe_glob (v := .ref (C 5)) rfl T.m5 rfl) pa_nil))) (pa_cons (pe_callB call_isi (by rfl) B.isi (by decide +kernel) (pa_cons (pv 0) (pa_cons (pe_glob (v := .ref (C 6)) rfl T.m6 rfl) pa_nil))) pa_nil))))))), ?_⟩
    have ty := T.ty he
    have kit := fun j hj => T.kit e.k (k_lt e) j hj
    refine ⟨_, rfl, _, _, _, _, _, rfl, .own _, ty, kit 0 (by decide), _, rfl, _, _, _, _, _, rfl, .own _, ty, kit 1 (by decide), _, rfl, _, _, _, _, _, rfl, .own _, ty, kit 2 (by decide), _, rfl, _, _, _, _, _, rfl, .own _, ty, kit 3 (by decide), (by show 4 ≤ sizeLine; decide), fun l hl => ?_⟩
    have ty2 := T.ty (he.same (same_new (o := .lst [V.bl (decide (e.k = 0)), V.bl (decide (e.k = 1)), V.bl (decide (e.k = 2)), V.bl (decide (e.k = 3))]) hl))
    refine ⟨_, rfl, _, rfl, _, _, _, _, _, rfl, .own _, ty2, kit 4 (by decide), _, rfl, _, _, _, _, _, rfl, .own _, ty2, kit 5 (by decide), _, rfl, _, _, _, _, _, rfl, .own _, ty2, kit 6 (by decide), (by show 3 ≤ sizeLine; decide), fun q hq => ?_⟩
    have lq : l ≠ q := ne_of_none upd_same hq
    refine ⟨l, q, _, _, rfl, rfl, (by rw [upd_ne lq]; exact upd_same), upd_same, (by show 4 + 3 ≤ sizeLine; decide), fun r hr2 => ?_⟩
    have s3 : Same H _ := ((same_new (o := .lst [V.bl (decide (e.k = 0)), V.bl (decide (e.k = 1)), V.bl (decide (e.k = 2)), V.bl (decide (e.k = 3))]) hl).trans (same_new (o := .lst [V.bl (decide (e.k = 4)), V.bl (decide (e.k = 5)), V.bl (decide (e.k = 6))]) hq)).trans (same_new (o := .lst ([V.bl (decide (e.k = 0)), V.bl (decide (e.k = 1)), V.bl (decide (e.k = 2)), V.bl (decide (e.k = 3))] ++ [V.bl (decide (e.k = 4)), V.bl (decide (e.k = 5)), V.bl (decide (e.k = 6))])) hr2)
    refine k r _ s3 (((same_new hl).trans (same_new hq)).free hr2) ?_
    rw [upd_same, ← bits_is _ (k_lt e)]
    rfl
theorem scFields : FnScope ["_law_entry", "_law_kind"] ["_law_entry", "_law_kind"] (defScope sFields) := ⟨rfl, rfl, rfl, by decide +kernel, rfl, by decide +kernel, by decide +kernel⟩
theorem c_fields (T : Kits K mg C E) (D : DefT K mg "_law_fields" sFields ["_law_entry", "_law_kind"]) : Cal P w K mg base 1 "_law_fields" (spFields C) := by
  refine cal D scFields (fun vs H Q E h => ?_) (fun f cdv A outer s H vs Q E hr h => ?_)
  · obtain ⟨p, e, rfl, _⟩ := h
    rfl
  · obtain ⟨p, e, rfl, ⟨dx, hp⟩, k⟩ := h
    refine ⟨_, pss_cons (ps_if (pt_cmpR op_eq (pv 1) pe_str (nomark _)) (pss_one (ps_ret (pe_tup (pa_cons (pv 1) (pa_cons (pe_fld (pv 0) rfl) (pa_cons (pe_fld (pv 0) rfl) (pa_cons (pe_fld (pv 0) rfl) (pa_cons (pe_fld (pv 0) rfl) pa_nil)))))))) pss_nil)
      (pss_cons (ps_if (pt_cmpR op_eq (pv 1) pe_str (nomark _)) (pss_one (ps_ret (pe_tup (pa_cons (pv 1) (pa_cons (pe_fld (pv 0) rfl) (pa_cons (pe_fld (pv 0) rfl) (pa_cons (pe_fld (pv 0) rfl) (pa_cons (pe_fld (pv 0) rfl) pa_nil)))))))) pss_nil)
      (pss_cons (ps_if (pt_cmpR op_eq (pv 1) pe_str (nomark _)) (pss_one (ps_ret (pe_tup (pa_cons (pv 1) (pa_cons (pe_fld (pv 0) rfl) (pa_cons (pe_fld (pv 0) rfl) (pa_cons (pe_fld (pv 0) rfl) (pa_cons (pe_fld (pv 0) rfl) pa_nil)))))))) pss_nil)
      (pss_cons (ps_if (PW.pt (pw_or (pt_cmpR op_eq (pv 1) pe_str (nomark _)) (pw_or1 (pt_cmpR op_eq (pv 1) pe_str (nomark _))))) (pss_one (ps_ret (pe_tup (pa_cons (pv 1) (pa_cons (pe_fld (pv 0) rfl) (pa_cons (pe_fld (pv 0) rfl) (pa_cons (pe_fld (pv 0) rfl) pa_nil))))))) pss_nil)
      (pss_one (ps_ret (pe_tup (pa_cons (pv 1) (pa_cons (pe_fld (pv 0) rfl) (pa_cons (pe_fld (pv 0) rfl) (pa_cons (pe_fld (pv 0) rfl) pa_nil)))))))))), ?_⟩
    have hc := T.cl _ (k_lt e)
    have nF := T.nF e
    cases e with
    | give x0 x1 x2 =>
      refine ⟨_, rfl, rfl, _, rfl, ifF (show ¬ decide (V.str "give" = V.str "hold") = true by decide +kernel) ?_⟩
      refine ⟨_, rfl, rfl, _, rfl, ifF (show ¬ decide (V.str "give" = V.str "move") = true by decide +kernel) ?_⟩
      refine ⟨_, rfl, rfl, _, rfl, ifF (show ¬ decide (V.str "give" = V.str "promise") = true by decide +kernel) ?_⟩
      refine ⟨_, rfl, rfl, _, rfl, ifF (show ¬ decide (V.str "give" = V.str "lessen") = true by decide +kernel) ⟨_, rfl, rfl, _, rfl, ifF (show ¬ decide (V.str "give" = V.str "out") = true by decide +kernel) ?_⟩⟩
      exact ⟨_, rfl, _, rfl, p, _, dx, _, _, rfl, hp, hc, nF "head" (by simp [En.fs]), rfl, _, rfl, p, _, dx, _, _, rfl, hp, hc, nF "coins" (by simp [En.fs]), rfl, _, rfl, p, _, dx, _, _, rfl, hp, hc, nF "note" (by simp [En.fs]), rfl, (by show 4 ≤ sizeLine; decide), fun q hq => k q hq⟩
    | hold x0 x1 x2 x3 =>
      refine ⟨_, rfl, rfl, _, rfl, ifT (decide_eq_true rfl) ?_⟩
      exact ⟨_, rfl, _, rfl, p, _, dx, _, _, rfl, hp, hc, nF "head" (by simp [En.fs]), rfl, _, rfl, p, _, dx, _, _, rfl, hp, hc, nF "coins" (by simp [En.fs]), rfl, _, rfl, p, _, dx, _, _, rfl, hp, hc, nF "until" (by simp [En.fs]), rfl, _, rfl, p, _, dx, _, _, rfl, hp, hc, nF "note" (by simp [En.fs]), rfl, (by show 5 ≤ sizeLine; decide), fun q hq => k q hq⟩
    | move x0 x1 x2 x3 =>
      refine ⟨_, rfl, rfl, _, rfl, ifF (show ¬ decide (V.str "move" = V.str "hold") = true by decide +kernel) ?_⟩
      refine ⟨_, rfl, rfl, _, rfl, ifT (decide_eq_true rfl) ?_⟩
      exact ⟨_, rfl, _, rfl, p, _, dx, _, _, rfl, hp, hc, nF "head" (by simp [En.fs]), rfl, _, rfl, p, _, dx, _, _, rfl, hp, hc, nF "other" (by simp [En.fs]), rfl, _, rfl, p, _, dx, _, _, rfl, hp, hc, nF "coins" (by simp [En.fs]), rfl, _, rfl, p, _, dx, _, _, rfl, hp, hc, nF "note" (by simp [En.fs]), rfl, (by show 5 ≤ sizeLine; decide), fun q hq => k q hq⟩
    | spend x0 x1 x2 =>
      refine ⟨_, rfl, rfl, _, rfl, ifF (show ¬ decide (V.str "spend" = V.str "hold") = true by decide +kernel) ?_⟩
      refine ⟨_, rfl, rfl, _, rfl, ifF (show ¬ decide (V.str "spend" = V.str "move") = true by decide +kernel) ?_⟩
      refine ⟨_, rfl, rfl, _, rfl, ifF (show ¬ decide (V.str "spend" = V.str "promise") = true by decide +kernel) ?_⟩
      refine ⟨_, rfl, rfl, _, rfl, ifF (show ¬ decide (V.str "spend" = V.str "lessen") = true by decide +kernel) ⟨_, rfl, rfl, _, rfl, ifF (show ¬ decide (V.str "spend" = V.str "out") = true by decide +kernel) ?_⟩⟩
      exact ⟨_, rfl, _, rfl, p, _, dx, _, _, rfl, hp, hc, nF "head" (by simp [En.fs]), rfl, _, rfl, p, _, dx, _, _, rfl, hp, hc, nF "coins" (by simp [En.fs]), rfl, _, rfl, p, _, dx, _, _, rfl, hp, hc, nF "note" (by simp [En.fs]), rfl, (by show 4 ≤ sizeLine; decide), fun q hq => k q hq⟩
    | promise x0 x1 x2 x3 =>
      refine ⟨_, rfl, rfl, _, rfl, ifF (show ¬ decide (V.str "promise" = V.str "hold") = true by decide +kernel) ?_⟩
      refine ⟨_, rfl, rfl, _, rfl, ifF (show ¬ decide (V.str "promise" = V.str "move") = true by decide +kernel) ?_⟩
      refine ⟨_, rfl, rfl, _, rfl, ifT (decide_eq_true rfl) ?_⟩
      exact ⟨_, rfl, _, rfl, p, _, dx, _, _, rfl, hp, hc, nF "word" (by simp [En.fs]), rfl, _, rfl, p, _, dx, _, _, rfl, hp, hc, nF "head" (by simp [En.fs]), rfl, _, rfl, p, _, dx, _, _, rfl, hp, hc, nF "coins" (by simp [En.fs]), rfl, _, rfl, p, _, dx, _, _, rfl, hp, hc, nF "note" (by simp [En.fs]), rfl, (by show 5 ≤ sizeLine; decide), fun q hq => k q hq⟩
    | lessen x0 x1 x2 =>
      refine ⟨_, rfl, rfl, _, rfl, ifF (show ¬ decide (V.str "lessen" = V.str "hold") = true by decide +kernel) ?_⟩
      refine ⟨_, rfl, rfl, _, rfl, ifF (show ¬ decide (V.str "lessen" = V.str "move") = true by decide +kernel) ?_⟩
      refine ⟨_, rfl, rfl, _, rfl, ifF (show ¬ decide (V.str "lessen" = V.str "promise") = true by decide +kernel) ?_⟩
      refine ⟨_, rfl, rfl, _, rfl, ifT (decide_eq_true rfl) (iteT ?_)⟩
      exact ⟨_, rfl, _, rfl, p, _, dx, _, _, rfl, hp, hc, nF "word" (by simp [En.fs]), rfl, _, rfl, p, _, dx, _, _, rfl, hp, hc, nF "coins" (by simp [En.fs]), rfl, _, rfl, p, _, dx, _, _, rfl, hp, hc, nF "note" (by simp [En.fs]), rfl, (by show 4 ≤ sizeLine; decide), fun q hq => k q hq⟩
    | out x0 x1 x2 =>
      refine ⟨_, rfl, rfl, _, rfl, ifF (show ¬ decide (V.str "out" = V.str "hold") = true by decide +kernel) ?_⟩
      refine ⟨_, rfl, rfl, _, rfl, ifF (show ¬ decide (V.str "out" = V.str "move") = true by decide +kernel) ?_⟩
      refine ⟨_, rfl, rfl, _, rfl, ifF (show ¬ decide (V.str "out" = V.str "promise") = true by decide +kernel) ?_⟩
      refine ⟨_, rfl, rfl, _, rfl, ifF (show ¬ decide (V.str "out" = V.str "lessen") = true by decide +kernel) ⟨_, rfl, rfl, _, rfl, ifT (decide_eq_true rfl) ?_⟩⟩
      exact ⟨_, rfl, _, rfl, p, _, dx, _, _, rfl, hp, hc, nF "word" (by simp [En.fs]), rfl, _, rfl, p, _, dx, _, _, rfl, hp, hc, nF "coins" (by simp [En.fs]), rfl, _, rfl, p, _, dx, _, _, rfl, hp, hc, nF "note" (by simp [En.fs]), rfl, (by show 4 ≤ sizeLine; decide), fun q hq => k q hq⟩
end
end KP
namespace KP
open PySem L2 KM
section
variable {P : Program} {w : World} {K : PySem.W.Frag} {mg : Str → Option Value} {base : Heap} {C : Nat → Addr} {E : Addr}
/-- e.told(), whichever class -/
def tTolds (C : Nat → Addr) (ta : TE) : TE := fun σ H Q => ta σ H fun x H1 => ∃ p e, x = .ref p ∧ EntAt C H1 p e ∧ ∀ q, H1 q = none → Q (.ref q) (upd H1 q (.tup e.tup))
theorem no_told (e : En) : e.fs.lookup ("told" : Str) = none := by cases e <;> rfl
theorem tup_head (e : En) : atI e.tup 0 = some (.str e.kind) := atI_nat (j := 0) rfl
theorem pe_told {X : Cx} {j : Nat} {o : Expr} {ta : TE} {apos pos : Pos} {pl : Sem Bool} (S : All7 X.prog X.w X.K X.mg X.base C) (hr : Room j X.A) (hk : 1 ≤ j) (he : PE X o ta)
    (ht : eval (.Call (.Attribute o "told" apos) [] [] pos) X.env = (do
      let ov ← eval o X.env
      standAt apos.atName
      let (f, first) ← holding [ov] (getMethod ov "told" pl)
      callWith pos f first (backTo pos (starEach [] X.env)) (backToKw pos (keywordEach [] X.env))) := by rfl) :
    PE X (.Call (.Attribute o "told" apos) [] [] pos) (tTolds C ta) := by
  refine ⟨fun pins s σ H Q I h => ?_⟩
  refine PySem.W.methodCall_KW (pl := pl) (thn (he.run pins s σ H _ I h) fun u s1 ⟨x, H1, I1, rx, p, e, ex, ⟨dx, ea⟩, q⟩ => ?_) ht
  subst ex
  obtain rfl : u = Value.ref p := rx
  have M : MetT X.prog X.w X.K X.mg X.base 1 (C e.k) "told" (spTold C e.k) := by
    cases e
    · exact S.t0
    · exact S.t1
    · exact S.t2
    · exact S.t3
    · exact S.t4
    · exact S.t5
    · exact S.t6
  obtain ⟨f, fd, ps, c, hm, F, b⟩ := M.ex
  refine getmeth_ok I1 ea c hm (no_told e) ?_
  exact PySem.W.callWith_K0 (first := [.ref p]) I1.kIn hm.kp (run_fn (us := [.ref p]) (vs := [.ref p]) F (hr.mono hk) b .nil pass0 I1 (.cons rfl .nil) ⟨p, e, rfl, rfl, ⟨dx, ea⟩, q⟩)
theorem bits_take {k i : Nat} {x : Str} (h : kinds7[i]? = some x) : ((kinds7.take (i + 1)).map fun x => V.bl (decide (V.str x = V.str (kindOf k)))) = ((kinds7.take i).map fun x => V.bl (decide (V.str x = V.str (kindOf k)))) ++ [V.bl (decide (V.str x = V.str (kindOf k)))] := by
  rw [take_more h, List.map_append]
  rfl
abbrev nIs : List Str := ["_law_entry", "_law_told_here", "_law_kinds_here", "_law_found", "_law_kind", "_law_one"]
theorem scIs : FnScope nIs ["_law_entry", "_law_told_here"] (defScope sIs) := ⟨rfl, rfl, rfl, by decide +kernel, rfl, by decide +kernel, by decide +kernel⟩
theorem c_is (B : Base K mg) (T : Kits K mg C E) (S : All7 P w K mg base C) (Kd : Cal P w K mg base 1 "_law_kinds" (spKinds C)) (Fl : Cal P w K mg base 1 "_law_fields" (spFields C)) (D : DefT K mg "_law_is" sIs ["_law_entry", "_law_told_here"]) :
    Cal P w K mg base 2 "_law_is" (spIs C) := by
  refine cal D scIs (fun vs H Q E h => ?_) (fun f cdv A outer s H vs Q E2 hr h => ?_)
  · obtain ⟨p, t, e, rfl, _⟩ := h
    rfl
  · obtain ⟨p, t, e, rfl, he, ht, hok, k⟩ := h
    refine ⟨_, pss_cons (ps_set (i := 2) scIs.nd rfl (Or.inl rfl) (pe_lst (pa_cons pe_str (pa_cons pe_str (pa_cons pe_str (pa_cons pe_str (pa_cons pe_str (pa_cons pe_str (pa_cons pe_str pa_nil)))))))))
      (pss_cons (ps_if (PW.pt (pw_or (pt_not (pt_val (pe_callB call_isi (by rfl) B.isi (by decide +kernel) (pa_cons (pv 0) (pa_cons (pe_glob (v := .ref E) rfl T.mgE rfl) pa_nil)))))
          (pw_or1 (pt_cmpR (op_neD hr.units) (pe_cl Kd hr (by decide) (by rfl) (pa_cons (pv 0) pa_nil))
            (pe_lc (own := [("_law_kind", 4)]) (g := gName 4) (tt := tYes) (te := tOp rEq (tVar 4) (tOp (rIxT K) (tVar 1) (tC (.int 0)))) rfl scIs.nd (pi_list (pv 2)) (blkOk_by (N := nIs) (sc := defScope sIs) (by decide +kernel)) (fun _ _ _ _ _ => pg_name (i := 4) scIs.nd rfl (Or.inl rfl)) (fun _ _ _ _ _ => pts_nil)
              (fun _ _ _ _ _ => pe_cmpR op_eq (pv 4) (pe_ix ix_tup (pv 1) pe_int (fun _ _ => rfl)) (nomark _))) (nomark _))))) (pss_one (ps_ret pe_bl)) pss_nil)
      (pss_cons (ps_set (i := 3) scIs.nd rfl (Or.inl rfl) (pe_told S hr (by decide) (pv 0)))
      (pss_cons (ps_if (PW.pt (pw_or (pt_not (pt_val (pe_callB call_isi (by rfl) B.isi (by decide +kernel) (pa_cons (pv 3) (pa_cons (pe_bltn (v := .ty "tuple") (by rfl) B.tuple (by decide +kernel) rfl) pa_nil)))))
          (pw_or1 (pt_cmpR (op_neD hr.units) (pe_lc (own := [("_law_one", 5)]) (g := gName 5) (tt := tB (tCB (rIsi K) (tCons (tVar 5) (tCons (tC (.ty "bool")) tNil)))) rfl scIs.nd (pi_tup (pv 3)) (blkOk_by (N := nIs) (sc := defScope sIs) (by decide +kernel)) (fun _ _ _ _ _ => pg_name (i := 5) scIs.nd rfl (Or.inl rfl))
            (fun _ _ _ _ _ => pts_one (pt_val (pe_callB call_isi (by rfl) B.isi (by decide +kernel) (pa_cons (pv 5) (pa_cons (pe_bltn (v := .ty "bool") (by rfl) B.bool (by decide +kernel) rfl) pa_nil))))) (fun _ _ _ _ _ => pv 5)) (pe_lst pa_nil) (nomark _))))) (pss_one (ps_ret pe_bl)) pss_nil)
      (pss_one (ps_ret (pe_and (pe_cmpR (op_eqD hr.units) (pv 3) (pv 1) (nomark _)) (pe_one (pe_cmpR (op_eqD hr.units) (pe_cl Fl hr (by decide) (by rfl) (pa_cons (pv 0) (pa_cons (pe_ix ix_tup (pv 1) pe_int (fun _ _ => rfl)) pa_nil))) (pv 1) (nomark _))))))))), ?_⟩
    refine ⟨(by show 7 ≤ sizeLine; decide), fun l hl => ?_⟩
    generalize hH1 : upd H l _ = H1
    have hs1 : Same H H1 := by rw [← hH1]; exact same_new hl
    have hl1 : H1 l = some (.lst (kinds7.map V.str)) := by rw [← hH1]; exact upd_same
    refine ⟨_, rfl, _, _, _, _, true, rfl, .own _, T.ty (he.same hs1), T.kitE _ (k_lt e), _, rfl, iteF ?_⟩
    refine ⟨_, rfl, p, e, rfl, he.same hs1, fun q H2 s2 hq1 hq => ?_⟩
    have ht2 := s2 _ _ (hs1 _ _ ht)
    refine ⟨_, rfl, l, rfl, ⟨_, SqL.of (s2 _ _ hl1)⟩, fun D hD => lc_it (walk_list (xs := kinds7.map V.str)) (fun i H' => H' = upd H2 D (.lst ((kinds7.take i).map fun x => V.bl (decide (V.str x = V.str (kindOf e.k)))))) rfl (fun i H' _ z => by rw [z]; exact SqL.of (same_new hD _ _ (s2 _ _ hl1))) ?_ ?_⟩
    · rintro i v H3 H4 hi rfl ⟨rfl, hv⟩
      obtain ⟨x, hx, rfl⟩ : ∃ x, kinds7[i]? = some x ∧ v = V.str x := by
        rw [List.getElem?_map] at hv
        cases z : kinds7[i]? with
        | none => rw [z] at hv; cases hv
        | some x => rw [z] at hv; exact ⟨x, rfl, (Option.some.inj hv).symm⟩
      refine ⟨rfl, yes (iteT ⟨_, rfl, _, rfl, t, _, 0, .str e.kind, rfl, rfl, SqT.of (same_new hD _ _ ht2), tup_head e, rfl, _, upd_same, ?_, ?_⟩)⟩
      · rw [List.length_map, List.length_take]
        have z : sizeLine = 16777216 := by decide
        have hi7 : i < 7 := hi
        omega
      · rw [upd_upd, bits_take hx, kind_of]
    · rintro H3 rfl
      have e7 : (kinds7.take (kinds7.map V.str).length) = kinds7 := rfl
      rw [e7]
      have hbb : (kinds7.map fun x => V.bl (decide (V.str x = V.str (kindOf e.k)))) = (bits e.k).map V.bl := by
        unfold bits
        rw [List.map_map]
        rfl
      rw [hbb]
      refine ⟨.list ((bits e.k).map PyData.bool), .list ((bits e.k).map PyData.bool), .lst (SqL.of (same_new hD _ _ hq)) (dp_bools _), .lst (SqL.of upd_same) (dp_bools _), bools_shaped _ (k_lt e), bools_shaped _ (k_lt e), _, rfl, ?_⟩
      rw [eqv_self (bools_shaped _ (k_lt e))]
      refine iteF ?_
      have s3 : Same H (upd H2 D (.lst ((bits e.k).map V.bl))) := (hs1.trans s2).trans (same_new hD)
      generalize upd H2 D (.lst ((bits e.k).map V.bl)) = H3 at s3
      refine ⟨_, rfl, p, e, rfl, he.same s3, fun r hr3 => ?_⟩
      have s4 : Same H (upd H3 r (.tup e.tup)) := s3.trans (same_new hr3)
      have hr4 : upd H3 r (.tup e.tup) r = some (.tup e.tup) := upd_same
      generalize upd H3 r (.tup e.tup) = H4 at s4 hr4
      refine ⟨_, rfl, _, _, _, _, true, rfl, .ty _, .base (.tup hr4), kit_ty (by decide +kernel), _, rfl, iteF ?_⟩
      refine ⟨_, rfl, r, rfl, ⟨_, SqT.of hr4⟩, fun D2 hD2 => lc_it (walk_tup (xs := e.tup)) (fun i H' => H' = upd H4 D2 (.lst [])) rfl (fun i H' _ z => by rw [z]; exact SqT.of (same_new hD2 _ _ hr4)) ?_ ?_⟩
      · rintro i v H5 H6 hi rfl ⟨rfl, hv⟩
        have hov := tup_okd hok v (List.mem_of_getElem? hv)
        rcases hov with ⟨x, rfl, _⟩ | ⟨x, rfl⟩
        · exact ⟨rfl, _, rfl, _, _, _, _, false, rfl, .ty _, .base (.str _), kit_ty (by decide +kernel), _, rfl, iteF rfl⟩
        · exact ⟨rfl, _, rfl, _, _, _, _, false, rfl, .ty _, .base (.int _), kit_ty (by decide +kernel), _, rfl, iteF rfl⟩
      · rintro H5 rfl
        refine ⟨(by show 0 ≤ sizeLine; decide), fun q2 hq2 => ?_⟩
        have D2q : D2 ≠ q2 := ne_of_none upd_same hq2
        refine ⟨.list [], .list [], .lst (SqL.of (by rw [upd_ne D2q]; exact upd_same)) .nil, .lst (SqL.of upd_same) .nil, by decide +kernel, by decide +kernel, _, rfl, iteF ?_⟩
        have s6 : Same H4 (upd (upd H4 D2 (.lst [])) q2 (.lst [])) := (same_new hD2).trans (same_new hq2)
        have s7 : Same H _ := s4.trans s6
        have hr6 := s6 _ _ hr4
        have ht6 := s7 _ _ ht
        have sh := shaped_tup (tup_okd hok)
        refine ⟨_, rfl, _, rfl, _, _, .tup (SqT.of hr6) (dp_flat (tup_okd hok)), .tup (SqT.of ht6) (dp_flat (tup_okd hok)), sh, sh, _, rfl, ?_⟩
        rw [eqv_self sh]
        refine iteT ?_
        refine ⟨_, rfl, _, rfl, t, _, 0, .str e.kind, rfl, rfl, SqT.of ht6, tup_head e, p, e, rfl, he.same s7, fun u hu => ?_⟩
        refine ⟨_, rfl, _, _, .tup (SqT.of upd_same) (dp_flat (tup_okd hok)), .tup (SqT.of (same_new hu _ _ ht6)) (dp_flat (tup_okd hok)), sh, sh, ?_⟩
        rw [eqv_self sh]
        exact k _ (s7.trans (same_new hu))
end
end KP
/-! ### things of any kind, against a text -/
namespace KD
open PySem PySem.Spec PyProof.Rows L2 PySem.SeqAt
theorem str_eq_declines_dict (b : Str) (u : Tok) (l : Addr) (es : Array DictEntry) (n : Nat) (dd : Option Addr) (sl : Array (Option Value)) :
    Meets (Builtin.«str.__eq__» ⟨[.str b u, .ref l], []⟩) (fun _ R s => s.heap.get? l = some { cls := .type "dict", dict := dd, data := .dict es n, slots := sl } ∧ R (.ok (.ret .notImplemented)) s) :=
  .of_wp fun prog w A R s h => by obtain ⟨hp, g, d, tk, os⟩ := s; obtain ⟨hl, h⟩ := h; wp_walk using wpAny_loadPart' hl, wpAny_load hl; exact ⟨_, rfl, h⟩
theorem dict_eq_declines_str (l : Addr) (es : Array DictEntry) (n : Nat) (dd : Option Addr) (sl : Array (Option Value)) (b : Str) (u : Tok) :
    Meets (Builtin.«dict.__eq__» ⟨[.ref l, .str b u], []⟩) (fun _ R s => s.heap.get? l = some { cls := .type "dict", dict := dd, data := .dict es n, slots := sl } ∧ R (.ok (.ret .notImplemented)) s) :=
  .of_wp fun prog w A R s h => by obtain ⟨hp, g, d, tk, os⟩ := s; obtain ⟨hl, h⟩ := h; have f1 := F.sub_str_dict; wp_walk using wpAny_loadPart' hl, wpAny_load hl; exact ⟨_, rfl, h⟩
theorem rc_str_dict {A : Around} {s : Shared} {l : Addr} {es : Array DictEntry} {n : Nat} {dd : Option Addr} {sl : Array (Option Value)} (b : Str) (u : Tok) (ho : s.heap.get? l = some { cls := .type "dict", dict := dd, data := .dict es n, slots := sl }) (hu : A.units < cLine) : RcAt A s (.str b u) (.ref l) false := fun prog w E Q h =>
  rc_eq_decline_or (k := false) (typeIs_str s b u) ⟨_, ho, rfl⟩ (by decide) F.sub_dict_str F.slot_str_eq F.slot_dict_eq_refl
    (fun _ hq => call_meets F.slot_str_eq (typeIs_str s b u) F.entry_str_eq (F.args_str_eq_2 _ _) (str_eq_declines_dict b u l es n dd sl) ⟨ho, hq⟩)
    (fun _ hq => call_meets F.slot_dict_eq_refl ⟨_, ho, rfl⟩ F.entry_dict_eq (F.args_dict_eq_2 _ _) (dict_eq_declines_str l es n dd sl b u) ⟨ho, hq⟩)
    (fun _ hq => wpAny_of_eq (rfl : isSame (.str b u) (.ref l) = pure false) hq) (.inr hu) h
theorem rc_dict_str {A : Around} {s : Shared} {l : Addr} {es : Array DictEntry} {n : Nat} {dd : Option Addr} {sl : Array (Option Value)} (b : Str) (u : Tok) (ho : s.heap.get? l = some { cls := .type "dict", dict := dd, data := .dict es n, slots := sl }) (hu : A.units < cLine) : RcAt A s (.ref l) (.str b u) false := fun prog w E Q h =>
  rc_eq_decline_or (k := false) ⟨_, ho, rfl⟩ (typeIs_str s b u) (by decide) F.sub_str_dict F.slot_dict_eq F.slot_str_eq_refl
    (fun _ hq => call_meets F.slot_dict_eq ⟨_, ho, rfl⟩ F.entry_dict_eq (F.args_dict_eq_2 _ _) (dict_eq_declines_str l es n dd sl b u) ⟨ho, hq⟩)
    (fun _ hq => call_meets F.slot_str_eq_refl (typeIs_str s b u) F.entry_str_eq (F.args_str_eq_2 _ _) (str_eq_declines_dict b u l es n dd sl) ⟨ho, hq⟩)
    (fun _ hq => wpAny_of_eq (rfl : isSame (.ref l) (.str b u) = pure false) hq) (.inr hu) h
/-- what may be handed in -/
inductive Th (H : Hp) : V → Prop where
  | non : Th H .non
  | bl (b : Bool) : Th H (.bl b)
  | int (i : Int) : Th H (.int i)
  | str (x : Str) (h : x.length ≤ sizeLine) : Th H (.str x)
  | lst {a : Addr} {xs : List V} (h : H a = some (.lst xs)) : Th H (.ref a)
  | tup {a : Addr} {xs : List V} (h : H a = some (.tup xs)) : Th H (.ref a)
  | dct {a : Addr} {kvs : List (Key × V)} (h : H a = some (.dK kvs)) : Th H (.ref a)
theorem Th.same {H H' : Hp} {v : V} (t : Th H v) (s : Same H H') : Th H' v := by
  cases t with
  | non => exact .non
  | bl b => exact .bl b
  | int i => exact .int i
  | str x h => exact .str x h
  | lst h => exact .lst (s _ _ h)
  | tup h => exact .tup (s _ _ h)
  | dct h => exact .dct (s _ _ h)
/-- == of a text and anything -/
def rEqX : R2 := fun x y H Q => ((∃ b, y = .str b) ∧ Th H x ∨ (∃ b, x = .str b) ∧ Th H y) ∧ Q (.bl (decide (x = y))) H
theorem op_eqX {X : Cx} (hu0 : X.A.units + 64 < cLine) : OpR X (compareOp .Eq) rEqX := by
  have hu : X.A.units < cLine := by omega
  intro pins s σ H x y v u Q I rx ry h
  obtain ⟨h, q⟩ := h
  have rf : ∀ {a : Addr} {b : Str}, decide (V.ref a = V.str b) = false := fun {a b} => decide_eq_false (fun z => nomatch z)
  have fr : ∀ {a : Addr} {b : Str}, decide (V.str b = V.ref a) = false := fun {a b} => decide_eq_false (fun z => nomatch z)
  rcases h with ⟨⟨b, rfl⟩, t⟩ | ⟨⟨b, rfl⟩, t⟩
  · cases t with
    | non => exact op_eq pins s σ H _ _ v u Q I rx ry ⟨rfl, q⟩
    | bl b => exact op_eq pins s σ H _ _ v u Q I rx ry ⟨rfl, q⟩
    | int i => exact op_eq pins s σ H _ _ v u Q I rx ry ⟨rfl, q⟩
    | str z h => exact op_eq pins s σ H _ _ v u Q I rx ry ⟨rfl, q⟩
    | @lst a xs h =>
      obtain ⟨t, rfl⟩ := (show ∃ t, u = Value.str b t from ry)
      cases (show v = Value.ref a from rx)
      obtain ⟨_, _, n, _, h1⟩ := (show ObjOk X.prog X.w H s.heap a (.lst xs) from I.hok a _ h)
      rw [rf] at q
      exact RcAt.list_str (A := X.A) b t ⟨_, h1, rfl, n, rfl⟩ hu X.prog X.w _ _ ⟨.bl false, H, I, rfl, q⟩
    | @tup a xs h =>
      obtain ⟨t, rfl⟩ := (show ∃ t, u = Value.str b t from ry)
      cases (show v = Value.ref a from rx)
      obtain ⟨its, _, ht, _⟩ := I.tuple (SqT.of h)
      rw [rf] at q
      exact RcAt.tuple_str (A := X.A) b t ht hu X.prog X.w _ _ ⟨.bl false, H, I, rfl, q⟩
    | @dct a kvs h =>
      obtain ⟨t, rfl⟩ := (show ∃ t, u = Value.str b t from ry)
      cases (show v = Value.ref a from rx)
      obtain ⟨_, _, vs, _, ob, es, ep, h1, h2, h3, _⟩ := (show ObjOk X.prog X.w H s.heap a (.dK kvs) from I.hok a _ h)
      obtain ⟨cls, dd, data, sl⟩ := ob
      obtain ⟨c1, c2, c3⟩ := h2
      simp only at c1 h3
      subst c1 h3
      rw [rf] at q
      exact rc_dict_str (A := X.A) b t h1 hu X.prog X.w _ _ ⟨.bl false, H, I, rfl, q⟩
  · cases t with
    | non => exact op_eq pins s σ H _ _ v u Q I rx ry ⟨rfl, q⟩
    | bl b => exact op_eq pins s σ H _ _ v u Q I rx ry ⟨rfl, q⟩
    | int i => exact op_eq pins s σ H _ _ v u Q I rx ry ⟨rfl, q⟩
    | str z h => exact op_eq pins s σ H _ _ v u Q I rx ry ⟨rfl, q⟩
    | @lst a xs h =>
      obtain ⟨t, rfl⟩ := (show ∃ t, v = Value.str b t from rx)
      cases (show u = Value.ref a from ry)
      obtain ⟨_, _, n, _, h1⟩ := (show ObjOk X.prog X.w H s.heap a (.lst xs) from I.hok a _ h)
      rw [fr] at q
      exact RcAt.str_list (A := X.A) b t ⟨_, h1, rfl, n, rfl⟩ hu X.prog X.w _ _ ⟨.bl false, H, I, rfl, q⟩
    | @tup a xs h =>
      obtain ⟨t, rfl⟩ := (show ∃ t, v = Value.str b t from rx)
      cases (show u = Value.ref a from ry)
      obtain ⟨its, _, ht, _⟩ := I.tuple (SqT.of h)
      rw [fr] at q
      exact RcAt.str_tuple (A := X.A) b t ht hu X.prog X.w _ _ ⟨.bl false, H, I, rfl, q⟩
    | @dct a kvs h =>
      obtain ⟨t, rfl⟩ := (show ∃ t, v = Value.str b t from rx)
      cases (show u = Value.ref a from ry)
      obtain ⟨_, _, vs, _, ob, es, ep, h1, h2, h3, _⟩ := (show ObjOk X.prog X.w H s.heap a (.dK kvs) from I.hok a _ h)
      obtain ⟨cls, dd, data, sl⟩ := ob
      obtain ⟨c1, c2, c3⟩ := h2
      simp only at c1 h3
      subst c1 h3
      rw [fr] at q
      exact rc_str_dict (A := X.A) b t h1 hu X.prog X.w _ _ ⟨.bl false, H, I, rfl, q⟩
/-- its type -/
def tyV : V → HO → Value
  | .non, _ => .type "NoneType" | .bl _, _ => .type "bool" | .int _, _ => .type "int" | .str _, _ => .type "str"
  | .ref _, .lst _ => .type "list" | .ref _, .tup _ => .type "tuple" | _, _ => .type "dict"
theorem Th.ty {K : PySem.W.Frag} {H : Hp} {v : V} (t : Th H v) : ∃ n : String, TyX K H v (.type n) ∧ n ∈ ["NoneType", "bool", "int", "str", "list", "tuple", "dict"] ∧ (n = "bool" ↔ ∃ b, v = .bl b) ∧ (n = "int" ↔ ∃ i, v = .int i) ∧ (n = "str" ↔ ∃ x, v = .str x) ∧ (n = "tuple" ↔ ∃ a xs, v = .ref a ∧ H a = some (.tup xs)) := by
  cases t with
  | non => exact ⟨_, .base .non, by decide, ⟨fun z => absurd z (by decide), fun ⟨_, z⟩ => nomatch z⟩, ⟨fun z => absurd z (by decide), fun ⟨_, z⟩ => nomatch z⟩, ⟨fun z => absurd z (by decide), fun ⟨_, z⟩ => nomatch z⟩, ⟨fun z => absurd z (by decide), fun ⟨_, _, z, _⟩ => nomatch z⟩⟩
  | bl b => exact ⟨_, .base (.bl b), by decide, ⟨fun _ => ⟨b, rfl⟩, fun _ => rfl⟩, ⟨fun z => absurd z (by decide), fun ⟨_, z⟩ => nomatch z⟩, ⟨fun z => absurd z (by decide), fun ⟨_, z⟩ => nomatch z⟩, ⟨fun z => absurd z (by decide), fun ⟨_, _, z, _⟩ => nomatch z⟩⟩
  | int i => exact ⟨_, .base (.int i), by decide, ⟨fun z => absurd z (by decide), fun ⟨_, z⟩ => nomatch z⟩, ⟨fun _ => ⟨i, rfl⟩, fun _ => rfl⟩, ⟨fun z => absurd z (by decide), fun ⟨_, z⟩ => nomatch z⟩, ⟨fun z => absurd z (by decide), fun ⟨_, _, z, _⟩ => nomatch z⟩⟩
  | str x h => exact ⟨_, .base (.str x), by decide, ⟨fun z => absurd z (by decide), fun ⟨_, z⟩ => nomatch z⟩, ⟨fun z => absurd z (by decide), fun ⟨_, z⟩ => nomatch z⟩, ⟨fun _ => ⟨x, rfl⟩, fun _ => rfl⟩, ⟨fun z => absurd z (by decide), fun ⟨_, _, z, _⟩ => nomatch z⟩⟩
  | lst h => exact ⟨_, .base (.lst h), by decide, ⟨fun z => absurd z (by decide), fun ⟨_, z⟩ => nomatch z⟩, ⟨fun z => absurd z (by decide), fun ⟨_, z⟩ => nomatch z⟩, ⟨fun z => absurd z (by decide), fun ⟨_, z⟩ => nomatch z⟩, ⟨fun z => absurd z (by decide), fun ⟨_, _, z, e⟩ => by cases z; rw [h] at e; cases e⟩⟩
  | @tup a xs h => exact ⟨_, .base (.tup h), by decide, ⟨fun z => absurd z (by decide), fun ⟨_, z⟩ => nomatch z⟩, ⟨fun z => absurd z (by decide), fun ⟨_, z⟩ => nomatch z⟩, ⟨fun z => absurd z (by decide), fun ⟨_, z⟩ => nomatch z⟩, ⟨fun _ => ⟨a, xs, rfl, h⟩, fun _ => rfl⟩⟩
  | dct h => exact ⟨_, .base (.dK h), by decide, ⟨fun z => absurd z (by decide), fun ⟨_, z⟩ => nomatch z⟩, ⟨fun z => absurd z (by decide), fun ⟨_, z⟩ => nomatch z⟩, ⟨fun z => absurd z (by decide), fun ⟨_, z⟩ => nomatch z⟩, ⟨fun z => absurd z (by decide), fun ⟨_, _, z, e⟩ => by cases z; rw [h] at e; cases e⟩⟩
end KD
namespace KP
open PySem L2 KM KD
def isBl : V → Bool
  | .bl _ => true | _ => false
def isIn : V → Bool
  | .int _ => true | _ => false
def isSt : V → Bool
  | .str _ => true | _ => false
def isTp (H : Hp) : V → Bool
  | .ref a => match H a with
    | some (.tup _) => true
    | _ => false
  | _ => false
section
variable {K : PySem.W.Frag} {H : Hp} {v : V}
theorem th_bool (t : Th H v) : ∃ u, TyX K H v u ∧ PySem.W.kitOne K u (.type "bool") = some (isBl v) := by
  cases t with
  | non => exact ⟨_, .base .non, by first | exact kit_ty (r := true) (by decide +kernel) | exact kit_ty (r := false) (by decide +kernel)⟩
  | bl b => exact ⟨_, .base (.bl b), by first | exact kit_ty (r := true) (by decide +kernel) | exact kit_ty (r := false) (by decide +kernel)⟩
  | int i => exact ⟨_, .base (.int i), by first | exact kit_ty (r := true) (by decide +kernel) | exact kit_ty (r := false) (by decide +kernel)⟩
  | str x h => exact ⟨_, .base (.str x), by first | exact kit_ty (r := true) (by decide +kernel) | exact kit_ty (r := false) (by decide +kernel)⟩
  | lst h => exact ⟨_, .base (.lst h), by first | exact kit_ty (r := true) (by decide +kernel) | exact kit_ty (r := false) (by decide +kernel)⟩
  | tup h => exact ⟨_, .base (.tup h), by first | exact kit_ty (r := true) (by decide +kernel) | exact kit_ty (r := false) (by decide +kernel)⟩
  | dct h => exact ⟨_, .base (.dK h), by first | exact kit_ty (r := true) (by decide +kernel) | exact kit_ty (r := false) (by decide +kernel)⟩
theorem th_int (t : Th H v) : ∃ u, TyX K H v u ∧ PySem.W.kitOne K u (.type "int") = some (isBl v || isIn v) := by
  cases t with
  | non => exact ⟨_, .base .non, by first | exact kit_ty (r := true) (by decide +kernel) | exact kit_ty (r := false) (by decide +kernel)⟩
  | bl b => exact ⟨_, .base (.bl b), by first | exact kit_ty (r := true) (by decide +kernel) | exact kit_ty (r := false) (by decide +kernel)⟩
  | int i => exact ⟨_, .base (.int i), by first | exact kit_ty (r := true) (by decide +kernel) | exact kit_ty (r := false) (by decide +kernel)⟩
  | str x h => exact ⟨_, .base (.str x), by first | exact kit_ty (r := true) (by decide +kernel) | exact kit_ty (r := false) (by decide +kernel)⟩
  | lst h => exact ⟨_, .base (.lst h), by first | exact kit_ty (r := true) (by decide +kernel) | exact kit_ty (r := false) (by decide +kernel)⟩
  | tup h => exact ⟨_, .base (.tup h), by first | exact kit_ty (r := true) (by decide +kernel) | exact kit_ty (r := false) (by decide +kernel)⟩
  | dct h => exact ⟨_, .base (.dK h), by first | exact kit_ty (r := true) (by decide +kernel) | exact kit_ty (r := false) (by decide +kernel)⟩
theorem th_str (t : Th H v) : ∃ u, TyX K H v u ∧ PySem.W.kitOne K u (.type "str") = some (isSt v) := by
  cases t with
  | non => exact ⟨_, .base .non, by first | exact kit_ty (r := true) (by decide +kernel) | exact kit_ty (r := false) (by decide +kernel)⟩
  | bl b => exact ⟨_, .base (.bl b), by first | exact kit_ty (r := true) (by decide +kernel) | exact kit_ty (r := false) (by decide +kernel)⟩
  | int i => exact ⟨_, .base (.int i), by first | exact kit_ty (r := true) (by decide +kernel) | exact kit_ty (r := false) (by decide +kernel)⟩
  | str x h => exact ⟨_, .base (.str x), by first | exact kit_ty (r := true) (by decide +kernel) | exact kit_ty (r := false) (by decide +kernel)⟩
  | lst h => exact ⟨_, .base (.lst h), by first | exact kit_ty (r := true) (by decide +kernel) | exact kit_ty (r := false) (by decide +kernel)⟩
  | tup h => exact ⟨_, .base (.tup h), by first | exact kit_ty (r := true) (by decide +kernel) | exact kit_ty (r := false) (by decide +kernel)⟩
  | dct h => exact ⟨_, .base (.dK h), by first | exact kit_ty (r := true) (by decide +kernel) | exact kit_ty (r := false) (by decide +kernel)⟩
theorem th_tup (t : Th H v) : ∃ u, TyX K H v u ∧ PySem.W.kitOne K u (.type "tuple") = some (isTp H v) := by
  cases t with
  | non => exact ⟨_, .base .non, by first | exact kit_ty (r := true) (by decide +kernel) | exact kit_ty (r := false) (by decide +kernel)⟩
  | bl b => exact ⟨_, .base (.bl b), by first | exact kit_ty (r := true) (by decide +kernel) | exact kit_ty (r := false) (by decide +kernel)⟩
  | int i => exact ⟨_, .base (.int i), by first | exact kit_ty (r := true) (by decide +kernel) | exact kit_ty (r := false) (by decide +kernel)⟩
  | str x h => exact ⟨_, .base (.str x), by first | exact kit_ty (r := true) (by decide +kernel) | exact kit_ty (r := false) (by decide +kernel)⟩
  | lst h => exact ⟨_, .base (.lst h), by simp only [isTp, h]; first | exact kit_ty (r := true) (by decide +kernel) | exact kit_ty (r := false) (by decide +kernel)⟩
  | tup h => exact ⟨_, .base (.tup h), by simp only [isTp, h]; first | exact kit_ty (r := true) (by decide +kernel) | exact kit_ty (r := false) (by decide +kernel)⟩
  | dct h => exact ⟨_, .base (.dK h), by simp only [isTp, h]; first | exact kit_ty (r := true) (by decide +kernel) | exact kit_ty (r := false) (by decide +kernel)⟩
end
def wholeV (lo hi : Int) : V → Bool
  | .int v => decide (lo ≤ v ∧ v ≤ hi) | _ => false
def wordV : V → Bool
  | .str x => wordB x | _ => false
def noteV : V → Bool
  | .str x => decide (x = "") || wordB x | _ => false
def spWholeV : Sp := fun vs H Q _ => ∃ (v : V) (lo hi : Int), vs = [v, .int lo, .int hi] ∧ Th H v ∧ Q (.bl (wholeV lo hi v)) H
def spWordV : Sp := fun vs H Q _ => ∃ v : V, vs = [v] ∧ Th H v ∧ ∀ H', Same H H' → Q (.bl (wordV v)) H'
def spNoteV : Sp := fun vs H Q _ => ∃ v : V, vs = [v] ∧ Th H v ∧ ∀ H', Same H H' → Q (.bl (noteV v)) H'
section
variable {P : Program} {w : World} {K : PySem.W.Frag} {mg : Str → Option Value} {base : Heap}
theorem c_wholeV (B : Base K mg) (D : DefT K mg "is_whole" sWhole ["value", "least", "most"]) : Cal P w K mg base 1 "is_whole" spWholeV := by
  refine cal D scWhole (fun vs H Q E h => ?_) (fun f cdv A outer s H vs Q E hr h => ?_)
  · obtain ⟨v, lo, hi, rfl, _⟩ := h
    rfl
  · obtain ⟨v, lo, hi, rfl, t, k⟩ := h
    refine ⟨_, pss_cons (ps_if (PW.pt (pw_or (pt_val (pe_callB call_isi (by rfl) B.isi (by decide +kernel) (pa_cons (pv 0) (pa_cons (pe_bltn (v := .ty "bool") (by rfl) B.bool (by decide +kernel) rfl) pa_nil))))
        (pw_or1 (pt_not (pt_val (pe_callB call_isi (by rfl) B.isi (by decide +kernel) (pa_cons (pv 0) (pa_cons (pe_bltn (v := .ty "int") (by rfl) B.int (by decide +kernel) rfl) pa_nil)))))))) (pss_one (ps_ret pe_bl)) pss_nil)
      (pss_one (ps_ret (pe_chain op_le op_le (pv 1) (pv 0) (pv 2)))), ?_⟩
    obtain ⟨u, tu, ku⟩ := th_bool (K := K) t
    obtain ⟨u2, tu2, ku2⟩ := th_int (K := K) t
    refine ⟨_, rfl, _, _, _, _, _, rfl, .ty _, tu, ku, _, rfl, ?_⟩
    cases hb : isBl v with
    | true =>
      refine iteT ?_
      have e : wholeV lo hi v = false := by cases v <;> first | rfl | exact absurd hb (by simp [isBl])
      rw [e] at k
      exact k
    | false =>
      refine iteF ⟨_, rfl, _, _, _, _, _, rfl, .ty _, tu2, ku2, _, rfl, ?_⟩
      rw [hb, Bool.false_or]
      cases hi2 : isIn v with
      | false =>
        refine iteT ?_
        have e : wholeV lo hi v = false := by cases v <;> first | rfl | exact absurd hi2 (by simp [isIn])
        rw [e] at k
        exact k
      | true =>
        obtain ⟨i, rfl⟩ : ∃ i, v = .int i := by cases v <;> first | exact ⟨_, rfl⟩ | exact absurd hi2 (by simp [isIn])
        refine iteF ⟨_, rfl, _, rfl, _, _, rfl, rfl, _, rfl, ?_⟩
        have k' : Q (.bl (decide (lo ≤ i ∧ i ≤ hi))) H := k
        by_cases h1 : lo ≤ i
        · rw [if_pos (decide_eq_true h1)]
          refine ⟨_, rfl, _, _, rfl, rfl, ?_⟩
          by_cases h2 : i ≤ hi
          · show Q (.bl (decide (i ≤ hi))) H
            rw [decide_eq_true h2]
            rw [decide_eq_true ⟨h1, h2⟩] at k'
            exact k'
          · show Q (.bl (decide (i ≤ hi))) H
            rw [decide_eq_false h2]
            rw [decide_eq_false fun z => h2 z.2] at k'
            exact k'
        · rw [if_neg (by rw [decide_eq_false h1]; exact Bool.false_ne_true)]
          rw [decide_eq_false fun z => h1 z.1] at k'
          exact k'
theorem all_map_id {bs : List Bool} : bs.all id = bs.all fun b => b := rfl
theorem c_wordV (B : Base K mg) (D : DefT K mg "is_word" sWord ["value"]) : Cal P w K mg base 1 "is_word" spWordV := by
  obtain ⟨tL, hL⟩ := B.letters
  obtain ⟨tM, hM⟩ := B.mostL
  refine cal D scWord (fun vs H Q E h => ?_) (fun f cdv A outer s H vs Q E hr h => ?_)
  · obtain ⟨x, rfl, _⟩ := h
    rfl
  · obtain ⟨v, rfl, t, k⟩ := h
    refine ⟨_, pss_cons (ps_if (PW.pt (pw_or (pt_not (pt_val (pe_callB call_isi (by rfl) B.isi (by decide +kernel) (pa_cons (pv 0) (pa_cons (pe_bltn (v := .ty "str") (by rfl) B.str (by decide +kernel) rfl) pa_nil)))))
        (pw_or1 (pt_not (pt_chain op_le op_le pe_int (pe_callB call_len_str (by rfl) B.len (by decide +kernel) (pa_cons (pv 0) pa_nil)) (pe_glob (v := .int 8) rfl hM ⟨_, rfl⟩)))))) (pss_one (ps_ret pe_bl)) pss_nil)
      (pss_one (ps_ret (pe_callB (cr_all rfl) (by rfl) B.all (by decide +kernel) (pa_cons (pe_lc (own := [("sign", 1)]) (g := gName 1) (tt := tYes) rfl scWord.nd (pi_str (pv 0)) (blkOk_by (N := ["value", "sign"]) (sc := defScope sWord) (by decide +kernel))
        (fun _ _ _ _ _ => pg_name (i := 1) scWord.nd rfl (Or.inl rfl)) (fun _ _ _ _ _ => pts_nil) (fun _ _ _ _ _ => pe_cmpR op_in_sign (pv 1) (pe_glob (v := .str letters) rfl hL ⟨_, rfl⟩) rfl)) pa_nil)))), ?_⟩
    obtain ⟨u, tu, ku⟩ := th_str (K := K) t
    refine ⟨_, rfl, _, _, _, _, _, rfl, .ty _, tu, ku, _, rfl, ?_⟩
    cases hb : isSt v with
    | false =>
      refine iteT ?_
      have e : wordV v = false := by cases v <;> first | rfl | exact absurd hb (by simp [isSt])
      have k' := k H (Same.refl _)
      rw [e] at k'
      exact k'
    | true =>
      obtain ⟨x, rfl⟩ : ∃ x, v = .str x := by cases v <;> first | exact ⟨_, rfl⟩ | exact absurd hb (by simp [isSt])
      have hs : x.length ≤ sizeLine := by cases t with | str _ h => exact h
      refine iteF ?_
      refine ⟨_, rfl, _, rfl, hs, _, _, rfl, rfl, _, rfl, ?_⟩
      have kF : wordB x = false → Q (.bl false) H := fun e => by
        have k' := k H (Same.refl _)
        rw [show wordV (.str x) = false from e] at k'
        exact k'
      by_cases h1 : 1 ≤ x.length
      · rw [if_pos (decide_eq_true (show (1 : Int) ≤ ((x.length : Nat) : Int) by omega))]
        refine ⟨_, _, rfl, rfl, _, rfl, ?_⟩
        by_cases h8 : x.length ≤ 8
        · have e8 : decide (((x.length : Nat) : Int) ≤ 8) = true := decide_eq_true (by omega)
          rw [e8]
          refine iteF ?_
          refine ⟨_, rfl, x, rfl, fun D hD => lc_it walk_str (fun i H' => H' = upd H D (.lst (((x.cps.toList.take i).map fun c => decide (c ∈ letters.cps.toList)).map V.bl))) rfl (fun _ _ _ _ => trivial) ?_ ?_⟩
          · rintro i v H1 H2 hi rfl ⟨rfl, c, hc, rfl⟩
            refine ⟨rfl, yes (iteT ⟨_, rfl, c, letters, rfl, rfl, _, upd_same, ?_, ?_⟩)⟩
            · have : x.cps.size ≤ 8 := h8
              have e : sizeLine = 16777216 := by decide
              have : ((x.cps.toList.take i).map fun c => decide (c ∈ letters.cps.toList)).length ≤ 8 := by
                rw [List.length_map, List.length_take, Array.length_toList]
                omega
              rw [List.length_map]
              omega
            · have hc' : x.cps.toList[i]? = some c := by simpa using hc
              rw [upd_upd, take_more hc', List.map_append, List.map_append]
              rfl
          · rintro H1 rfl
            refine ⟨D, (x.cps.toList.take x.cps.size).map fun c => decide (c ∈ letters.cps.toList), rfl, SqL.of upd_same, ?_⟩
            have k' := k _ (same_new (o := .lst (((x.cps.toList.take x.cps.size).map fun c => decide (c ∈ letters.cps.toList)).map V.bl)) hD)
            have e : wordV (.str x) = ((x.cps.toList.take x.cps.size).map fun c => decide (c ∈ letters.cps.toList)).all id := by
              show wordB x = _
              unfold wordB
              rw [decide_eq_true h1, decide_eq_true h8, Bool.and_true, Bool.and_true, List.take_of_length_le (by simp), List.all_map]
              rfl
            rw [e] at k'
            exact k'
        · have e8 : decide (((x.length : Nat) : Int) ≤ 8) = false := decide_eq_false (by omega)
          rw [e8]
          exact iteT (kF (by unfold wordB; rw [decide_eq_false h8, Bool.and_false]))
      · rw [if_neg (by rw [decide_eq_false (show ¬ (1 : Int) ≤ ((x.length : Nat) : Int) by omega)]; exact Bool.false_ne_true)]
        refine ⟨_, rfl, ?_⟩
        refine iteT ?_
        exact kF (by unfold wordB; rw [decide_eq_false h1, Bool.and_false, Bool.false_and])
theorem c_noteV (B : Base K mg) (W : Cal P w K mg base 1 "is_word" spWordV) (D : DefT K mg "is_note" sNote ["value"]) : Cal P w K mg base 2 "is_note" spNoteV := by
  refine cal D scNote (fun vs H Q E h => ?_) (fun f cdv A outer s H vs Q E hr h => ?_)
  · obtain ⟨x, rfl, _⟩ := h
    rfl
  · obtain ⟨v, rfl, t, k⟩ := h
    refine ⟨_, pss_one (ps_ret (pe_or (pe_cmpR (op_eqX hr.units) (pv 0) pe_str (nomark _)) (pe_one (pe_cl W hr (by decide) (by rfl) (pa_cons (pv 0) pa_nil))))), ?_⟩
    refine ⟨_, rfl, .inl ⟨⟨_, rfl⟩, t⟩, _, rfl, ?_⟩
    refine ite2 (fun c => ?_) (fun c => ?_)
    · have e := of_decide_eq_true c
      subst e
      have k' := k H (Same.refl _)
      rw [show noteV (V.str "") = true by decide +kernel] at k'
      exact k'
    · refine ⟨_, rfl, v, rfl, t, fun H' s' => ?_⟩
      have k' := k H' s'
      have e : noteV v = wordV v := by
        cases v <;> first | rfl | skip
        rename_i x
        have : decide (x = "") = false := decide_eq_false fun z => c (decide_eq_true (by rw [z]))
        show (decide (x = "") || wordB x) = wordB x
        rw [this, Bool.false_or]
      rw [e] at k'
      exact k'
end
end KP
namespace KP
open PySem L2 KM KD
/-! ### what is refused with NoEntry -/
structure ErrF (K : PySem.W.Frag) (mg : Str → Option Value) (x : Str) (Cn : Addr) : Prop where
  g : mg x = some (.ref Cn)
  x : PySem.W.excIn K Cn [.type "ValueError", .type "Exception", .type "BaseException", .type "object"] "ValueError.__new__" = true
  k : PySem.W.keepIn K (.ref Cn) = true
  b : PySem.W.subIn K (.ref Cn) (.type "BaseException") = some true
  t : PySem.W.typeIn K (.ref Cn) = some (.type "type")
/-- a def that may raise -/
structure CalX (P : Program) (w : World) (K : PySem.W.Frag) (mg : Str → Option Value) (base : Heap) (k : Nat) (x : Str) (sp : Sp) : Prop where
  ex : ∃ f fd ps, FnOk P w K mg base (L2.CX P w) k f fd ps sp ∧ mg x = some (.ref f) ∧ PySem.W.keepIn K (.ref f) = true ∧ Binds K fd ps []
/-- a class whose making may raise -/
structure MakX (P : Program) (w : World) (K : PySem.W.Frag) (mg : Str → Option Value) (base : Heap) (k : Nat) (x : Str) (C : Addr) (sp : Sp) : Prop where
  ex : ∃ f fd ps, Mk K C f ∧ FnOk P w K mg base (L2.CX P w) k f fd ps sp ∧ mg x = some (.ref C) ∧ Binds K fd ps []
section
variable {X : Cx} {k j : Nat} {x : Str} {C : Addr} {sp : Sp} {p pos : Pos} {e : Expr} {es : List Expr} {t : TA} {E : L2.St → XK} {E1 : XK}
theorem pe_clX (c : CalX X.prog X.w X.K X.mg X.base k x sp) (hr : Room j X.A) (hk : k ≤ j) (hx : ∀ σ, PassesAt (L2.CX X.prog X.w) X σ (E σ)) (hg : Gl X x) (ha : PA X (e :: es) t)
    (hdb : (x == ("__debug__" : Str)) = false := by decide) (he : starEach (e :: es) X.env = (false, eval e X.env) :: starEach es X.env := by rfl) (hpl : (backTo pos (starEach es X.env)).any (·.1) = false := by rfl) :
    PE X (.Call (.Name x p) (e :: es) [] pos) (tCallS sp E t) := by
  obtain ⟨f, fd, ps, F, m, kp, b⟩ := c.ex
  exact pe_callS F (hr.mono hk) hg m kp b hx ha hdb he hpl
theorem pe_mkX (c : MakX X.prog X.w X.K X.mg X.base k x C sp) (hr : Room j X.A) (hk : k + 1 ≤ j) (hx : Passes (L2.CX X.prog X.w) X E1) (hg : Gl X x) (ha : PA X (e :: es) t)
    (hdb : (x == ("__debug__" : Str)) = false := by decide) (he : starEach (e :: es) X.env = (false, eval e X.env) :: starEach es X.env := by rfl) (hpl : (backTo pos (starEach es X.env)).any (·.1) = false := by rfl) :
    PE X (.Call (.Name x p) (e :: es) [] pos) (tMake C sp [] E1 t) := by
  obtain ⟨f, fd, ps, M, F, m, b⟩ := c.ex
  exact pe_make M F (hr.mono hk) hg m b .nil hx ha hdb he hpl
end
def okF (ws : List V) (c n : V) : Bool := ws.all wordV && wholeV 1 1000000000000 c && noteV n
def spCheckX (Cn : Addr) : Sp := fun vs H Q E => ∃ (a : Addr) (ws : List V) (c n : V), vs = [.ref a, c, n] ∧ H a = some (.lst ws) ∧ (∀ v ∈ ws, Th H v) ∧ ws.length ≤ 8 ∧ Th H c ∧ Th H n ∧ ∀ H', Same H H' → if okF ws c n = true then Q .non H' else E (.ref Cn) none H'
section
variable {P : Program} {w : World} {K : PySem.W.Frag} {mg : Str → Option Value} {base : Heap} {Cn : Addr}
abbrev nCheckX : List Str := ["words", "coins", "note", "word"]
abbrev sCheckX : Stmt := sCheck
theorem scCheckX : FnScope nCheckX ["words", "coins", "note"] (defScope sCheckX) := scCheck
theorem c_checkX (B : Base K mg) (N : ErrF K mg "NoEntry" Cn) (Wh : Cal P w K mg base 1 "is_whole" spWholeV) (W : Cal P w K mg base 1 "is_word" spWordV) (Nt : Cal P w K mg base 2 "is_note" spNoteV) (D : DefT K mg "check_fields" sCheck ["words", "coins", "note"]) :
    CalX P w K mg base 3 "check_fields" (spCheckX Cn) := by
  obtain ⟨tC, hC⟩ := B.mostC
  obtain ⟨f, fd, F, b, m⟩ := D.ex
  refine ⟨f, fd, _, F.okX scCheckX (fun vs H Q E h => ?_) (fun cdv A outer s H vs Q E hr h => ?_), m, F.kp, b⟩
  · obtain ⟨a, ws, c, n, rfl, _⟩ := h
    rfl
  · obtain ⟨a, ws, c, n, rfl, ha, hw, hwl, tc, tn, k⟩ := h
    refine ⟨_, (pss_cons (ps_if (pt_not (pt_val (pe_callB (cr_all rfl) (by rfl) B.all (by decide +kernel) (pa_cons (pe_lc (own := [("word", 3)]) (g := (gName 3)) (tt := tYes) rfl scCheckX.nd (pi_list (pv 0)) (blkOk_by (N := nCheckX) (sc := defScope sCheckX) (by decide +kernel)) (fun _ _ _ _ _ => (pg_name (i := 3) scCheckX.nd rfl (by first | exact Or.inl rfl | exact Or.inr rfl))) (fun _ _ _ _ _ => pts_nil) (fun _ _ _ _ _ => (pe_cl W hr (by decide) (by rfl) (pa_cons (pv 3) pa_nil)))) pa_nil)))) (pss_one (ps_raise rfl (takes_of rfl rfl rfl rfl) (pmk_own PySem.F.excBase_ValueError N.x N.g N.k (raises_own N.b N.t) rfl))) pss_nil)
        (pss_cons (ps_if (pt_not (pt_val (pe_cl Wh hr (by decide) (by rfl) (pa_cons (pv 1) (pa_cons pe_int (pa_cons (pe_glob (v := .int 1000000000000) rfl hC ⟨_, rfl⟩) pa_nil)))))) (pss_one (ps_raise rfl (takes_of rfl rfl rfl rfl) (pmk_own PySem.F.excBase_ValueError N.x N.g N.k (raises_own N.b N.t) rfl))) pss_nil)
        (pss_one (ps_if (pt_not (pt_val (pe_cl Nt hr (by decide) (by rfl) (pa_cons (pv 2) pa_nil)))) (pss_one (ps_raise rfl (takes_of rfl rfl rfl rfl) (pmk_own PySem.F.excBase_ValueError N.x N.g N.k (raises_own N.b N.t) rfl))) pss_nil)))), ?_⟩
    refine ⟨_, rfl, a, rfl, ⟨_, SqL.of ha⟩, fun D hD => lc_it (walk_list (xs := ws)) (fun i H' => Same H H' ∧ H' D = some (.lst (((ws.take i).map wordV).map V.bl))) ⟨same_new hD, upd_same⟩ (fun i H' _ p => SqL.of (p.1 _ _ ha)) ?_ ?_⟩
    · rintro i v H1 H2 hi ⟨s1, d1⟩ ⟨rfl, hv⟩
      refine ⟨rfl, yes (iteT ⟨_, rfl, v, rfl, (hw v (List.mem_of_getElem? hv)).same s1, fun H3 s3 => ⟨_, s3 _ _ d1, ?_, ?_, ?_⟩⟩)⟩
      · rw [List.length_map, List.length_map, List.length_take]
        have e : sizeLine = 16777216 := by decide
        omega
      · intro b o e
        have hb : b ≠ D := ne_of_none e hD
        rw [upd_ne hb]
        exact s3 _ _ (s1 _ _ e)
      · rw [upd_same, take_more hv, List.map_append, List.map_append]
        rfl
    · rintro H1 ⟨s1, d1⟩
      refine ⟨D, (ws.take ws.length).map wordV, rfl, SqL.of d1, _, rfl, ?_⟩
      have ea : ((ws.take ws.length).map wordV).all id = ws.all wordV := by rw [List.take_length, List.all_map]; rfl
      rw [ea]
      cases h1 : ws.all wordV with
      | false =>
        refine iteT ?_
        have k' := k H1 s1
        rw [if_neg (by unfold okF; rw [h1]; simp)] at k'
        exact k'
      | true =>
        refine iteF ⟨_, rfl, c, 1, 1000000000000, rfl, tc.same s1, _, rfl, ?_⟩
        cases h2 : wholeV 1 1000000000000 c with
        | false =>
          refine iteT ?_
          have k' := k H1 s1
          rw [if_neg (by unfold okF; rw [h2]; simp)] at k'
          exact k'
        | true =>
          refine iteF ⟨_, rfl, n, rfl, tn.same s1, fun H2 s2 => ⟨_, rfl, ?_⟩⟩
          have k' := k H2 (s1.trans s2)
          cases h3 : noteV n with
          | false =>
            refine iteT ?_
            rw [if_neg (by unfold okF; rw [h3]; simp)] at k'
            exact k'
          | true =>
            refine iteF ?_
            rw [if_pos (by unfold okF; rw [h1, h2, h3]; rfl)] at k'
            exact k'
end
end KP
namespace KP
open PySem L2 KM KD
/-- the sorts of an entry's fields: 0 a word, 1 coins, 2 until, 3 a note -/
def sorts : Nat → List Nat
  | 0 => [0, 1, 3] | 1 => [0, 1, 2, 3] | 2 => [0, 0, 1, 3] | 3 => [0, 1, 3] | 4 => [0, 0, 1, 3] | 5 => [0, 1, 3] | 6 => [0, 1, 3] | _ => []
def fieldV : Nat → V → Bool
  | 0 => wordV | 1 => wholeV 1 1000000000000 | 2 => wholeV 2 31 | _ => noteV
def goodV (k : Nat) (vs : List V) : Bool := decide (vs.length = (sorts k).length) && (List.zipWith fieldV (sorts k) vs).all id && (k != 2 || decide (vs[0]? ≠ vs[1]?))
def spInitB (C : Nat → Addr) (Cn : Addr) (k : Nat) : Sp := fun vs H _ E => ∃ (p dx : Addr) (as : List V), vs = .ref p :: as ∧ as.length = (sorts k).length ∧ (∀ v ∈ as, Th H v) ∧ H p = some (.ins (C k) dx []) ∧ goodV k as = false ∧ ∀ H', Same H H' → E (.ref Cn) none H'
theorem len3 {α : Type} {l : List α} (h : l.length = 3) : ∃ a b c, l = [a, b, c] := match l, h with | [a, b, c], _ => ⟨a, b, c, rfl⟩
theorem len4 {α : Type} {l : List α} (h : l.length = 4) : ∃ a b c d, l = [a, b, c, d] := match l, h with | [a, b, c, d], _ => ⟨a, b, c, d, rfl⟩
section
variable {P : Program} {w : World} {K : PySem.W.Frag} {mg : Str → Option Value} {base : Heap} {Cn : Addr} {C : Nat → Addr}
theorem ib_give (B : Base K mg) (N : ErrF K mg "NoEntry" Cn) (Wh : Cal P w K mg base 1 "is_whole" spWholeV) (Ck : CalX P w K mg base 3 "check_fields" (spCheckX Cn)) (T : ClsT K mg "Give" "Give.__init__" "Give.told" (C 0) sIGive sTGive ["self", "head", "coins", "note"] ["head", "coins", "note"]) : MakX P w K mg base 4 "Give" (C 0) (spInitB C Cn 0) := by
  obtain ⟨f, fd, M, F, b⟩ := T.init
  obtain ⟨tLU, hLU⟩ := B.leastU
  obtain ⟨tMU, hMU⟩ := B.mostU
  refine ⟨f, fd, _, M, F.okX scIGive (fun vs H Q E h => ?_) (fun cdv A outer s H vs Q E hr h => ?_), T.mgC, b⟩
  · obtain ⟨p, dx, as, rfl, hl, _⟩ := h
    obtain ⟨x0, x1, x2, rfl⟩ := len3 hl
    rfl
  · obtain ⟨p, dx, as, rfl, hle, th, hp, hg, k⟩ := h
    obtain ⟨x0, x1, x2, rfl⟩ := len3 hle
    refine ⟨_, (pss_cons (ps_expr (pe_clX Ck hr (by decide) (fun σ => passAt (takes_of rfl rfl rfl rfl) σ) (by rfl) (pa_cons (pe_lst (pa_cons (pv 1) pa_nil)) (pa_cons (pv 2) (pa_cons (pv 3) pa_nil)))))
        (pss_cons ps_never
        (pss_cons ps_never
        (pss_one ps_never)))), ?_⟩
    refine ⟨_, rfl, (by show 1 ≤ sizeLine; decide), fun l hl => ⟨_, rfl, _, rfl, l, [x0], x1, x2, rfl, upd_same, (fun v hv => by simp only [List.mem_cons, List.not_mem_nil, or_false] at hv; rw [hv]; exact (th x0 (by simp)).same (same_new hl)), (by simp), (th _ (by simp)).same (same_new hl), (th _ (by simp)).same (same_new hl), fun H1 s1 => ?_⟩⟩
    have s0 : Same H H1 := (same_new hl).trans s1
    have h0 : okF [x0] x1 x2 = false := by
      cases h0 : okF [x0] x1 x2 with
      | false => rfl
      | true => simp [goodV, sorts, fieldV, okF] at hg h0; simp [h0] at hg
    exact ifF (by rw [h0]; simp) (k _ s0)
theorem ib_hold (B : Base K mg) (N : ErrF K mg "NoEntry" Cn) (Wh : Cal P w K mg base 1 "is_whole" spWholeV) (Ck : CalX P w K mg base 3 "check_fields" (spCheckX Cn)) (T : ClsT K mg "Hold" "Hold.__init__" "Hold.told" (C 1) sIHold sTHold ["self", "head", "coins", "until", "note"] ["head", "coins", "until", "note"]) : MakX P w K mg base 4 "Hold" (C 1) (spInitB C Cn 1) := by
  obtain ⟨f, fd, M, F, b⟩ := T.init
  obtain ⟨tLU, hLU⟩ := B.leastU
  obtain ⟨tMU, hMU⟩ := B.mostU
  refine ⟨f, fd, _, M, F.okX scIHold (fun vs H Q E h => ?_) (fun cdv A outer s H vs Q E hr h => ?_), T.mgC, b⟩
  · obtain ⟨p, dx, as, rfl, hl, _⟩ := h
    obtain ⟨x0, x1, x2, x3, rfl⟩ := len4 hl
    rfl
  · obtain ⟨p, dx, as, rfl, hle, th, hp, hg, k⟩ := h
    obtain ⟨x0, x1, x2, x3, rfl⟩ := len4 hle
    refine ⟨_, (pss_cons (ps_expr (pe_clX Ck hr (by decide) (fun σ => passAt (takes_of rfl rfl rfl rfl) σ) (by rfl) (pa_cons (pe_lst (pa_cons (pv 1) pa_nil)) (pa_cons (pv 2) (pa_cons (pv 4) pa_nil)))))
        (pss_cons (ps_if (pt_not (pt_val (pe_cl Wh hr (by decide) (by rfl) (pa_cons (pv 3) (pa_cons (pe_glob (v := .int 2) rfl hLU ⟨_, rfl⟩) (pa_cons (pe_glob (v := .int 31) rfl hMU ⟨_, rfl⟩) pa_nil)))))) (pss_one (ps_raise rfl (takes_of rfl rfl rfl rfl) (pmk_own PySem.F.excBase_ValueError N.x N.g N.k (raises_own N.b N.t) rfl))) pss_nil)
        (pss_cons ps_never
        (pss_cons ps_never
        (pss_cons ps_never
        (pss_one ps_never)))))), ?_⟩
    refine ⟨_, rfl, (by show 1 ≤ sizeLine; decide), fun l hl => ⟨_, rfl, _, rfl, l, [x0], x1, x3, rfl, upd_same, (fun v hv => by simp only [List.mem_cons, List.not_mem_nil, or_false] at hv; rw [hv]; exact (th x0 (by simp)).same (same_new hl)), (by simp), (th _ (by simp)).same (same_new hl), (th _ (by simp)).same (same_new hl), fun H1 s1 => ?_⟩⟩
    have s0 : Same H H1 := (same_new hl).trans s1
    cases h0 : okF [x0] x1 x3 with
    | false => exact ifF (by simp) (k _ s0)
    | true =>
      refine ifT rfl ⟨_, rfl, x2, 2, 31, rfl, (th _ (by simp)).same s0, _, rfl, ?_⟩
      have e : wholeV 2 31 x2 = false := by
        cases h2 : wholeV 2 31 x2 with
        | false => rfl
        | true => simp [goodV, sorts, fieldV, okF] at hg h0; simp [h0, h2] at hg
      rw [e]
      exact iteT (k _ s0)
theorem ib_move (B : Base K mg) (N : ErrF K mg "NoEntry" Cn) (Wh : Cal P w K mg base 1 "is_whole" spWholeV) (Ck : CalX P w K mg base 3 "check_fields" (spCheckX Cn)) (T : ClsT K mg "Move" "Move.__init__" "Move.told" (C 2) sIMove sTMove ["self", "head", "other", "coins", "note"] ["head", "other", "coins", "note"]) : MakX P w K mg base 4 "Move" (C 2) (spInitB C Cn 2) := by
  obtain ⟨f, fd, M, F, b⟩ := T.init
  obtain ⟨tLU, hLU⟩ := B.leastU
  obtain ⟨tMU, hMU⟩ := B.mostU
  refine ⟨f, fd, _, M, F.okX scIMove (fun vs H Q E h => ?_) (fun cdv A outer s H vs Q E hr h => ?_), T.mgC, b⟩
  · obtain ⟨p, dx, as, rfl, hl, _⟩ := h
    obtain ⟨x0, x1, x2, x3, rfl⟩ := len4 hl
    rfl
  · obtain ⟨p, dx, as, rfl, hle, th, hp, hg, k⟩ := h
    obtain ⟨x0, x1, x2, x3, rfl⟩ := len4 hle
    refine ⟨_, (pss_cons (ps_expr (pe_clX Ck hr (by decide) (fun σ => passAt (takes_of rfl rfl rfl rfl) σ) (by rfl) (pa_cons (pe_lst (pa_cons (pv 1) (pa_cons (pv 2) pa_nil))) (pa_cons (pv 3) (pa_cons (pv 4) pa_nil)))))
        (pss_cons (ps_if (pt_cmpR (op_eqX hr.units) (pv 1) (pv 2) (nomark _)) (pss_one (ps_raise rfl (takes_of rfl rfl rfl rfl) (pmk_own PySem.F.excBase_ValueError N.x N.g N.k (raises_own N.b N.t) rfl))) pss_nil)
        (pss_cons ps_never
        (pss_cons ps_never
        (pss_cons ps_never
        (pss_one ps_never)))))), ?_⟩
    refine ⟨_, rfl, _, rfl, (by show 2 ≤ sizeLine; decide), fun l hl => ⟨_, rfl, _, rfl, l, [x0, x1], x2, x3, rfl, upd_same, (fun v hv => by simp only [List.mem_cons, List.not_mem_nil, or_false] at hv; rcases hv with rfl | rfl; exact (th _ (by simp)).same (same_new hl); exact (th _ (by simp)).same (same_new hl)), (by simp), (th _ (by simp)).same (same_new hl), (th _ (by simp)).same (same_new hl), fun H1 s1 => ?_⟩⟩
    have s0 : Same H H1 := (same_new hl).trans s1
    cases h0 : okF [x0, x1] x2 x3 with
    | false => exact ifF (by simp) (k _ s0)
    | true =>
      have hx : x0 = x1 := by
        simp [goodV, sorts, fieldV, okF] at hg h0
        simp [h0] at hg
        exact hg
      subst hx
      obtain ⟨z, rfl⟩ : ∃ z, x0 = .str z := by
        have : wordV x0 = true := by simp [okF] at h0; simp [h0]
        cases x0 <;> first | exact ⟨_, rfl⟩ | exact absurd this (by simp [wordV])
      refine ifT rfl ⟨_, rfl, _, rfl, .inl ⟨⟨_, rfl⟩, (th _ (by simp)).same s0⟩, _, rfl, ?_⟩
      rw [decide_eq_true rfl]
      exact iteT (k _ s0)
theorem ib_spend (B : Base K mg) (N : ErrF K mg "NoEntry" Cn) (Wh : Cal P w K mg base 1 "is_whole" spWholeV) (Ck : CalX P w K mg base 3 "check_fields" (spCheckX Cn)) (T : ClsT K mg "Spend" "Spend.__init__" "Spend.told" (C 3) sISpend sTSpend ["self", "head", "coins", "note"] ["head", "coins", "note"]) : MakX P w K mg base 4 "Spend" (C 3) (spInitB C Cn 3) := by
  obtain ⟨f, fd, M, F, b⟩ := T.init
  obtain ⟨tLU, hLU⟩ := B.leastU
  obtain ⟨tMU, hMU⟩ := B.mostU
  refine ⟨f, fd, _, M, F.okX scISpend (fun vs H Q E h => ?_) (fun cdv A outer s H vs Q E hr h => ?_), T.mgC, b⟩
  · obtain ⟨p, dx, as, rfl, hl, _⟩ := h
    obtain ⟨x0, x1, x2, rfl⟩ := len3 hl
    rfl
  · obtain ⟨p, dx, as, rfl, hle, th, hp, hg, k⟩ := h
    obtain ⟨x0, x1, x2, rfl⟩ := len3 hle
    refine ⟨_, (pss_cons (ps_expr (pe_clX Ck hr (by decide) (fun σ => passAt (takes_of rfl rfl rfl rfl) σ) (by rfl) (pa_cons (pe_lst (pa_cons (pv 1) pa_nil)) (pa_cons (pv 2) (pa_cons (pv 3) pa_nil)))))
        (pss_cons ps_never
        (pss_cons ps_never
        (pss_one ps_never)))), ?_⟩
    refine ⟨_, rfl, (by show 1 ≤ sizeLine; decide), fun l hl => ⟨_, rfl, _, rfl, l, [x0], x1, x2, rfl, upd_same, (fun v hv => by simp only [List.mem_cons, List.not_mem_nil, or_false] at hv; rw [hv]; exact (th x0 (by simp)).same (same_new hl)), (by simp), (th _ (by simp)).same (same_new hl), (th _ (by simp)).same (same_new hl), fun H1 s1 => ?_⟩⟩
    have s0 : Same H H1 := (same_new hl).trans s1
    have h0 : okF [x0] x1 x2 = false := by
      cases h0 : okF [x0] x1 x2 with
      | false => rfl
      | true => simp [goodV, sorts, fieldV, okF] at hg h0; simp [h0] at hg
    exact ifF (by rw [h0]; simp) (k _ s0)
theorem ib_promise (B : Base K mg) (N : ErrF K mg "NoEntry" Cn) (Wh : Cal P w K mg base 1 "is_whole" spWholeV) (Ck : CalX P w K mg base 3 "check_fields" (spCheckX Cn)) (T : ClsT K mg "Promise" "Promise.__init__" "Promise.told" (C 4) sIPromise sTPromise ["self", "word", "head", "coins", "note"] ["word", "head", "coins", "note"]) : MakX P w K mg base 4 "Promise" (C 4) (spInitB C Cn 4) := by
  obtain ⟨f, fd, M, F, b⟩ := T.init
  obtain ⟨tLU, hLU⟩ := B.leastU
  obtain ⟨tMU, hMU⟩ := B.mostU
  refine ⟨f, fd, _, M, F.okX scIPromise (fun vs H Q E h => ?_) (fun cdv A outer s H vs Q E hr h => ?_), T.mgC, b⟩
  · obtain ⟨p, dx, as, rfl, hl, _⟩ := h
    obtain ⟨x0, x1, x2, x3, rfl⟩ := len4 hl
    rfl
  · obtain ⟨p, dx, as, rfl, hle, th, hp, hg, k⟩ := h
    obtain ⟨x0, x1, x2, x3, rfl⟩ := len4 hle
    refine ⟨_, (pss_cons (ps_expr (pe_clX Ck hr (by decide) (fun σ => passAt (takes_of rfl rfl rfl rfl) σ) (by rfl) (pa_cons (pe_lst (pa_cons (pv 1) (pa_cons (pv 2) pa_nil))) (pa_cons (pv 3) (pa_cons (pv 4) pa_nil)))))
        (pss_cons ps_never
        (pss_cons ps_never
        (pss_cons ps_never
        (pss_one ps_never))))), ?_⟩
    refine ⟨_, rfl, _, rfl, (by show 2 ≤ sizeLine; decide), fun l hl => ⟨_, rfl, _, rfl, l, [x0, x1], x2, x3, rfl, upd_same, (fun v hv => by simp only [List.mem_cons, List.not_mem_nil, or_false] at hv; rcases hv with rfl | rfl; exact (th _ (by simp)).same (same_new hl); exact (th _ (by simp)).same (same_new hl)), (by simp), (th _ (by simp)).same (same_new hl), (th _ (by simp)).same (same_new hl), fun H1 s1 => ?_⟩⟩
    have s0 : Same H H1 := (same_new hl).trans s1
    have h0 : okF [x0, x1] x2 x3 = false := by
      cases h0 : okF [x0, x1] x2 x3 with
      | false => rfl
      | true => simp [goodV, sorts, fieldV, okF] at hg h0; simp [h0] at hg
    exact ifF (by rw [h0]; simp) (k _ s0)
theorem ib_lessen (B : Base K mg) (N : ErrF K mg "NoEntry" Cn) (Wh : Cal P w K mg base 1 "is_whole" spWholeV) (Ck : CalX P w K mg base 3 "check_fields" (spCheckX Cn)) (T : ClsT K mg "Lessen" "Lessen.__init__" "Lessen.told" (C 5) sILessen sTLessen ["self", "word", "coins", "note"] ["word", "coins", "note"]) : MakX P w K mg base 4 "Lessen" (C 5) (spInitB C Cn 5) := by
  obtain ⟨f, fd, M, F, b⟩ := T.init
  obtain ⟨tLU, hLU⟩ := B.leastU
  obtain ⟨tMU, hMU⟩ := B.mostU
  refine ⟨f, fd, _, M, F.okX scILessen (fun vs H Q E h => ?_) (fun cdv A outer s H vs Q E hr h => ?_), T.mgC, b⟩
  · obtain ⟨p, dx, as, rfl, hl, _⟩ := h
    obtain ⟨x0, x1, x2, rfl⟩ := len3 hl
    rfl
  · obtain ⟨p, dx, as, rfl, hle, th, hp, hg, k⟩ := h
    obtain ⟨x0, x1, x2, rfl⟩ := len3 hle
    refine ⟨_, (pss_cons (ps_expr (pe_clX Ck hr (by decide) (fun σ => passAt (takes_of rfl rfl rfl rfl) σ) (by rfl) (pa_cons (pe_lst (pa_cons (pv 1) pa_nil)) (pa_cons (pv 2) (pa_cons (pv 3) pa_nil)))))
        (pss_cons ps_never
        (pss_cons ps_never
        (pss_one ps_never)))), ?_⟩
    refine ⟨_, rfl, (by show 1 ≤ sizeLine; decide), fun l hl => ⟨_, rfl, _, rfl, l, [x0], x1, x2, rfl, upd_same, (fun v hv => by simp only [List.mem_cons, List.not_mem_nil, or_false] at hv; rw [hv]; exact (th x0 (by simp)).same (same_new hl)), (by simp), (th _ (by simp)).same (same_new hl), (th _ (by simp)).same (same_new hl), fun H1 s1 => ?_⟩⟩
    have s0 : Same H H1 := (same_new hl).trans s1
    have h0 : okF [x0] x1 x2 = false := by
      cases h0 : okF [x0] x1 x2 with
      | false => rfl
      | true => simp [goodV, sorts, fieldV, okF] at hg h0; simp [h0] at hg
    exact ifF (by rw [h0]; simp) (k _ s0)
theorem ib_out (B : Base K mg) (N : ErrF K mg "NoEntry" Cn) (Wh : Cal P w K mg base 1 "is_whole" spWholeV) (Ck : CalX P w K mg base 3 "check_fields" (spCheckX Cn)) (T : ClsT K mg "Out" "Out.__init__" "Out.told" (C 6) sIOut sTOut ["self", "word", "coins", "note"] ["word", "coins", "note"]) : MakX P w K mg base 4 "Out" (C 6) (spInitB C Cn 6) := by
  obtain ⟨f, fd, M, F, b⟩ := T.init
  obtain ⟨tLU, hLU⟩ := B.leastU
  obtain ⟨tMU, hMU⟩ := B.mostU
  refine ⟨f, fd, _, M, F.okX scIOut (fun vs H Q E h => ?_) (fun cdv A outer s H vs Q E hr h => ?_), T.mgC, b⟩
  · obtain ⟨p, dx, as, rfl, hl, _⟩ := h
    obtain ⟨x0, x1, x2, rfl⟩ := len3 hl
    rfl
  · obtain ⟨p, dx, as, rfl, hle, th, hp, hg, k⟩ := h
    obtain ⟨x0, x1, x2, rfl⟩ := len3 hle
    refine ⟨_, (pss_cons (ps_expr (pe_clX Ck hr (by decide) (fun σ => passAt (takes_of rfl rfl rfl rfl) σ) (by rfl) (pa_cons (pe_lst (pa_cons (pv 1) pa_nil)) (pa_cons (pv 2) (pa_cons (pv 3) pa_nil)))))
        (pss_cons ps_never
        (pss_cons ps_never
        (pss_one ps_never)))), ?_⟩
    refine ⟨_, rfl, (by show 1 ≤ sizeLine; decide), fun l hl => ⟨_, rfl, _, rfl, l, [x0], x1, x2, rfl, upd_same, (fun v hv => by simp only [List.mem_cons, List.not_mem_nil, or_false] at hv; rw [hv]; exact (th x0 (by simp)).same (same_new hl)), (by simp), (th _ (by simp)).same (same_new hl), (th _ (by simp)).same (same_new hl), fun H1 s1 => ?_⟩⟩
    have s0 : Same H H1 := (same_new hl).trans s1
    have h0 : okF [x0] x1 x2 = false := by
      cases h0 : okF [x0] x1 x2 with
      | false => rfl
      | true => simp [goodV, sorts, fieldV, okF] at hg h0; simp [h0] at hg
    exact ifF (by rw [h0]; simp) (k _ s0)
end
end KP
namespace KP
open PySem L2 KM KD
structure Bad7 (P : Program) (w : World) (K : PySem.W.Frag) (mg : Str → Option Value) (base : Heap) (C : Nat → Addr) (Cn : Addr) : Prop where
  i0 : MakX P w K mg base 4 "Give" (C 0) (spInitB C Cn 0)
  i1 : MakX P w K mg base 4 "Hold" (C 1) (spInitB C Cn 1)
  i2 : MakX P w K mg base 4 "Move" (C 2) (spInitB C Cn 2)
  i3 : MakX P w K mg base 4 "Spend" (C 3) (spInitB C Cn 3)
  i4 : MakX P w K mg base 4 "Promise" (C 4) (spInitB C Cn 4)
  i5 : MakX P w K mg base 4 "Lessen" (C 5) (spInitB C Cn 5)
  i6 : MakX P w K mg base 4 "Out" (C 6) (spInitB C Cn 6)
def TupBad (xs : List V) : Prop := ∀ k < 7, ∀ as, xs = .str (kindOf k) :: as → goodV k as = false
def ReadBad (H : Hp) (v : V) : Prop := Th H v ∧ ∀ a xs, v = .ref a → H a = some (.tup xs) → (∀ x ∈ xs, Th H x) ∧ TupBad xs
def MadeBad (H : Hp) (v : V) : Prop := ∃ (t : Addr) (k : Nat) (as : List V), v = .ref t ∧ H t = some (.tup (.str (kindOf k) :: as)) ∧ k < 7 ∧ as.length = (sorts k).length ∧ (∀ x ∈ as, Th H x) ∧ goodV k as = false
theorem Th.at {H : Hp} {a : Addr} (t : Th H (.ref a)) : ∃ o, H a = some o := by
  cases t with
  | lst h => exact ⟨_, h⟩
  | tup h => exact ⟨_, h⟩
  | dct h => exact ⟨_, h⟩
theorem ReadBad.same {H H' : Hp} {v : V} (h : ReadBad H v) (s : Same H H') : ReadBad H' v := by
  refine ⟨h.1.same s, fun a xs e hx => ?_⟩
  subst e
  obtain ⟨o, ho⟩ := Th.at h.1
  have := s _ _ ho
  rw [hx] at this
  cases this
  obtain ⟨t, b⟩ := h.2 a xs rfl ho
  exact ⟨fun x hx => (t x hx).same s, b⟩
theorem MadeBad.same {H H' : Hp} {v : V} (h : MadeBad H v) (s : Same H H') : MadeBad H' v := by
  obtain ⟨t, k, as, e, ht, hk, hl, th, g⟩ := h
  exact ⟨t, k, as, e, s _ _ ht, hk, hl, fun x hx => (th x hx).same s, g⟩
def spReadB (Cn : Addr) : Sp := fun vs H _ E => ∃ v : V, vs = [v] ∧ ReadBad H v ∧ ∀ H', Same H H' → E (.ref Cn) none H'
def spMadeB (Cn : Addr) : Sp := fun vs H _ E => ∃ v : V, vs = [v] ∧ MadeBad H v ∧ ∀ H', Same H H' → E (.ref Cn) none H'
theorem same_inst {H : Hp} {x dx C : Addr} (nx : H x = none) (ndx : H dx = none) : Same H (upd (upd H dx (.own x)) x (.ins C dx [])) := fun b o e => by
  rw [upd_ne (ne_of_none e nx), upd_ne (ne_of_none e ndx)]
  exact e
theorem mc_bad {K : PySem.W.Frag} {a : Addr} {xs : List V} {n : Nat} {k : Str} {js : List Nat} {tb : TS} {rest : V → TS} {D : Ends} {σ : L2.St} {H : Hp} (ha : H a = some (.tup xs)) (th : ∀ x ∈ xs, Th H x)
    (hit : ∀ ys, xs = .str k :: ys → ys.length = n → tb D (setAll σ js ys) H) (hr : rest (.ref a) D σ H) : mCase K rEqX k n js tb rest (.ref a) D σ H := by
  refine ⟨a, xs, rfl, SqT.of ha, ?_⟩
  by_cases hl : xs.length = n + 1
  · cases xs with
    | nil => exact absurd hl (by simp)
    | cons y ys =>
      refine .inr ⟨hl, y, ys, rfl, .inl ⟨⟨_, rfl⟩, th y (by simp)⟩, _, rfl, ?_⟩
      by_cases e : y = .str k
      · exact ifT (decide_eq_true e) (hit ys (by rw [e]) (by simpa using hl))
      · exact ifF (by rw [decide_eq_false e]; exact Bool.false_ne_true) hr
  · exact .inl ⟨hl, hr⟩
section
variable {P : Program} {w : World} {K : PySem.W.Frag} {mg : Str → Option Value} {base : Heap} {Cn : Addr} {C : Nat → Addr}
theorem c_readB (B : Base K mg) (N : ErrF K mg "NoEntry" Cn) (S : Bad7 P w K mg base C Cn) (D : DefT K mg "read_entry" sRead ["told"]) : CalX P w K mg base 6 "read_entry" (spReadB Cn) := by
  obtain ⟨f, fd, F, b, m⟩ := D.ex
  refine ⟨f, fd, _, F.okX scRead (fun vs H Q E h => ?_) (fun cdv A outer s H vs Q E hr h => ?_), m, F.kp, b⟩
  · obtain ⟨v, rfl, _⟩ := h
    rfl
  · obtain ⟨v, rfl, hb, k⟩ := h
    refine ⟨_, (pss_cons (ps_if (pt_not (pt_val (pe_callB call_isi (by rfl) B.isi (by decide +kernel) (pa_cons (pv 0) (pa_cons (pe_bltn (v := .ty "tuple") (by rfl) B.tuple (by decide +kernel) rfl) pa_nil))))) (pss_one (ps_raise rfl (takes_of rfl rfl rfl rfl) (pmk_own PySem.F.excBase_ValueError N.x N.g N.k (raises_own N.b N.t) rfl))) pss_nil)
        (pss_cons (ps_match (pv 0)
          (pm_case rfl (op_eqX hr.units) (caps_cons (caps_cons (caps_cons caps_nil))) (stores_cons (i := 1) scRead.nd (stores_cons (i := 2) scRead.nd (stores_cons (i := 3) scRead.nd stores_nil rfl (by first | exact Or.inl rfl | exact Or.inr rfl)) rfl (by first | exact Or.inl rfl | exact Or.inr rfl)) rfl (by first | exact Or.inl rfl | exact Or.inr rfl)) (pss_one (ps_ret (pe_mkX S.i0 hr (by decide) (passes_call (takes_of rfl rfl rfl rfl) (fun _ _ _ _ h => h)) (by rfl) (pa_cons (pv 1) (pa_cons (pv 2) (pa_cons (pv 3) pa_nil))))))
          (pm_case rfl (op_eqX hr.units) (caps_cons (caps_cons (caps_cons (caps_cons caps_nil)))) (stores_cons (i := 1) scRead.nd (stores_cons (i := 2) scRead.nd (stores_cons (i := 4) scRead.nd (stores_cons (i := 3) scRead.nd stores_nil rfl (by first | exact Or.inl rfl | exact Or.inr rfl)) rfl (by first | exact Or.inl rfl | exact Or.inr rfl)) rfl (by first | exact Or.inl rfl | exact Or.inr rfl)) rfl (by first | exact Or.inl rfl | exact Or.inr rfl)) (pss_one (ps_ret (pe_mkX S.i1 hr (by decide) (passes_call (takes_of rfl rfl rfl rfl) (fun _ _ _ _ h => h)) (by rfl) (pa_cons (pv 1) (pa_cons (pv 2) (pa_cons (pv 4) (pa_cons (pv 3) pa_nil)))))))
          (pm_case rfl (op_eqX hr.units) (caps_cons (caps_cons (caps_cons (caps_cons caps_nil)))) (stores_cons (i := 1) scRead.nd (stores_cons (i := 5) scRead.nd (stores_cons (i := 2) scRead.nd (stores_cons (i := 3) scRead.nd stores_nil rfl (by first | exact Or.inl rfl | exact Or.inr rfl)) rfl (by first | exact Or.inl rfl | exact Or.inr rfl)) rfl (by first | exact Or.inl rfl | exact Or.inr rfl)) rfl (by first | exact Or.inl rfl | exact Or.inr rfl)) (pss_one (ps_ret (pe_mkX S.i2 hr (by decide) (passes_call (takes_of rfl rfl rfl rfl) (fun _ _ _ _ h => h)) (by rfl) (pa_cons (pv 1) (pa_cons (pv 5) (pa_cons (pv 2) (pa_cons (pv 3) pa_nil)))))))
          (pm_case rfl (op_eqX hr.units) (caps_cons (caps_cons (caps_cons caps_nil))) (stores_cons (i := 1) scRead.nd (stores_cons (i := 2) scRead.nd (stores_cons (i := 3) scRead.nd stores_nil rfl (by first | exact Or.inl rfl | exact Or.inr rfl)) rfl (by first | exact Or.inl rfl | exact Or.inr rfl)) rfl (by first | exact Or.inl rfl | exact Or.inr rfl)) (pss_one (ps_ret (pe_mkX S.i3 hr (by decide) (passes_call (takes_of rfl rfl rfl rfl) (fun _ _ _ _ h => h)) (by rfl) (pa_cons (pv 1) (pa_cons (pv 2) (pa_cons (pv 3) pa_nil))))))
          (pm_case rfl (op_eqX hr.units) (caps_cons (caps_cons (caps_cons (caps_cons caps_nil)))) (stores_cons (i := 6) scRead.nd (stores_cons (i := 1) scRead.nd (stores_cons (i := 2) scRead.nd (stores_cons (i := 3) scRead.nd stores_nil rfl (by first | exact Or.inl rfl | exact Or.inr rfl)) rfl (by first | exact Or.inl rfl | exact Or.inr rfl)) rfl (by first | exact Or.inl rfl | exact Or.inr rfl)) rfl (by first | exact Or.inl rfl | exact Or.inr rfl)) (pss_one (ps_ret (pe_mkX S.i4 hr (by decide) (passes_call (takes_of rfl rfl rfl rfl) (fun _ _ _ _ h => h)) (by rfl) (pa_cons (pv 6) (pa_cons (pv 1) (pa_cons (pv 2) (pa_cons (pv 3) pa_nil)))))))
          (pm_case rfl (op_eqX hr.units) (caps_cons (caps_cons (caps_cons caps_nil))) (stores_cons (i := 6) scRead.nd (stores_cons (i := 2) scRead.nd (stores_cons (i := 3) scRead.nd stores_nil rfl (by first | exact Or.inl rfl | exact Or.inr rfl)) rfl (by first | exact Or.inl rfl | exact Or.inr rfl)) rfl (by first | exact Or.inl rfl | exact Or.inr rfl)) (pss_one (ps_ret (pe_mkX S.i5 hr (by decide) (passes_call (takes_of rfl rfl rfl rfl) (fun _ _ _ _ h => h)) (by rfl) (pa_cons (pv 6) (pa_cons (pv 2) (pa_cons (pv 3) pa_nil))))))
          (pm_case rfl (op_eqX hr.units) (caps_cons (caps_cons (caps_cons caps_nil))) (stores_cons (i := 6) scRead.nd (stores_cons (i := 2) scRead.nd (stores_cons (i := 3) scRead.nd stores_nil rfl (by first | exact Or.inl rfl | exact Or.inr rfl)) rfl (by first | exact Or.inl rfl | exact Or.inr rfl)) rfl (by first | exact Or.inl rfl | exact Or.inr rfl)) (pss_one (ps_ret (pe_mkX S.i6 hr (by decide) (passes_call (takes_of rfl rfl rfl rfl) (fun _ _ _ _ h => h)) (by rfl) (pa_cons (pv 6) (pa_cons (pv 2) (pa_cons (pv 3) pa_nil))))))
          pm_nil))))))))
        (pss_one (ps_raise rfl (takes_of rfl rfl rfl rfl) (pmk_own PySem.F.excBase_ValueError N.x N.g N.k (raises_own N.b N.t) rfl))))), ?_⟩
    obtain ⟨t, hb⟩ := hb
    obtain ⟨u, tu, ku⟩ := th_tup (K := K) t
    refine ⟨_, rfl, _, _, _, _, _, rfl, .ty _, tu, ku, _, rfl, ?_⟩
    cases hi : isTp H v with
    | false => exact iteT (k _ (Same.refl _))
    | true =>
      obtain ⟨a, xs, rfl, ha⟩ : ∃ a xs, v = .ref a ∧ H a = some (.tup xs) := by
        cases t with
        | tup h => exact ⟨_, _, rfl, h⟩
        | lst h => simp [isTp, h] at hi
        | dct h => simp [isTp, h] at hi
        | _ => exact absurd hi (by simp [isTp])
      obtain ⟨th, bad⟩ := hb a xs rfl ha
      refine iteF ⟨_, rfl, ?_⟩
      refine mc_bad ha th (fun ys e hl => ?_) ?_
      · obtain ⟨x0, x1, x2, rfl⟩ := len3 hl
        subst e
        exact ⟨_, rfl, _, rfl, _, rfl, fun x dx nx ndx nex => ⟨x, dx, [x0, x1, x2], rfl, rfl, (fun v hv => (th v (List.mem_cons_of_mem _ hv)).same (same_inst nx ndx)), upd_same, bad 0 (by decide) _ rfl, fun H1 s1 => k _ ((same_inst nx ndx).trans s1)⟩⟩
      refine mc_bad ha th (fun ys e hl => ?_) ?_
      · obtain ⟨x0, x1, x2, x3, rfl⟩ := len4 hl
        subst e
        exact ⟨_, rfl, _, rfl, _, rfl, _, rfl, fun x dx nx ndx nex => ⟨x, dx, [x0, x1, x2, x3], rfl, rfl, (fun v hv => (th v (List.mem_cons_of_mem _ hv)).same (same_inst nx ndx)), upd_same, bad 1 (by decide) _ rfl, fun H1 s1 => k _ ((same_inst nx ndx).trans s1)⟩⟩
      refine mc_bad ha th (fun ys e hl => ?_) ?_
      · obtain ⟨x0, x1, x2, x3, rfl⟩ := len4 hl
        subst e
        exact ⟨_, rfl, _, rfl, _, rfl, _, rfl, fun x dx nx ndx nex => ⟨x, dx, [x0, x1, x2, x3], rfl, rfl, (fun v hv => (th v (List.mem_cons_of_mem _ hv)).same (same_inst nx ndx)), upd_same, bad 2 (by decide) _ rfl, fun H1 s1 => k _ ((same_inst nx ndx).trans s1)⟩⟩
      refine mc_bad ha th (fun ys e hl => ?_) ?_
      · obtain ⟨x0, x1, x2, rfl⟩ := len3 hl
        subst e
        exact ⟨_, rfl, _, rfl, _, rfl, fun x dx nx ndx nex => ⟨x, dx, [x0, x1, x2], rfl, rfl, (fun v hv => (th v (List.mem_cons_of_mem _ hv)).same (same_inst nx ndx)), upd_same, bad 3 (by decide) _ rfl, fun H1 s1 => k _ ((same_inst nx ndx).trans s1)⟩⟩
      refine mc_bad ha th (fun ys e hl => ?_) ?_
      · obtain ⟨x0, x1, x2, x3, rfl⟩ := len4 hl
        subst e
        exact ⟨_, rfl, _, rfl, _, rfl, _, rfl, fun x dx nx ndx nex => ⟨x, dx, [x0, x1, x2, x3], rfl, rfl, (fun v hv => (th v (List.mem_cons_of_mem _ hv)).same (same_inst nx ndx)), upd_same, bad 4 (by decide) _ rfl, fun H1 s1 => k _ ((same_inst nx ndx).trans s1)⟩⟩
      refine mc_bad ha th (fun ys e hl => ?_) ?_
      · obtain ⟨x0, x1, x2, rfl⟩ := len3 hl
        subst e
        exact ⟨_, rfl, _, rfl, _, rfl, fun x dx nx ndx nex => ⟨x, dx, [x0, x1, x2], rfl, rfl, (fun v hv => (th v (List.mem_cons_of_mem _ hv)).same (same_inst nx ndx)), upd_same, bad 5 (by decide) _ rfl, fun H1 s1 => k _ ((same_inst nx ndx).trans s1)⟩⟩
      refine mc_bad ha th (fun ys e hl => ?_) ?_
      · obtain ⟨x0, x1, x2, rfl⟩ := len3 hl
        subst e
        exact ⟨_, rfl, _, rfl, _, rfl, fun x dx nx ndx nex => ⟨x, dx, [x0, x1, x2], rfl, rfl, (fun v hv => (th v (List.mem_cons_of_mem _ hv)).same (same_inst nx ndx)), upd_same, bad 6 (by decide) _ rfl, fun H1 s1 => k _ ((same_inst nx ndx).trans s1)⟩⟩
      exact k _ (Same.refl _)
theorem c_madeB (N : ErrF K mg "NoEntry" Cn) (S : Bad7 P w K mg base C Cn) (D : DefT K mg "_law_made" sMade ["_law_told_here"]) : CalX P w K mg base 6 "_law_made" (spMadeB Cn) := by
  obtain ⟨f, fd, F, b, m⟩ := D.ex
  refine ⟨f, fd, _, F.okX scMade (fun vs H Q E h => ?_) (fun cdv A outer s H vs Q E hr h => ?_), m, F.kp, b⟩
  · obtain ⟨v, rfl, _⟩ := h
    rfl
  · obtain ⟨v, rfl, ⟨t, kk, as, rfl, ht, hk, hl, th, hg⟩, k⟩ := h
    refine ⟨_, (pss_cons (ps_if (pt_cmpR op_eq (pe_ix ix_tup (pv 0) pe_int (fun _ _ => rfl)) pe_str (nomark _)) (pss_one (ps_ret (pe_mkX S.i0 hr (by decide) (passes_call (takes_of rfl rfl rfl rfl) (fun _ _ _ _ h => h)) (by rfl) (pa_cons (pe_ix ix_tup (pv 0) pe_int (fun _ _ => rfl)) (pa_cons (pe_ix ix_tup (pv 0) pe_int (fun _ _ => rfl)) (pa_cons (pe_ix ix_tup (pv 0) pe_int (fun _ _ => rfl)) pa_nil)))))) pss_nil)
        (pss_cons (ps_if (pt_cmpR op_eq (pe_ix ix_tup (pv 0) pe_int (fun _ _ => rfl)) pe_str (nomark _)) (pss_one (ps_ret (pe_mkX S.i1 hr (by decide) (passes_call (takes_of rfl rfl rfl rfl) (fun _ _ _ _ h => h)) (by rfl) (pa_cons (pe_ix ix_tup (pv 0) pe_int (fun _ _ => rfl)) (pa_cons (pe_ix ix_tup (pv 0) pe_int (fun _ _ => rfl)) (pa_cons (pe_ix ix_tup (pv 0) pe_int (fun _ _ => rfl)) (pa_cons (pe_ix ix_tup (pv 0) pe_int (fun _ _ => rfl)) pa_nil))))))) pss_nil)
        (pss_cons (ps_if (pt_cmpR op_eq (pe_ix ix_tup (pv 0) pe_int (fun _ _ => rfl)) pe_str (nomark _)) (pss_one (ps_ret (pe_mkX S.i2 hr (by decide) (passes_call (takes_of rfl rfl rfl rfl) (fun _ _ _ _ h => h)) (by rfl) (pa_cons (pe_ix ix_tup (pv 0) pe_int (fun _ _ => rfl)) (pa_cons (pe_ix ix_tup (pv 0) pe_int (fun _ _ => rfl)) (pa_cons (pe_ix ix_tup (pv 0) pe_int (fun _ _ => rfl)) (pa_cons (pe_ix ix_tup (pv 0) pe_int (fun _ _ => rfl)) pa_nil))))))) pss_nil)
        (pss_cons (ps_if (pt_cmpR op_eq (pe_ix ix_tup (pv 0) pe_int (fun _ _ => rfl)) pe_str (nomark _)) (pss_one (ps_ret (pe_mkX S.i3 hr (by decide) (passes_call (takes_of rfl rfl rfl rfl) (fun _ _ _ _ h => h)) (by rfl) (pa_cons (pe_ix ix_tup (pv 0) pe_int (fun _ _ => rfl)) (pa_cons (pe_ix ix_tup (pv 0) pe_int (fun _ _ => rfl)) (pa_cons (pe_ix ix_tup (pv 0) pe_int (fun _ _ => rfl)) pa_nil)))))) pss_nil)
        (pss_cons (ps_if (pt_cmpR op_eq (pe_ix ix_tup (pv 0) pe_int (fun _ _ => rfl)) pe_str (nomark _)) (pss_one (ps_ret (pe_mkX S.i4 hr (by decide) (passes_call (takes_of rfl rfl rfl rfl) (fun _ _ _ _ h => h)) (by rfl) (pa_cons (pe_ix ix_tup (pv 0) pe_int (fun _ _ => rfl)) (pa_cons (pe_ix ix_tup (pv 0) pe_int (fun _ _ => rfl)) (pa_cons (pe_ix ix_tup (pv 0) pe_int (fun _ _ => rfl)) (pa_cons (pe_ix ix_tup (pv 0) pe_int (fun _ _ => rfl)) pa_nil))))))) pss_nil)
        (pss_cons (ps_if (pt_cmpR op_eq (pe_ix ix_tup (pv 0) pe_int (fun _ _ => rfl)) pe_str (nomark _)) (pss_one (ps_ret (pe_mkX S.i5 hr (by decide) (passes_call (takes_of rfl rfl rfl rfl) (fun _ _ _ _ h => h)) (by rfl) (pa_cons (pe_ix ix_tup (pv 0) pe_int (fun _ _ => rfl)) (pa_cons (pe_ix ix_tup (pv 0) pe_int (fun _ _ => rfl)) (pa_cons (pe_ix ix_tup (pv 0) pe_int (fun _ _ => rfl)) pa_nil)))))) pss_nil)
        (pss_one (ps_ret (pe_mkX S.i6 hr (by decide) (passes_call (takes_of rfl rfl rfl rfl) (fun _ _ _ _ h => h)) (by rfl) (pa_cons (pe_ix ix_tup (pv 0) pe_int (fun _ _ => rfl)) (pa_cons (pe_ix ix_tup (pv 0) pe_int (fun _ _ => rfl)) (pa_cons (pe_ix ix_tup (pv 0) pe_int (fun _ _ => rfl)) pa_nil)))))))))))), ?_⟩
    have hk7 : kk = 0 ∨ kk = 1 ∨ kk = 2 ∨ kk = 3 ∨ kk = 4 ∨ kk = 5 ∨ kk = 6 := by omega
    rcases hk7 with rfl | rfl | rfl | rfl | rfl | rfl | rfl
    · obtain ⟨x0, x1, x2, rfl⟩ := len3 hl
      refine ⟨_, rfl, t, _, 0, _, rfl, rfl, SqT.of ht, rfl, rfl, _, rfl, ?_⟩
      rw [show decide (V.str (kindOf 0) = V.str "give") = true by decide +kernel]
      refine iteT ?_
      exact ⟨_, rfl, t, _, 1, _, rfl, rfl, SqT.of ht, rfl, _, rfl, t, _, 2, _, rfl, rfl, SqT.of ht, rfl, _, rfl, t, _, 3, _, rfl, rfl, SqT.of ht, rfl, fun x dx nx ndx nex => ⟨x, dx, [x0, x1, x2], rfl, rfl, (fun v hv => (th v hv).same (same_inst nx ndx)), upd_same, hg, fun H1 s1 => k _ ((same_inst nx ndx).trans s1)⟩⟩
    · obtain ⟨x0, x1, x2, x3, rfl⟩ := len4 hl
      refine ⟨_, rfl, t, _, 0, _, rfl, rfl, SqT.of ht, rfl, rfl, _, rfl, ?_⟩
      rw [show decide (V.str (kindOf 1) = V.str "give") = false by decide +kernel]
      refine iteF ?_
      refine ⟨_, rfl, t, _, 0, _, rfl, rfl, SqT.of ht, rfl, rfl, _, rfl, ?_⟩
      rw [show decide (V.str (kindOf 1) = V.str "hold") = true by decide +kernel]
      refine iteT ?_
      exact ⟨_, rfl, t, _, 1, _, rfl, rfl, SqT.of ht, rfl, _, rfl, t, _, 2, _, rfl, rfl, SqT.of ht, rfl, _, rfl, t, _, 3, _, rfl, rfl, SqT.of ht, rfl, _, rfl, t, _, 4, _, rfl, rfl, SqT.of ht, rfl, fun x dx nx ndx nex => ⟨x, dx, [x0, x1, x2, x3], rfl, rfl, (fun v hv => (th v hv).same (same_inst nx ndx)), upd_same, hg, fun H1 s1 => k _ ((same_inst nx ndx).trans s1)⟩⟩
    · obtain ⟨x0, x1, x2, x3, rfl⟩ := len4 hl
      refine ⟨_, rfl, t, _, 0, _, rfl, rfl, SqT.of ht, rfl, rfl, _, rfl, ?_⟩
      rw [show decide (V.str (kindOf 2) = V.str "give") = false by decide +kernel]
      refine iteF ?_
      refine ⟨_, rfl, t, _, 0, _, rfl, rfl, SqT.of ht, rfl, rfl, _, rfl, ?_⟩
      rw [show decide (V.str (kindOf 2) = V.str "hold") = false by decide +kernel]
      refine iteF ?_
      refine ⟨_, rfl, t, _, 0, _, rfl, rfl, SqT.of ht, rfl, rfl, _, rfl, ?_⟩
      rw [show decide (V.str (kindOf 2) = V.str "move") = true by decide +kernel]
      refine iteT ?_
      exact ⟨_, rfl, t, _, 1, _, rfl, rfl, SqT.of ht, rfl, _, rfl, t, _, 2, _, rfl, rfl, SqT.of ht, rfl, _, rfl, t, _, 3, _, rfl, rfl, SqT.of ht, rfl, _, rfl, t, _, 4, _, rfl, rfl, SqT.of ht, rfl, fun x dx nx ndx nex => ⟨x, dx, [x0, x1, x2, x3], rfl, rfl, (fun v hv => (th v hv).same (same_inst nx ndx)), upd_same, hg, fun H1 s1 => k _ ((same_inst nx ndx).trans s1)⟩⟩
    · obtain ⟨x0, x1, x2, rfl⟩ := len3 hl
      refine ⟨_, rfl, t, _, 0, _, rfl, rfl, SqT.of ht, rfl, rfl, _, rfl, ?_⟩
      rw [show decide (V.str (kindOf 3) = V.str "give") = false by decide +kernel]
      refine iteF ?_
      refine ⟨_, rfl, t, _, 0, _, rfl, rfl, SqT.of ht, rfl, rfl, _, rfl, ?_⟩
      rw [show decide (V.str (kindOf 3) = V.str "hold") = false by decide +kernel]
      refine iteF ?_
      refine ⟨_, rfl, t, _, 0, _, rfl, rfl, SqT.of ht, rfl, rfl, _, rfl, ?_⟩
      rw [show decide (V.str (kindOf 3) = V.str "move") = false by decide +kernel]
      refine iteF ?_
      refine ⟨_, rfl, t, _, 0, _, rfl, rfl, SqT.of ht, rfl, rfl, _, rfl, ?_⟩
      rw [show decide (V.str (kindOf 3) = V.str "spend") = true by decide +kernel]
      refine iteT ?_
      exact ⟨_, rfl, t, _, 1, _, rfl, rfl, SqT.of ht, rfl, _, rfl, t, _, 2, _, rfl, rfl, SqT.of ht, rfl, _, rfl, t, _, 3, _, rfl, rfl, SqT.of ht, rfl, fun x dx nx ndx nex => ⟨x, dx, [x0, x1, x2], rfl, rfl, (fun v hv => (th v hv).same (same_inst nx ndx)), upd_same, hg, fun H1 s1 => k _ ((same_inst nx ndx).trans s1)⟩⟩
    · obtain ⟨x0, x1, x2, x3, rfl⟩ := len4 hl
      refine ⟨_, rfl, t, _, 0, _, rfl, rfl, SqT.of ht, rfl, rfl, _, rfl, ?_⟩
      rw [show decide (V.str (kindOf 4) = V.str "give") = false by decide +kernel]
      refine iteF ?_
      refine ⟨_, rfl, t, _, 0, _, rfl, rfl, SqT.of ht, rfl, rfl, _, rfl, ?_⟩
      rw [show decide (V.str (kindOf 4) = V.str "hold") = false by decide +kernel]
      refine iteF ?_
      refine ⟨_, rfl, t, _, 0, _, rfl, rfl, SqT.of ht, rfl, rfl, _, rfl, ?_⟩
      rw [show decide (V.str (kindOf 4) = V.str "move") = false by decide +kernel]
      refine iteF ?_
      refine ⟨_, rfl, t, _, 0, _, rfl, rfl, SqT.of ht, rfl, rfl, _, rfl, ?_⟩
      rw [show decide (V.str (kindOf 4) = V.str "spend") = false by decide +kernel]
      refine iteF ?_
      refine ⟨_, rfl, t, _, 0, _, rfl, rfl, SqT.of ht, rfl, rfl, _, rfl, ?_⟩
      rw [show decide (V.str (kindOf 4) = V.str "promise") = true by decide +kernel]
      refine iteT ?_
      exact ⟨_, rfl, t, _, 1, _, rfl, rfl, SqT.of ht, rfl, _, rfl, t, _, 2, _, rfl, rfl, SqT.of ht, rfl, _, rfl, t, _, 3, _, rfl, rfl, SqT.of ht, rfl, _, rfl, t, _, 4, _, rfl, rfl, SqT.of ht, rfl, fun x dx nx ndx nex => ⟨x, dx, [x0, x1, x2, x3], rfl, rfl, (fun v hv => (th v hv).same (same_inst nx ndx)), upd_same, hg, fun H1 s1 => k _ ((same_inst nx ndx).trans s1)⟩⟩
    · obtain ⟨x0, x1, x2, rfl⟩ := len3 hl
      refine ⟨_, rfl, t, _, 0, _, rfl, rfl, SqT.of ht, rfl, rfl, _, rfl, ?_⟩
      rw [show decide (V.str (kindOf 5) = V.str "give") = false by decide +kernel]
      refine iteF ?_
      refine ⟨_, rfl, t, _, 0, _, rfl, rfl, SqT.of ht, rfl, rfl, _, rfl, ?_⟩
      rw [show decide (V.str (kindOf 5) = V.str "hold") = false by decide +kernel]
      refine iteF ?_
      refine ⟨_, rfl, t, _, 0, _, rfl, rfl, SqT.of ht, rfl, rfl, _, rfl, ?_⟩
      rw [show decide (V.str (kindOf 5) = V.str "move") = false by decide +kernel]
      refine iteF ?_
      refine ⟨_, rfl, t, _, 0, _, rfl, rfl, SqT.of ht, rfl, rfl, _, rfl, ?_⟩
      rw [show decide (V.str (kindOf 5) = V.str "spend") = false by decide +kernel]
      refine iteF ?_
      refine ⟨_, rfl, t, _, 0, _, rfl, rfl, SqT.of ht, rfl, rfl, _, rfl, ?_⟩
      rw [show decide (V.str (kindOf 5) = V.str "promise") = false by decide +kernel]
      refine iteF ?_
      refine ⟨_, rfl, t, _, 0, _, rfl, rfl, SqT.of ht, rfl, rfl, _, rfl, ?_⟩
      rw [show decide (V.str (kindOf 5) = V.str "lessen") = true by decide +kernel]
      refine iteT ?_
      exact ⟨_, rfl, t, _, 1, _, rfl, rfl, SqT.of ht, rfl, _, rfl, t, _, 2, _, rfl, rfl, SqT.of ht, rfl, _, rfl, t, _, 3, _, rfl, rfl, SqT.of ht, rfl, fun x dx nx ndx nex => ⟨x, dx, [x0, x1, x2], rfl, rfl, (fun v hv => (th v hv).same (same_inst nx ndx)), upd_same, hg, fun H1 s1 => k _ ((same_inst nx ndx).trans s1)⟩⟩
    · obtain ⟨x0, x1, x2, rfl⟩ := len3 hl
      refine ⟨_, rfl, t, _, 0, _, rfl, rfl, SqT.of ht, rfl, rfl, _, rfl, ?_⟩
      rw [show decide (V.str (kindOf 6) = V.str "give") = false by decide +kernel]
      refine iteF ?_
      refine ⟨_, rfl, t, _, 0, _, rfl, rfl, SqT.of ht, rfl, rfl, _, rfl, ?_⟩
      rw [show decide (V.str (kindOf 6) = V.str "hold") = false by decide +kernel]
      refine iteF ?_
      refine ⟨_, rfl, t, _, 0, _, rfl, rfl, SqT.of ht, rfl, rfl, _, rfl, ?_⟩
      rw [show decide (V.str (kindOf 6) = V.str "move") = false by decide +kernel]
      refine iteF ?_
      refine ⟨_, rfl, t, _, 0, _, rfl, rfl, SqT.of ht, rfl, rfl, _, rfl, ?_⟩
      rw [show decide (V.str (kindOf 6) = V.str "spend") = false by decide +kernel]
      refine iteF ?_
      refine ⟨_, rfl, t, _, 0, _, rfl, rfl, SqT.of ht, rfl, rfl, _, rfl, ?_⟩
      rw [show decide (V.str (kindOf 6) = V.str "promise") = false by decide +kernel]
      refine iteF ?_
      refine ⟨_, rfl, t, _, 0, _, rfl, rfl, SqT.of ht, rfl, rfl, _, rfl, ?_⟩
      rw [show decide (V.str (kindOf 6) = V.str "lessen") = false by decide +kernel]
      refine iteF ?_
      exact ⟨_, rfl, t, _, 1, _, rfl, rfl, SqT.of ht, rfl, _, rfl, t, _, 2, _, rfl, rfl, SqT.of ht, rfl, _, rfl, t, _, 3, _, rfl, rfl, SqT.of ht, rfl, fun x dx nx ndx nex => ⟨x, dx, [x0, x1, x2], rfl, rfl, (fun v hv => (th v hv).same (same_inst nx ndx)), upd_same, hg, fun H1 s1 => k _ ((same_inst nx ndx).trans s1)⟩⟩
end
end KP
namespace KP
open PySem L2 KM KD
/-! ### isinstance of the error that a suite holds -/
def rIsX (K : PySem.W.Frag) (cls : Value) (d : Option Addr) (a : Addr) : List V → Hp → VK → Prop := fun xs H Q => ∃ (D : Addr) (c : V) (u : Value) (b : Bool), cls = .ref D ∧ d = none ∧ ExcC K D ∧ xs = [.ref a, c] ∧ ClsV c u ∧ PySem.W.kitOne K (.ref D) u = some b ∧ Q (.bl b) H
def rIsXT (K : PySem.W.Frag) (cls : Value) (d : Option Addr) (a : Addr) : List V → Hp → VK → Prop := fun xs H Q => ∃ (D tp : Addr) (cs : List V) (ws : List Value) (b : Bool), cls = .ref D ∧ d = none ∧ ExcC K D ∧ xs = [.ref a, .ref tp] ∧ H tp = some (.tup cs) ∧ Paired ClsV cs ws ∧ PySem.W.kitAny K (.ref D) ws = some b ∧ Q (.bl b) H
section
variable {X : Cx} {a : Addr} {oe : Obj} {pn : List (Addr × Obj)} {cls : Value} {d : Option Addr}
theorem inst_of {D : Addr} {pins : List (Addr × Obj)} {σ : L2.St} {H : Hp} {s : Shared} (hz : Zc (.ref D) none oe) (hf : ∃ vs, oe.data = .fields vs) (I : Inv (X.suite a ((a, oe) :: pn)) pins σ H s) : PySem.W.InstAt s.heap a oe D none := by
  obtain ⟨hget, _⟩ := I.pin (a, oe) (List.mem_append.mpr (.inl List.mem_cons_self))
  obtain ⟨vs, hv⟩ := hf
  obtain ⟨oc, od, oda, osl⟩ := oe
  obtain ⟨h1, h2⟩ := hz
  dsimp only at h1 h2 hv
  subst h1 h2 hv
  exact ⟨hget, rfl, rfl, trivial⟩
theorem call_isX (hz : Zc cls d oe) (hf : ∃ vs, oe.data = .fields vs) : CallR (X.suite a ((a, oe) :: pn)) (.builtin "isinstance") (rIsX X.K cls d a) := by
  intro pins s σ H xs us Q I r h
  obtain ⟨D, c, u, b, rfl, rfl, C, rfl, k, e, q⟩ := h
  obtain ⟨u1, u2, rfl, r1, r2⟩ := vals2 r
  have e2 := k.eq r2
  subst e2
  cases (show u1 = Value.ref a from r1)
  exact PySem.W.kia_one (PySem.W.handS_kitx_exc C.hg C.hk C.hs C.hd C.ha C.hn C.ht C.hm) I.kIn (inst_of hz hf I) e (fun z => nomatch z) fun tk => ⟨.bl b, H, I.tok tk, rfl, q⟩
theorem call_isXT (hz : Zc cls d oe) (hf : ∃ vs, oe.data = .fields vs) : CallR (X.suite a ((a, oe) :: pn)) (.builtin "isinstance") (rIsXT X.K cls d a) := by
  intro pins s σ H xs us Q I r h
  obtain ⟨D, tp, cs, ws, b, rfl, rfl, C, rfl, hT, k, e, q⟩ := h
  obtain ⟨u1, u2, rfl, r1, r2⟩ := vals2 r
  cases (show u2 = Value.ref tp from r2)
  cases (show u1 = Value.ref a from r1)
  obtain ⟨_, its, rv, o, h1, h2, n, h3⟩ := (show ObjOk X.prog X.w H s.heap tp (.tup cs) from I.hok tp _ hT)
  have e3 := ClsV.all k rv
  subst e3
  obtain ⟨oc, od, dt, sl⟩ := o
  simp only at h2 h3
  subst h2 h3
  exact PySem.W.kia_tup (PySem.W.handS_kitx_exc C.hg C.hk C.hs C.hd C.ha C.hn C.ht C.hm) I.kIn (inst_of hz hf I) h1 e (fun z => nomatch z) fun tk => ⟨.bl b, H, I.tok tk, rfl, q⟩
end
structure ErrAll (K : PySem.W.Frag) (mg : Str → Option Value) (Cn Cp : Addr) (cs : Nat → Addr) : Prop where
  m0 : mg "Full" = some (.ref (cs 0))
  m1 : mg "Leaned" = some (.ref (cs 1))
  m2 : mg "NoDay" = some (.ref (cs 2))
  m3 : mg "NoYear" = some (.ref (cs 3))
  m4 : mg "NoHead" = some (.ref (cs 4))
  m5 : mg "NoNumber" = some (.ref (cs 5))
  m6 : mg "NoPromise" = some (.ref (cs 6))
  m7 : mg "NoRow" = some (.ref (cs 7))
  m8 : mg "NoText" = some (.ref (cs 8))
  m9 : mg "Passed" = some (.ref (cs 9))
  m10 : mg "Taken" = some (.ref (cs 10))
  kit : ∀ i < 11, PySem.W.kitOne K (.ref Cn) (.ref (cs i)) = some false
  kitN : PySem.W.kitOne K (.ref Cn) (.ref Cn) = some true
  kitV : PySem.W.kitOne K (.ref Cn) (.type "ValueError") = some true
  exc : ExcC K Cn
  mP : mg "PurseError" = some (.ref Cp)
  exm : PySem.W.exmOne K (.ref Cn) (.ref Cp) = some true
  ve : mg "ValueError" = none
theorem kitAny_no {K : PySem.W.Frag} {t : Value} : ∀ {ws : List Value}, (∀ u ∈ ws, PySem.W.kitOne K t u = some false) → PySem.W.kitAny K t ws = some false
  | [], _ => rfl
  | u :: ws, h => by
    unfold PySem.W.kitAny
    rw [h u (by simp)]
    exact kitAny_no fun u' hu => h u' (by simp [hu])
abbrev sRef : Stmt := top 46
abbrev nRef : List Str := ["_law_told_here", "_law_doors", "_law_door", "_law_found", "e", "_law_others"]
theorem scRef : FnScope nRef ["_law_told_here", "_law_doors"] (defScope sRef) := ⟨rfl, rfl, rfl, by decide +kernel, rfl, by decide +kernel, by decide +kernel⟩
def spRefB : Sp := fun vs H Q _ => ∃ (v : V) (dl : Addr) (ds : List Int), vs = [v, .ref dl] ∧ H dl = some (.lst (ds.map V.int)) ∧ ReadBad H v ∧ ((∃ d ∈ ds, d ≠ 0) → MadeBad H v) ∧ ∀ H', Same H H' → Q (.bl true) H'
section
variable {P : Program} {w : World} {K : PySem.W.Frag} {mg : Str → Option Value} {base : Heap} {Cn Cp : Addr} {C cs : Nat → Addr}
theorem c_ref (B : Base K mg) (N : ErrF K mg "NoEntry" Cn) (Er : ErrAll K mg Cn Cp cs) (Rb : CalX P w K mg base 6 "read_entry" (spReadB Cn)) (Mb : CalX P w K mg base 6 "_law_made" (spMadeB Cn)) (D : DefT K mg "_law_refused" sRef ["_law_told_here", "_law_doors"]) :
    Cal P w K mg base 7 "_law_refused" spRefB := by
  refine cal D scRef (fun vs H Q E h => ?_) (fun f cdv A outer s H vs Q E hr h => ?_)
  · obtain ⟨v, dl, ds, rfl, _⟩ := h
    rfl
  · obtain ⟨v, dl, ds, rfl, hd, hb, hm, k⟩ := h
    have n9 : PySem.W.kitAny K (.ref Cn) [.ref (cs 0), .ref (cs 1), .ref (cs 2), .ref (cs 3), .ref (cs 4), .ref (cs 5), .ref (cs 6), .ref (cs 7), .ref (cs 8)] = some false := kitAny_no fun u hu => by
      simp only [List.mem_cons, List.not_mem_nil, or_false] at hu
      rcases hu with rfl | rfl | rfl | rfl | rfl | rfl | rfl | rfl | rfl <;> exact Er.kit _ (by decide)
    have n2 : PySem.W.kitAny K (.ref Cn) [.ref (cs 9), .ref (cs 10)] = some false := kitAny_no fun u hu => by
      simp only [List.mem_cons, List.not_mem_nil, or_false] at hu
      rcases hu with rfl | rfl <;> exact Er.kit _ (by decide)
    refine ⟨_, (pss_cons (ps_for PassesOwn.never rfl (pi_list (pv 1)) (pg_name (i := 2) scRef.nd rfl (by first | exact Or.inl rfl | exact Or.inr rfl)) (pss_cons (ps_set (i := 3) scRef.nd rfl (by first | exact Or.inl rfl | exact Or.inr rfl) pe_str)
        (pss_cons (ps_try_as (i := 4) rfl rfl scRef.nd rfl rfl ⟨rfl, by decide, .inl Er.mP⟩ takes0
        (fun W pn xe tk _ => (pss_one (ps_if (pt_cmpR op_eq (pv 2) pe_int (nomark _)) (pss_one (ps_expr (pe_clX Rb hr (by decide) (fun σ => passAt tk σ) (by rfl) (pa_cons (pv 0) pa_nil)))) (pss_one (ps_expr (pe_clX Mb hr (by decide) (fun σ => passAt tk σ) (by rfl) (pa_cons (pv 0) pa_nil)))))))
        (fun a oe cls d pn hz hf => (pss_cons (ps_set (i := 5) scRef.nd rfl (Or.inl rfl) (pe_callB (call_isXT hz hf) (by rfl) B.isi (by decide +kernel) (pa_cons (pv 4) (pa_cons (pe_tup (pa_cons (pe_glob (v := .ref (cs 0)) rfl Er.m0 rfl) (pa_cons (pe_glob (v := .ref (cs 1)) rfl Er.m1 rfl) (pa_cons (pe_glob (v := .ref (cs 2)) rfl Er.m2 rfl) (pa_cons (pe_glob (v := .ref (cs 3)) rfl Er.m3 rfl) (pa_cons (pe_glob (v := .ref (cs 4)) rfl Er.m4 rfl) (pa_cons (pe_glob (v := .ref (cs 5)) rfl Er.m5 rfl) (pa_cons (pe_glob (v := .ref (cs 6)) rfl Er.m6 rfl) (pa_cons (pe_glob (v := .ref (cs 7)) rfl Er.m7 rfl) (pa_cons (pe_glob (v := .ref (cs 8)) rfl Er.m8 rfl) pa_nil)))))))))) pa_nil))))
          (pss_cons (ps_set (i := 5) scRef.nd rfl (Or.inl rfl) (pe_or (pv 5) (pe_one (pe_callB (call_isXT hz hf) (by rfl) B.isi (by decide +kernel) (pa_cons (pv 4) (pa_cons (pe_tup (pa_cons (pe_glob (v := .ref (cs 9)) rfl Er.m9 rfl) (pa_cons (pe_glob (v := .ref (cs 10)) rfl Er.m10 rfl) pa_nil))) pa_nil))))))
          (pss_one (ps_set (i := 3) scRef.nd rfl (Or.inl rfl) (pe_ix (show IxR _ (rIxL K) from ix_list) (pe_lst (pa_cons pe_str (pa_cons pe_str pa_nil))) (pe_callTy call_int1 (by rfl) B.int (by decide +kernel) (pa_cons (pe_or (pv 5) (pe_or (pe_not (pe_callB (call_isX hz hf) (by rfl) B.isi (by decide +kernel) (pa_cons (pv 4) (pa_cons (pe_glob (v := .ref Cn) rfl N.g rfl) pa_nil)))) (pe_one (pe_not (pe_callB (call_isX hz hf) (by rfl) B.isi (by decide +kernel) (pa_cons (pv 4) (pa_cons (pe_bltn (v := .ty "ValueError") (by rfl) Er.ve (by decide +kernel) rfl) pa_nil))))))) pa_nil)) (fun _ _ => rfl))))))))
        (pss_one (ps_if (pt_cmpR op_ne (pv 3) pe_str (nomark _)) (pss_one (ps_ret pe_bl)) pss_nil)))))
        (pss_one (ps_ret pe_bl))), ?_⟩
    refine ⟨_, rfl, dl, rfl, ⟨_, SqL.of hd⟩, for_list (K := K) (a := dl) (xs := ds.map V.int) (fun i σ H' => ∃ (v2 v3 v4 v5 : Option V), σ = [some v, some (.ref dl), v2, v3, v4, v5] ∧ Same H H')
      ⟨none, none, none, none, rfl, Same.refl _⟩ (fun i σ H' _ ⟨_, _, _, _, _, z⟩ => SqL.of (z _ _ hd)) ?_ ?_⟩
    · rintro i y σ H1 hi ⟨v2, v3, v4, v5, rfl, s1⟩
      obtain ⟨d, hdm, rfl⟩ : ∃ d, d ∈ ds ∧ y = V.int d := by
        obtain ⟨d, hd, rfl⟩ := List.mem_map.mp (List.mem_of_getElem? hi)
        exact ⟨d, hd, rfl⟩
      refine ⟨_, rfl, rfl, _, rfl, ite2 (fun c => ?_) (fun c => ?_)⟩
      all_goals (first
        | refine ⟨_, rfl, v, rfl, hb.same s1, fun H2 s2 => ⟨true, Er.exm, fun _ a ha => ?_, fun q => nomatch q⟩⟩
        | refine ⟨_, rfl, v, rfl, (hm ⟨d, hdm, fun z => c (by rw [z]; exact decide_eq_true rfl)⟩).same s1, fun H2 s2 => ⟨true, Er.exm, fun _ a ha => ?_, fun q => nomatch q⟩⟩)
      all_goals (
        refine ⟨_, rfl, (by show 9 ≤ sizeLine; decide), fun tp htp => ⟨Cn, tp, _, _, false, rfl, rfl, Er.exc, rfl, upd_same, .cons (.own _) (.cons (.own _) (.cons (.own _) (.cons (.own _) (.cons (.own _) (.cons (.own _) (.cons (.own _) (.cons (.own _) (.cons (.own _) .nil)))))))), n9, ?_⟩⟩
        refine ⟨_, rfl, _, rfl, iteF ⟨_, rfl, (by show 2 ≤ sizeLine; decide), fun tp2 htp2 => ⟨Cn, tp2, _, _, false, rfl, rfl, Er.exc, rfl, upd_same, .cons (.own _) (.cons (.own _) .nil), n2, ?_⟩⟩⟩
        refine ⟨(by show 2 ≤ sizeLine; decide), fun L hL => ⟨_, rfl, _, rfl, iteF ⟨_, rfl, Cn, .ref Cn, .ref Cn, true, rfl, rfl, Er.exc, rfl, .own _, Er.kitN, _, rfl, _, rfl, iteF ⟨_, rfl, Cn, .ty "ValueError", _, true, rfl, rfl, Er.exc, rfl, .ty _, Er.kitV, _, rfl, .inr ⟨_, rfl, L, _, 0, .str "refused", rfl, rfl, SqL.of upd_same, rfl, ?_⟩⟩⟩⟩⟩
        refine ⟨_, rfl, rfl, _, rfl, ?_⟩
        rw [show (!decide (V.str "refused" = V.str "refused")) = false by decide +kernel]
        exact iteF ⟨_, _, _, _, rfl, (s1.trans s2).trans (((same_new htp).trans (same_new htp2)).trans (same_new hL))⟩)
    · rintro σ H1 ⟨v2, v3, v4, v5, rfl, s1⟩
      exact k _ s1
end
end KP
/-! the rules of new objects, told by what is there behind them, not by the store -/
namespace KD
open PySem PySem.Spec PyProof.Rows L2
section
variable {X : Cx}
def tA (t : TA) : TA := fun σ H Q => ∃ Q' : List V → Hp → Prop, t σ H Q' ∧ ∀ vs H', Q' vs H' → Q vs H'
theorem pa_up {es : List Expr} {t : TA} (h : PA X es t) : PA X es (tA t) := ⟨fun pos pins s σ H Q I ⟨Q', h1, h2⟩ => thn (h.run pos pins s σ H Q' I h1) fun us s1 ⟨vs, H1, I1, r, q⟩ => ⟨vs, H1, I1, r, h2 _ _ q⟩⟩
theorem pe_le {e : Expr} {t u : TE} (h : PE X e t) (f : ∀ σ H Q, u σ H Q → t σ H Q) : PE X e u := ⟨fun pins s σ H Q I hu => h.run pins s σ H Q I (f σ H Q hu)⟩
def tLstW (t : TA) : TE := fun σ H Q => t σ H fun xs H1 => xs.length ≤ sizeLine ∧ ∀ p H', Same H1 H' → H1 p = none → H' p = some (.lst xs) → Q (.ref p) H'
def tTupW (t : TA) : TE := fun σ H Q => t σ H fun xs H1 => xs.length ≤ sizeLine ∧ ∀ p H', Same H1 H' → H1 p = none → H' p = some (.tup xs) → Q (.ref p) H'
theorem pe_lstW {es : List Expr} {t : TA} {pos : Pos} (ha : PA X es t) : PE X (.List es pos) (tLstW t) :=
  pe_le (pe_lst (pa_up ha)) fun σ H Q h => ⟨_, h, fun vs H1 ⟨a, b⟩ => ⟨a, fun p hp => b p _ (KP.same_new hp) hp upd_same⟩⟩
theorem pe_tupW {es : List Expr} {x1 : _} {t : TA} {pos : Pos} (ha : PA X es t) : PE X (.Tuple es x1 pos) (tTupW t) :=
  pe_le (pe_tup (pa_up ha)) fun σ H Q h => ⟨_, h, fun vs H1 ⟨a, b⟩ => ⟨a, fun p hp => b p _ (KP.same_new hp) hp upd_same⟩⟩
/-- t + u, t[lo:hi]: a tuple of these items, a new one or one that was there -/
def rCatW (K : PySem.W.Frag) : R2 := fun x y H Q => ∃ a b xs ys, x = .ref a ∧ y = .ref b ∧ H a = some (.tup xs) ∧ H b = some (.tup ys) ∧ xs.length + ys.length ≤ sizeLine ∧ ∀ p H', Same H H' → H' p = some (.tup (xs ++ ys)) → Q (.ref p) H'
theorem op_catW : OpR X (binaryOp .Add) (rCatW X.K) := by
  intro pins s σ H x y v u Q I rx ry h
  obtain ⟨a, b, xs, ys, rfl, rfl, ha, hb, hz, q⟩ := h
  refine op_catA pins s σ H _ _ v u Q I rx ry ⟨a, b, xs, ys, rfl, rfl, SqT.of ha, SqT.of hb, hz, fun e => ?_, fun _ e => ?_, fun _ _ p hp => ?_⟩
  · subst e
    exact q b H (Same.refl _) hb
  · subst e
    exact q a H (Same.refl _) (by rw [List.append_nil]; exact ha)
  · exact q p _ (KP.same_new hp) upd_same
def rSlW (K : PySem.W.Frag) : V → Option Int → Option Int → Hp → VK → Prop := fun x lo hi H Q => ∃ a xs, x = .ref a ∧ H a = some (.tup xs) ∧ ∀ p H', Same H H' → H' p = some (.tup (cutV xs lo hi)) → Q (.ref p) H'
theorem sl_tupW : SlR X (rSlW X.K) := by
  intro pins s σ H x v vl vu lo hi sl Q I rx hs pl pu h
  obtain ⟨a, xs, rfl, ha, q⟩ := h
  refine sl_tupA pins s σ H _ v vl vu lo hi sl Q I rx hs pl pu ⟨a, xs, rfl, SqT.of ha, fun e => ?_, fun _ p hp => q p _ (KP.same_new hp) upd_same⟩
  refine q a H (Same.refl _) ?_
  unfold cutV
  rw [e.1, e.2, List.drop_zero, Nat.sub_zero, List.take_length]
  exact ha
/-- l + m of lists -/
def rCatLW : R2 := fun x y H Q => ∃ a b xs ys, x = .ref a ∧ y = .ref b ∧ H a = some (.lst xs) ∧ H b = some (.lst ys) ∧ xs.length + ys.length ≤ sizeLine ∧ ∀ p H', Same H H' → H p = none → H' p = some (.lst (xs ++ ys)) → Q (.ref p) H'
theorem op_catLW : OpR X (binaryOp .Add) rCatLW := by
  intro pins s σ H x y v u Q I rx ry h
  obtain ⟨a, b, xs, ys, rfl, rfl, ha, hb, hz, q⟩ := h
  exact op_cat pins s σ H _ _ v u Q I rx ry ⟨a, b, xs, ys, rfl, rfl, ha, hb, hz, fun p hp => q p _ (KP.same_new hp) hp upd_same⟩
def rSlLW (K : PySem.W.Frag) : V → Option Int → Option Int → Hp → VK → Prop := fun x lo hi H Q => ∃ a xs, x = .ref a ∧ SqL K H a xs ∧ ∀ p H', Same H H' → H p = none → H' p = some (.lst (cutV xs lo hi)) → Q (.ref p) H'
theorem sl_listW : SlR X (rSlLW X.K) := by
  intro pins s σ H x v vl vu lo hi sl Q I rx hs pl pu h
  obtain ⟨a, xs, rfl, ha, q⟩ := h
  exact sl_list pins s σ H _ v vl vu lo hi sl Q I rx hs pl pu ⟨a, xs, rfl, ha, fun p hp => q p _ (KP.same_new hp) hp upd_same⟩
/-- list(x) -/
def rListW (K : PySem.W.Frag) : List V → Hp → VK → Prop := fun xs H Q => ∃ p ys, xs = [.ref p] ∧ (SqL K H p ys ∨ SqT K H p ys) ∧ ∀ l H', Same H H' → H l = none → H' l = some (.lst ys) → Q (.ref l) H'
theorem call_listW : CallR X (.type "list") (rListW X.K) := by
  intro pins s σ H xs us Q I r h
  obtain ⟨p, ys, rfl, hy, q⟩ := h
  exact call_list_of pins s σ H _ us Q I r ⟨p, ys, rfl, hy, fun l hl => q l _ (KP.same_new hl) hl upd_same⟩
/-- tuple(x) of a list -/
def rTupleW (K : PySem.W.Frag) : List V → Hp → VK → Prop := fun xs H Q => ∃ p ys, xs = [.ref p] ∧ SqL K H p ys ∧ ∀ l H', Same H H' → H l = none → H' l = some (.tup ys) → Q (.ref l) H'
theorem call_tupleW : CallR X (.type "tuple") (rTupleW X.K) := by
  intro pins s σ H xs us Q I r h
  obtain ⟨p, ys, rfl, hy, q⟩ := h
  exact call_tuple_of pins s σ H _ us Q I r ⟨p, ys, rfl, .inl ⟨hy, fun l hl => q l _ (KP.same_new hl) hl upd_same⟩⟩
/-- str(x) of an int or a truth: some text -/
def rStrX : List V → Hp → VK → Prop := fun xs H Q => ((∃ i, xs = [.int i] ∧ i.natAbs.log2 < 1920) ∨ ∃ b, xs = [.bl b]) ∧ ∀ z : Str, z.length ≤ sizeLine → Q (.str z) H
theorem call_strX : CallR X (.type "str") rStrX := by
  intro pins s σ H xs us Q I r h
  obtain ⟨⟨i, rfl, hz⟩ | ⟨b, rfl⟩, q⟩ := h
  · obtain ⟨u, rfl, t, rfl⟩ := vals1 r
    exact PySem.P.str_of_int hz ⟨.str _, H, I.tok _, ⟨_, rfl⟩, q _ (int_text_fits hz)⟩
  · obtain ⟨u, rfl, r1⟩ := vals1 r
    cases (show u = Value.bool b from r1)
    exact PySem.P.str_of_bool ⟨.str _, H, I.tok _, ⟨_, rfl⟩, q _ (by cases b <;> decide)⟩
end
end KD
namespace KP
open PySem L2 KM KD
theorem _root_.KD.Th.sameB {H H' : Hp} {b : Addr} {v : V} (t : Th H v) (w : WellAt H b) (w' : WellAt H' b) (s : SameB b H H') : Th H' v := by
  obtain ⟨x, y, z, hb⟩ := w
  obtain ⟨x', y', z', hb'⟩ := w'
  cases t with
  | non => exact .non
  | bl b => exact .bl b
  | int i => exact .int i
  | str x h => exact .str x h
  | @lst a xs h =>
    by_cases e : a = b
    · subst e
      exact .lst hb'
    · exact .lst (s _ _ h e)
  | @tup a xs h => exact .tup (s _ _ h fun z => by subst z; rw [hb] at h; cases h)
  | @dct a xs h => exact .dct (s _ _ h fun z => by subst z; rw [hb] at h; cases h)
def Sm (v : V) : Prop := ∀ i, v = .int i → i.natAbs < 2 ^ 80
theorem good_set {k n : Nat} {as : List V} {x : V} (hl : as.length = (sorts k).length) (hn : n < as.length) (h : fieldV ((sorts k).getD n 0) x = false) : goodV k (as.set n x) = false := by
  have : ((List.zipWith fieldV (sorts k) (as.set n x)).all id) = false := by
    cases e : (List.zipWith fieldV (sorts k) (as.set n x)).all id with
    | false => rfl
    | true =>
      rw [List.all_eq_true] at e
      have hs : n < (sorts k).length := by omega
      have h1 : (List.zipWith fieldV (sorts k) (as.set n x))[n]? = some (fieldV (sorts k)[n] x) := by
        rw [List.getElem?_zipWith, List.getElem?_eq_getElem hs, List.getElem?_set_self hn]
      have h2 := e _ (List.mem_of_getElem? h1)
      rw [List.getD_eq_getElem?_getD, List.getElem?_eq_getElem hs] at h
      simp at h h2
      rw [h] at h2
      cases h2
  unfold goodV
  rw [this, Bool.and_false, Bool.false_and]
theorem good_move {as : List V} {x : V} (hl : as.length = (sorts 2).length) (h : as[0]? = some x) : goodV 2 (as.set 1 x) = false := by
  obtain ⟨a, b, c, d, rfl⟩ := len4 hl
  cases h
  simp [goodV]
end KP
namespace KD
open PySem PySem.Spec PyProof.Rows L2
section
variable {X : Cx}
/-- x + j of an int or a truth x: some int -/
def rAddX : R2 := fun x y H Q => (∃ j, y = .int j) ∧ ((∃ i, x = .int i) ∨ ∃ b, x = .bl b) ∧ ∀ z : Int, Q (.int z) H
theorem op_addX : OpR X (binaryOp .Add) rAddX := by
  intro pins s σ H x y v u Q I rx ry h
  obtain ⟨⟨j, rfl⟩, ⟨i, rfl⟩ | ⟨b, rfl⟩, q⟩ := h
  · exact op_add pins s σ H _ _ v u Q I rx ry ⟨i, j, rfl, rfl, q _⟩
  · cases (show v = Value.bool b from rx)
    obtain ⟨t, rfl⟩ := (show ∃ t, u = Value.int j t from ry)
    exact PySem.IntBool.add_bool_int ⟨.int _, H, I.tok _, ⟨_, rfl⟩, q _⟩
/-- i * y of a short i and an int or a truth y: some int -/
def rMulX : R2 := fun x y H Q => (∃ i, x = .int i ∧ -(2 ^ 64) < i ∧ i < 2 ^ 64) ∧ ((∃ j, y = .int j) ∨ ∃ b, y = .bl b) ∧ ∀ z : Int, Q (.int z) H
theorem op_mulX : OpR X (binaryOp .Mult) rMulX := by
  intro pins s σ H x y v u Q I rx ry h
  obtain ⟨⟨i, rfl, i1, i2⟩, ⟨j, rfl⟩ | ⟨b, rfl⟩, q⟩ := h
  · exact op_mul pins s σ H _ _ v u Q I rx ry ⟨i, j, rfl, rfl, .inl ⟨i1, i2⟩, q _⟩
  · obtain ⟨t, rfl⟩ := (show ∃ t, v = Value.int i t from rx)
    cases (show u = Value.bool b from ry)
    exact PySem.IntBool.mul_int_bool ⟨.int _, H, I.tok _, ⟨_, rfl⟩, q _⟩
end
end KD
namespace KP
open PySem L2 KM KD
abbrev sLWord : Stmt := top 47
abbrev nLWord : List Str := ["_law_thing_here", "_law_sign_here"]
theorem scLWord : FnScope nLWord ["_law_thing_here"] (defScope sLWord) := ⟨rfl, rfl, rfl, by decide +kernel, rfl, by decide +kernel, by decide +kernel⟩
abbrev sWithin : Stmt := top 48
abbrev nWithin : List Str := ["_law_thing_here", "_law_least", "_law_most"]
theorem scWithin : FnScope nWithin ["_law_thing_here", "_law_least", "_law_most"] (defScope sWithin) := ⟨rfl, rfl, rfl, by decide +kernel, rfl, by decide +kernel, by decide +kernel⟩
section
variable {P : Program} {w : World} {K : PySem.W.Frag} {mg : Str → Option Value} {base : Heap}
theorem c_lword (B : Base K mg) (D : DefT K mg "_law_word" sLWord ["_law_thing_here"]) : Cal P w K mg base 1 "_law_word" spWordV := by
  refine cal D scLWord (fun vs H Q E h => ?_) (fun f cdv A outer s H vs Q E hr h => ?_)
  · obtain ⟨x, rfl, _⟩ := h
    rfl
  · obtain ⟨v, rfl, t, k⟩ := h
    refine ⟨_, (pss_cons (ps_if (PW.pt (pw_or (pt_not (pt_val (pe_callB call_isi (by rfl) B.isi (by decide +kernel) (pa_cons (pv 0) (pa_cons (pe_bltn (v := .ty "str") (by rfl) B.str (by decide +kernel) rfl) pa_nil))))) (pw_or1 (pt_not (pt_chain op_le op_le pe_int (pe_callB call_len_str (by rfl) B.len (by decide +kernel) (pa_cons (pv 0) pa_nil)) pe_int))))) (pss_one (ps_ret pe_bl)) pss_nil)
        (pss_one (ps_ret (pe_callB (cr_all rfl) (by rfl) B.all (by decide +kernel) (pa_cons (pe_lc (own := [("_law_sign_here", 1)]) (g := (gName 1)) (tt := tYes) rfl scLWord.nd (pi_str (pv 0)) (blkOk_by (N := nLWord) (sc := defScope sLWord) (by decide +kernel)) (fun _ _ _ _ _ => (pg_name (i := 1) scLWord.nd rfl (by first | exact Or.inl rfl | exact Or.inr rfl))) (fun _ _ _ _ _ => pts_nil) (fun _ _ _ _ _ => (pe_cmpR op_in_sign (pv 1) pe_str rfl))) pa_nil))))), ?_⟩
    obtain ⟨u, tu, ku⟩ := th_str (K := K) t
    refine ⟨_, rfl, _, _, _, _, _, rfl, .ty _, tu, ku, _, rfl, ?_⟩
    cases hb : isSt v with
    | false =>
      refine iteT ?_
      have e : wordV v = false := by cases v <;> first | rfl | exact absurd hb (by simp [isSt])
      have k' := k H (Same.refl _)
      rw [e] at k'
      exact k'
    | true =>
      obtain ⟨x, rfl⟩ : ∃ x, v = .str x := by cases v <;> first | exact ⟨_, rfl⟩ | exact absurd hb (by simp [isSt])
      have hs : x.length ≤ sizeLine := by cases t with | str _ h => exact h
      refine iteF ?_
      refine ⟨_, rfl, _, rfl, hs, _, _, rfl, rfl, _, rfl, ?_⟩
      have kF : wordB x = false → Q (.bl false) H := fun e => by
        have k' := k H (Same.refl _)
        rw [show wordV (.str x) = false from e] at k'
        exact k'
      by_cases h1 : 1 ≤ x.length
      · rw [if_pos (decide_eq_true (show (1 : Int) ≤ ((x.length : Nat) : Int) by omega))]
        refine ⟨_, _, rfl, rfl, _, rfl, ?_⟩
        by_cases h8 : x.length ≤ 8
        · have e8 : decide (((x.length : Nat) : Int) ≤ 8) = true := decide_eq_true (by omega)
          rw [e8]
          refine iteF ?_
          refine ⟨_, rfl, x, rfl, fun D hD => lc_it walk_str (fun i H' => H' = upd H D (.lst (((x.cps.toList.take i).map fun c => decide (c ∈ letters.cps.toList)).map V.bl))) rfl (fun _ _ _ _ => trivial) ?_ ?_⟩
          · rintro i v H1 H2 hi rfl ⟨rfl, c, hc, rfl⟩
            refine ⟨rfl, yes (iteT ⟨_, rfl, c, letters, rfl, rfl, _, upd_same, ?_, ?_⟩)⟩
            · have : x.cps.size ≤ 8 := h8
              have e : sizeLine = 16777216 := by decide
              have : ((x.cps.toList.take i).map fun c => decide (c ∈ letters.cps.toList)).length ≤ 8 := by
                rw [List.length_map, List.length_take, Array.length_toList]
                omega
              rw [List.length_map]
              omega
            · have hc' : x.cps.toList[i]? = some c := by simpa using hc
              rw [upd_upd, take_more hc', List.map_append, List.map_append]
              rfl
          · rintro H1 rfl
            refine ⟨D, (x.cps.toList.take x.cps.size).map fun c => decide (c ∈ letters.cps.toList), rfl, SqL.of upd_same, ?_⟩
            have k' := k _ (same_new (o := .lst (((x.cps.toList.take x.cps.size).map fun c => decide (c ∈ letters.cps.toList)).map V.bl)) hD)
            have e : wordV (.str x) = ((x.cps.toList.take x.cps.size).map fun c => decide (c ∈ letters.cps.toList)).all id := by
              show wordB x = _
              unfold wordB
              rw [decide_eq_true h1, decide_eq_true h8, Bool.and_true, Bool.and_true, List.take_of_length_le (by simp), List.all_map]
              rfl
            rw [e] at k'
            exact k'
        · have e8 : decide (((x.length : Nat) : Int) ≤ 8) = false := decide_eq_false (by omega)
          rw [e8]
          exact iteT (kF (by unfold wordB; rw [decide_eq_false h8, Bool.and_false]))
      · rw [if_neg (by rw [decide_eq_false (show ¬ (1 : Int) ≤ ((x.length : Nat) : Int) by omega)]; exact Bool.false_ne_true)]
        refine ⟨_, rfl, ?_⟩
        refine iteT ?_
        exact kF (by unfold wordB; rw [decide_eq_false h1, Bool.and_false, Bool.false_and])
theorem c_within (B : Base K mg) (D : DefT K mg "_law_within" sWithin ["_law_thing_here", "_law_least", "_law_most"]) : Cal P w K mg base 1 "_law_within" spWholeV := by
  refine cal D scWithin (fun vs H Q E h => ?_) (fun f cdv A outer s H vs Q E hr h => ?_)
  · obtain ⟨v, lo, hi, rfl, _⟩ := h
    rfl
  · obtain ⟨v, lo, hi, rfl, t, k⟩ := h
    refine ⟨_, (pss_one (ps_ret (pe_and (pe_callB call_isi (by rfl) B.isi (by decide +kernel) (pa_cons (pv 0) (pa_cons (pe_bltn (v := .ty "int") (by rfl) B.int (by decide +kernel) rfl) pa_nil))) (pe_and (pe_not (pe_callB call_isi (by rfl) B.isi (by decide +kernel) (pa_cons (pv 0) (pa_cons (pe_bltn (v := .ty "bool") (by rfl) B.bool (by decide +kernel) rfl) pa_nil)))) (pe_one (pe_chain op_le op_le (pv 1) (pv 0) (pv 2))))))), ?_⟩
    obtain ⟨u, tu, ku⟩ := th_bool (K := K) t
    obtain ⟨u2, tu2, ku2⟩ := th_int (K := K) t
    have no : wholeV lo hi v = false → Q (.bl false) H := fun e => by rw [e] at k; exact k
    refine ⟨_, rfl, _, _, _, _, _, rfl, .ty _, tu2, ku2, _, rfl, ?_⟩
    cases hi2 : (isBl v || isIn v) with
    | false => exact iteF (no (by cases v <;> first | rfl | exact absurd hi2 (by simp [isIn, isBl])))
    | true =>
      refine iteT ⟨_, rfl, _, _, _, _, _, rfl, .ty _, tu, ku, _, rfl, _, rfl, ?_⟩
      cases hb : isBl v with
      | true => exact iteF (no (by cases v <;> first | rfl | exact absurd hb (by simp [isBl])))
      | false =>
        obtain ⟨i, rfl⟩ : ∃ i, v = .int i := by
          cases v with
          | int i => exact ⟨i, rfl⟩
          | bl b => exact absurd hb (by simp [isBl])
          | _ => exact absurd hi2 (by simp [isIn, isBl])
        refine iteT ⟨_, rfl, _, rfl, _, _, rfl, rfl, _, rfl, ?_⟩
        by_cases h1 : lo ≤ i
        · rw [if_pos (decide_eq_true h1)]
          refine ⟨_, rfl, _, _, rfl, rfl, ?_⟩
          have k' : Q (.bl (decide (lo ≤ i ∧ i ≤ hi))) H := k
          by_cases h2 : i ≤ hi
          · show Q (.bl (decide (i ≤ hi))) H
            rw [decide_eq_true h2]
            rw [decide_eq_true ⟨h1, h2⟩] at k'
            exact k'
          · show Q (.bl (decide (i ≤ hi))) H
            rw [decide_eq_false h2]
            rw [decide_eq_false fun z => h2 z.2] at k'
            exact k'
        · rw [if_neg (by rw [decide_eq_false h1]; exact Bool.false_ne_true)]
          exact no (decide_eq_false fun z => h1 z.1)
end
end KP
namespace KP
open PySem L2 KM KD
abbrev sGood : Stmt := top 49
abbrev nGood : List Str := ["_law_told_here", "_law_forms", "_law_form", "_law_k", "_law_thing_here", "_law_good_here"]
theorem scGood : FnScope nGood ["_law_told_here"] (defScope sGood) := ⟨rfl, rfl, rfl, by decide +kernel, rfl, by decide +kernel, by decide +kernel⟩
theorem sorts_le : ∀ k < 7, (sorts k).length ≤ 4 ∧ 3 ≤ (sorts k).length ∧ ∀ j < 4, (sorts k).getD j 0 ≤ 3 := by decide +kernel
theorem zip_all {k : Nat} {ys : List V} (hl : ys.length = (sorts k).length) (h : ∀ j y, ys[j]? = some y → fieldV ((sorts k).getD j 0) y = true) : (List.zipWith fieldV (sorts k) ys).all id = true := by
  rw [List.all_eq_true]
  intro b hb
  obtain ⟨j, hj⟩ := List.getElem?_of_mem hb
  rw [List.getElem?_zipWith] at hj
  cases e1 : (sorts k)[j]? with
  | none => rw [e1] at hj; cases hj
  | some s =>
    cases e2 : ys[j]? with
    | none => rw [e1, e2] at hj; cases hj
    | some y =>
      rw [e1, e2] at hj
      cases hj
      have := h j y e2
      rw [List.getD_eq_getElem?_getD, e1] at this
      exact this
theorem good_field {k j : Nat} {ys : List V} {y : V} (h : goodV k ys = true) (hy : ys[j]? = some y) : fieldV ((sorts k).getD j 0) y = true := by
  unfold goodV at h
  simp only [Bool.and_eq_true, decide_eq_true_eq] at h
  obtain ⟨⟨hl, ha⟩, _⟩ := h
  rw [List.all_eq_true] at ha
  have hj : j < (sorts k).length := by rw [← hl]; exact (List.getElem?_eq_some_iff.mp hy).1
  have e : (List.zipWith fieldV (sorts k) ys)[j]? = some (fieldV (sorts k)[j] y) := by
    rw [List.getElem?_zipWith, List.getElem?_eq_getElem hj, hy]
  have := ha _ (List.mem_of_getElem? e)
  rw [List.getD_eq_getElem?_getD, List.getElem?_eq_getElem hj]
  exact this
theorem kind_move : ∀ k < 7, decide (V.str (kindOf k) = V.str "move") = decide (k = 2) := by decide +kernel
theorem note_of_word {y : V} (h : wordV y = true) : noteV y = true := by
  cases y with
  | str x => show (_ || wordB x) = true; rw [show wordB x = true from h, Bool.or_true]
  | _ => cases h
theorem kind_inj : ∀ j < 7, ∀ k < 7, kindOf j = kindOf k → j = k := by decide +kernel
abbrev forms6 : List (Key × V) := [(.inr "give", .str "hcn"), (.inr "hold", .str "hcun"), (.inr "move", .str "hhcn"), (.inr "spend", .str "hcn"), (.inr "promise", .str "hhcn"), (.inr "lessen", .str "hcn")]
def forms7 : List (Key × V) := [(.inr "give", .str "hcn"), (.inr "hold", .str "hcun"), (.inr "move", .str "hhcn"), (.inr "spend", .str "hcn"), (.inr "promise", .str "hhcn"), (.inr "lessen", .str "hcn"), (.inr "out", .str "hcn")]
def formOf (k : Nat) : Str := (["hcn", "hcun", "hhcn", "hcn", "hhcn", "hcn", "hcn"] : List Str).getD k ""
theorem forms_get : ∀ k < 7, valV forms7 (.inr (kindOf k)) = some (.str (formOf k)) := by decide +kernel
theorem forms_no {z : Str} (h : ∀ k < 7, z ≠ kindOf k) : valV forms7 (.inr z) = none := by
  have h0 := h 0 (by decide)
  have h1 := h 1 (by decide)
  have h2 := h 2 (by decide)
  have h3 := h 3 (by decide)
  have h4 := h 4 (by decide)
  have h5 := h 5 (by decide)
  have h6 := h 6 (by decide)
  unfold valV forms7
  have n : ∀ {x : Str}, z ≠ x → decide ((Sum.inr x : Key) = .inr z) = false := fun {x} h => decide_eq_false fun e => h (by injection e with e; exact e.symm)
  simp only [List.find?_cons, n h0, n h1, n h2, n h3, n h4, n h5, n h6, show (z ≠ "give") from h0, show (z ≠ "hold") from h1]
  rw [show decide ((Sum.inr ("give" : Str) : Key) = .inr z) = false from n h0, show decide ((Sum.inr ("hold" : Str) : Key) = .inr z) = false from n h1, show decide ((Sum.inr ("move" : Str) : Key) = .inr z) = false from n h2, show decide ((Sum.inr ("spend" : Str) : Key) = .inr z) = false from n h3, show decide ((Sum.inr ("promise" : Str) : Key) = .inr z) = false from n h4, show decide ((Sum.inr ("lessen" : Str) : Key) = .inr z) = false from n h5, show decide ((Sum.inr ("out" : Str) : Key) = .inr z) = false from n h6]
  rfl
theorem form_len : ∀ k < 7, (formOf k).length = (sorts k).length ∧ formOf k ≠ "" := by decide +kernel
/-- the sign of a sort -/
def signOf (s : Nat) : Nat := [104, 99, 117, 110].getD s 0
theorem form_at : ∀ k < 7, ∀ n < 4, n < (sorts k).length → (formOf k).cps[n]? = some (signOf ((sorts k).getD n 0)) := by decide +kernel
def hereOf (v : V) : List (Key × V) := [(.inr "h", .bl (wordV v)), (.inr "c", .bl (wholeV 1 1000000000000 v)), (.inr "u", .bl (wholeV 2 31 v)), (.inr "n", .bl (noteV v))]
theorem here_get {v : V} : ∀ s ≤ 3, valV (hereOf v) (.inr (⟨#[signOf s]⟩ : Str)) = some (.bl (fieldV s v)) := by
  intro s hs
  match s, hs with
  | 0, _ => rfl
  | 1, _ => rfl
  | 2, _ => rfl
  | 3, _ => rfl
/-- what tells an entry -/
def goodT (xs : List V) : Bool := (List.range 7).any fun k => decide (xs.head? = some (.str (kindOf k))) && goodV k xs.tail
theorem goodT_kind {k : Nat} {as : List V} (hk : k < 7) : goodT (.str (kindOf k) :: as) = goodV k as := by
  have key : ∀ j < 7, (decide ((V.str (kindOf k) :: as).head? = some (.str (kindOf j))) && goodV j (V.str (kindOf k) :: as).tail) = (decide (j = k) && goodV k as) := fun j hj => by
    by_cases e : j = k
    · subst e
      rw [decide_eq_true (show (V.str (kindOf j) :: as).head? = some (.str (kindOf j)) from rfl), decide_eq_true rfl]
      rfl
    · rw [decide_eq_false (fun z => e (kind_inj j hj k hk (by simp at z; exact z.symm))), decide_eq_false e]
      rfl
  unfold goodT
  cases hg : goodV k as with
  | true =>
    rw [List.any_eq_true]
    exact ⟨k, List.mem_range.mpr hk, by rw [key k hk, hg, decide_eq_true rfl]; rfl⟩
  | false =>
    rw [List.any_eq_false]
    intro j hj
    rw [key j (List.mem_range.mp hj), hg, Bool.and_false]
    exact Bool.false_ne_true
theorem goodT_no {xs : List V} (h : ∀ k < 7, xs.head? ≠ some (.str (kindOf k))) : goodT xs = false := by
  unfold goodT
  rw [List.any_eq_false]
  intro j hj
  rw [decide_eq_false (h j (List.mem_range.mp hj)), Bool.false_and]
  exact Bool.false_ne_true
def spGood : Sp := fun vs H Q _ => ∃ (t : Addr) (xs : List V), vs = [.ref t] ∧ H t = some (.tup xs) ∧ (∀ x ∈ xs, Th H x) ∧ xs.length ≤ 1000 ∧ ∀ H', Same H H' → Q (.bl (goodT xs)) H'
section
variable {P : Program} {w : World} {K : PySem.W.Frag} {mg : Str → Option Value} {base : Heap}
theorem c_good (B : Base K mg) (Wd : Cal P w K mg base 1 "_law_word" spWordV) (Wi : Cal P w K mg base 1 "_law_within" spWholeV) (D : DefT K mg "_law_good" sGood ["_law_told_here"]) : Cal P w K mg base 2 "_law_good" spGood := by
  refine cal D scGood (fun vs H Q E h => ?_) (fun f cdv A outer s H vs Q E hr h => ?_)
  · obtain ⟨t, xs, rfl, _⟩ := h
    rfl
  · obtain ⟨t, xs, rfl, ht, th, hl, k⟩ := h
    have hz : sizeLine = 16777216 := by decide
    refine ⟨_, (pss_cons (ps_set (i := 1) scGood.nd rfl (by first | exact Or.inl rfl | exact Or.inr rfl) (pe_disp (pps_cons pe_str pe_str (pps_cons pe_str pe_str (pps_cons pe_str pe_str (pps_cons pe_str pe_str (pps_cons pe_str pe_str (pps_cons pe_str pe_str pps_nil)))))) rfl rfl (fun z => nomatch z) (by decide)))
        (pss_cons (ps_dput (hu_of hr) (pv 1) pe_str pe_str rfl)
        (pss_cons (ps_if (PW.pt (pw_or (pt_not (pt_val (pe_callB call_isi (by rfl) B.isi (by decide +kernel) (pa_cons (pv 0) (pa_cons (pe_bltn (v := .ty "tuple") (by rfl) B.tuple (by decide +kernel) rfl) pa_nil))))) (pw_or (pt_cmpR op_eq (pe_callB call_len_seq (by rfl) B.len (by decide +kernel) (pa_cons (pv 0) pa_nil)) pe_int (nomark _)) (pw_or1 (pt_not (pt_val (pe_callB call_isi (by rfl) B.isi (by decide +kernel) (pa_cons (pe_ix ix_tup (pv 0) pe_int (fun _ _ => rfl)) (pa_cons (pe_bltn (v := .ty "str") (by rfl) B.str (by decide +kernel) rfl) pa_nil))))))))) (pss_one (ps_ret pe_bl)) pss_nil)
        (pss_cons (ps_set (i := 2) scGood.nd rfl (by first | exact Or.inl rfl | exact Or.inr rfl) (pe_dget2 (hu_of hr) (pv 1) (pe_ix ix_tup (pv 0) pe_int (fun _ _ => rfl)) pe_str ⟨rfl, rfl, rfl, rfl⟩))
        (pss_cons (ps_if (PW.pt (pw_or (pt_cmpR op_eq (pv 2) pe_str (nomark _)) (pw_or1 (pt_cmpR op_ne (pe_callB call_len_seq (by rfl) B.len (by decide +kernel) (pa_cons (pv 0) pa_nil)) (pe_op op_add (pe_callB call_len_str (by rfl) B.len (by decide +kernel) (pa_cons (pv 2) pa_nil)) pe_int) (nomark _))))) (pss_one (ps_ret pe_bl)) pss_nil)
        (pss_cons (ps_for PassesOwn.never rfl (pi_range1 (by rfl) B.range (pa_cons (pe_callB call_len_str (by rfl) B.len (by decide +kernel) (pa_cons (pv 2) pa_nil)) pa_nil)) (pg_name (i := 3) scGood.nd rfl (by first | exact Or.inl rfl | exact Or.inr rfl)) (pss_cons (ps_set (i := 4) scGood.nd rfl (by first | exact Or.inl rfl | exact Or.inr rfl) (pe_ix ix_tup (pv 0) (pe_op op_add (pv 3) pe_int) (fun _ _ => rfl)))
        (pss_cons (ps_set (i := 5) scGood.nd rfl (by first | exact Or.inl rfl | exact Or.inr rfl) (pe_disp (pps_cons pe_str (pe_cl Wd hr (by decide) (by rfl) (pa_cons (pv 4) pa_nil)) (pps_cons pe_str (pe_cl Wi hr (by decide) (by rfl) (pa_cons (pv 4) (pa_cons pe_int (pa_cons (pe_op op_pow pe_int pe_int) pa_nil)))) (pps_cons pe_str (pe_cl Wi hr (by decide) (by rfl) (pa_cons (pv 4) (pa_cons pe_int (pa_cons pe_int pa_nil)))) pps_nil))) rfl rfl (fun z => nomatch z) (by decide)))
        (C8.pss_cut (ps_dput (hu_of hr) (pv 5) pe_str (pe_or (pe_cl Wd hr (by decide) (by rfl) (pa_cons (pv 4) pa_nil)) (pe_one (pe_and (pe_callB call_isi (by rfl) B.isi (by decide +kernel) (pa_cons (pv 4) (pa_cons (pe_bltn (v := .ty "str") (by rfl) B.str (by decide +kernel) rfl) pa_nil))) (pe_one (pe_cmpR (op_eqX hr.units) (pv 4) pe_str (nomark _)))))) rfl)
        (pss_one (ps_if (pt_not (pt_val (pe_dget (hu_of hr) (pv 5) (pe_item_str (pv 2) (pv 3) (fun _ _ => rfl)) (fun _ _ => rfl)))) (pss_one (ps_ret pe_bl)) pss_nil))))))
        (pss_one (ps_ret (pe_or (pe_cmpR op_ne (pe_ix ix_tup (pv 0) pe_int (fun _ _ => rfl)) pe_str (nomark _)) (pe_one (pe_cmpR op_ne (pe_ix ix_tup (pv 0) pe_int (fun _ _ => rfl)) (pe_ix ix_tup (pv 0) pe_int (fun _ _ => rfl)) (nomark _)))))))))))), ?_⟩
    refine fun p hp => ⟨upd_same, forms6, rfl, by decide, ?_⟩
    refine ⟨_, rfl, p, _, rfl, DPut.k (k := .inr "out") upd_same (by decide), ?_⟩
    have eF : putK (mergeK [] forms6) (.inr "out") (.str "hcn") = forms7 := by decide +kernel
    have s1 : Same H (upd (upd (upd H p (.dK [])) p (.dK (mergeK [] forms6))) p (.dK (putK (mergeK [] forms6) (.inr "out") (.str "hcn")))) := fun b o e => by
      have nb : b ≠ p := ne_of_none e hp
      rw [upd_ne nb, upd_ne nb, upd_ne nb]
      exact e
    have hp1 : upd (upd (upd H p (.dK [])) p (.dK (mergeK [] forms6))) p (.dK (putK (mergeK [] forms6) (.inr "out") (.str "hcn"))) p = some (.dK forms7) := by rw [upd_same, eF]
    generalize upd (upd (upd H p (.dK [])) p (.dK (mergeK [] forms6))) p (.dK (putK (mergeK [] forms6) (.inr "out") (.str "hcn"))) = H1 at s1 hp1
    have ht1 := s1 _ _ ht
    have no : goodT xs = false → ∀ H', Same H H' → Q (.bl false) H' := fun e H' s' => by
      have := k H' s'
      rw [e] at this
      exact this
    refine ⟨_, rfl, _, _, _, _, true, rfl, .ty _, .base (.tup ht1), kit_ty (by decide +kernel), _, rfl, iteF ?_⟩
    refine ⟨_, rfl, t, _, rfl, .inr (SqT.of ht1), rfl, _, rfl, ?_⟩
    cases xs with
    | nil => exact iteT (no (goodT_no fun k _ z => nomatch z) _ s1)
    | cons y ys =>
    show if decide (V.int (((y :: ys).length : Nat) : Int) = V.int 0) = true then _ else _
    rw [decide_eq_false (fun z => by injection z with z; simp at z; omega)]
    have a0 : atI (y :: ys) 0 = some y := atI_nat (j := 0) rfl
    obtain ⟨u, tu, ku⟩ := th_str (K := K) ((th y (by simp)).same s1)
    refine iteF ⟨_, rfl, t, _, 0, y, rfl, rfl, SqT.of ht1, a0, _, _, _, _, _, rfl, .ty _, tu, ku, _, rfl, ?_⟩
    cases hs : isSt y with
    | false => exact iteT (no (goodT_no fun k _ z => by simp at z; rw [z] at hs; cases hs) _ s1)
    | true =>
    obtain ⟨z, rfl⟩ : ∃ z, y = .str z := by cases y <;> first | exact ⟨_, rfl⟩ | exact absurd hs (by simp [isSt])
    refine iteF ?_
    refine ⟨_, rfl, p, rfl, .inl ⟨_, .inl hp1⟩, _, rfl, t, _, 0, .str z, rfl, rfl, SqT.of ht1, a0, _, DGet.k (k := .inr z) hp1, ?_⟩
    by_cases hk : ∃ kk < 7, z = kindOf kk
    · obtain ⟨kk, hk, rfl⟩ := hk
      rw [forms_get kk hk]
      obtain ⟨fl, fne⟩ := form_len kk hk
      obtain ⟨l4, l3, lj⟩ := sorts_le kk hk
      rw [goodT_kind hk] at k no
      refine ⟨_, rfl, rfl, _, rfl, ?_⟩
      show if decide (V.str (formOf kk) = V.str "") = true then _ else _
      rw [decide_eq_false (fun z => fne (by injection z))]
      refine iteF ⟨_, rfl, t, _, rfl, .inr (SqT.of ht1), _, rfl, _, rfl, (by rw [fl]; omega), _, _, rfl, rfl, rfl, _, rfl, ?_⟩
      show if (!decide (V.int (((V.str (kindOf kk) :: ys).length : Nat) : Int) = V.int (((formOf kk).length : Int) + 1))) = true then _ else _
      by_cases hl2 : ys.length = (sorts kk).length
      · rw [decide_eq_true (show V.int (((V.str (kindOf kk) :: ys).length : Nat) : Int) = V.int (((formOf kk).length : Int) + 1) by rw [fl, ← hl2]; rfl)]
        refine iteF ?_
        have hfl : (formOf kk).length = ys.length := by rw [fl, hl2]
        refine ⟨_, rfl, _, rfl, (by rw [fl]; omega), _, rfl, (by omega), (by omega), for_range (lo := 0) (n := (((formOf kk).length : Nat) : Int).toNat) (fun i σ H' => ∃ (v3 v4 v5 : Option V), σ = [some (.ref t), some (.ref p), some (.str (formOf kk)), v3, v4, v5] ∧ Same H1 H' ∧ ∀ j < i, ∀ y, ys[j]? = some y → fieldV ((sorts kk).getD j 0) y = true)
          ⟨none, none, none, rfl, Same.refl _, fun j hj => absurd hj (Nat.not_lt_zero _)⟩ ?_ ?_⟩
        · rintro i σ H2 hi ⟨v3, v4, v5, rfl, s2, hin⟩
          have hi' : i < ys.length := by omega
          obtain ⟨y, hy⟩ : ∃ y, ys[i]? = some y := ⟨_, List.getElem?_eq_getElem hi'⟩
          have ei : (0 + (i : Int)) = (i : Int) := by omega
          have at1 : atI (V.str (kindOf kk) :: ys) (0 + (i : Int) + 1) = some y := by
            rw [show (0 + (i : Int) + 1) = ((i + 1 : Nat) : Int) by omega]
            exact atI_nat (j := i + 1) hy
          have thy : ∀ {Hx : Hp}, Same H Hx → Th Hx y := fun s => (th y (List.mem_cons_of_mem _ (List.mem_of_getElem? hy))).same s
          have S2 := s1.trans s2
          refine ⟨_, rfl, _, rfl, _, _, rfl, rfl, t, _, _, y, rfl, rfl, SqT.of (s2 _ _ ht1), at1, ?_⟩
          refine fun d hd => ⟨_, rfl, y, rfl, thy (S2.trans (same_new hd)), fun H3 s3 => ⟨_, rfl, _, _, rfl, rfl, ⟨by decide, by decide, by decide⟩, y, 1, 1000000000000, rfl, thy ((S2.trans (same_new hd)).trans s3), _, rfl, y, 2, 31, rfl, thy ((S2.trans (same_new hd)).trans s3), ?_⟩⟩
          refine ⟨s3 _ _ upd_same, [(.inr "h", .bl (wordV y)), (.inr "c", .bl (wholeV 1 1000000000000 y)), (.inr "u", .bl (wholeV 2 31 y))], rfl, (by show 3 ≤ 15; decide), ?_⟩
          have s4 : Same H2 (upd H3 d (.dK (mergeK [] [(.inr "h", .bl (wordV y)), (.inr "c", .bl (wholeV 1 1000000000000 y)), (.inr "u", .bl (wholeV 2 31 y))]))) := fun b o e => by
            have nb : b ≠ d := ne_of_none e hd
            rw [upd_ne nb]
            exact s3 _ _ (by rw [upd_ne nb]; exact e)
          have hd4 : upd H3 d (.dK (mergeK [] [(.inr "h", .bl (wordV y)), (.inr "c", .bl (wholeV 1 1000000000000 y)), (.inr "u", .bl (wholeV 2 31 y))])) d = some (.dK [(.inr "h", .bl (wordV y)), (.inr "c", .bl (wholeV 1 1000000000000 y)), (.inr "u", .bl (wholeV 2 31 y))]) := by rw [upd_same]; rfl
          generalize upd H3 d (.dK (mergeK [] [(.inr "h", .bl (wordV y)), (.inr "c", .bl (wholeV 1 1000000000000 y)), (.inr "u", .bl (wholeV 2 31 y))])) = H4 at s4 hd4
          refine ⟨fun σ' H' => σ' = [some (.ref t), some (.ref p), some (.str (formOf kk)), some (.int (0 + (i : Int))), some y, some (.ref d)] ∧ H' d = some (.dK (hereOf y)) ∧ Same H2 H', ?_, ?_⟩
          · have fin : ∀ H5, Same H4 H5 → ∀ c : Bool, c = noteV y → tVar 5 [some (.ref t), some (.ref p), some (.str (formOf kk)), some (.int (0 + (i : Int))), some y, some (.ref d)] H5 fun x H1' => tC (.str "n") [some (.ref t), some (.ref p), some (.str (formOf kk)), some (.int (0 + (i : Int))), some y, some (.ref d)] H1' fun y' H2' => ∃ a H', x = .ref a ∧ DPut H2' a y' (.bl c) H' ∧ ([some (V.ref t), some (.ref p), some (.str (formOf kk)), some (.int (0 + (i : Int))), some y, some (.ref d)] = [some (.ref t), some (.ref p), some (.str (formOf kk)), some (.int (0 + (i : Int))), some y, some (.ref d)] ∧ H' d = some (.dK (hereOf y)) ∧ Same H2 H') := fun H5 s5 c hc =>
              ⟨_, rfl, d, _, rfl, DPut.k (k := .inr "n") (s5 _ _ hd4) (by show 3 < sizeLine; decide), rfl, by rw [upd_same, hc]; rfl, fun b o e => by
                rw [upd_ne (ne_of_none e hd)]
                exact s5 _ _ (s4 _ _ e)⟩
            refine ⟨_, rfl, y, rfl, thy (S2.trans s4), fun H5 s5 => ⟨_, rfl, ?_⟩⟩
            have ty5 := thy ((S2.trans s4).trans s5)
            cases hw : wordV y with
            | true => exact iteT (fin H5 s5 true (note_of_word hw).symm)
            | false =>
              obtain ⟨u, tu, ku⟩ := th_str (K := K) ty5
              refine iteF ⟨_, rfl, _, _, _, _, _, rfl, .ty _, tu, ku, _, rfl, ?_⟩
              cases hst : isSt y with
              | false => exact iteF (fin H5 s5 false (by cases y <;> first | rfl | exact absurd hst (by simp [isSt])))
              | true =>
                obtain ⟨z, rfl⟩ : ∃ z, y = .str z := by cases y <;> first | exact ⟨_, rfl⟩ | exact absurd hst (by simp [isSt])
                refine iteT ⟨_, rfl, .inl ⟨⟨_, rfl⟩, ty5⟩, fin H5 s5 _ ?_⟩
                show decide (V.str z = V.str "") = (decide (z = "") || wordB z)
                rw [show wordB z = false from hw, Bool.or_false]
                by_cases ez : z = ""
                · rw [decide_eq_true ez, decide_eq_true (by rw [ez])]
                · rw [decide_eq_false ez, decide_eq_false (fun q => ez (by injection q))]
          · rintro σ H5 ⟨rfl, hd5, s5⟩
            have sg := form_at kk hk i (by omega) (by omega)
            have dg : DGet H5 d (.str (⟨#[signOf ((sorts kk).getD i 0)]⟩ : Str)) (some (.bl (fieldV ((sorts kk).getD i 0) y))) := by
              have := DGet.k (k := .inr (⟨#[signOf ((sorts kk).getD i 0)]⟩ : Str)) hd5
              rw [here_get _ (lj i (by omega))] at this
              exact this
            refine ⟨_, rfl, _, rfl, _, rfl, formOf kk, _, _, rfl, rfl, (by omega), (by omega), (by omega), (by rw [ei]; exact sg), d, _, rfl, dg, _, rfl, ?_⟩
            cases hf : fieldV ((sorts kk).getD i 0) y with
            | false =>
              refine iteT (no ?_ _ (S2.trans s5))
              cases hg : goodV kk ys with
              | false => rfl
              | true =>
                have := good_field hg hy
                rw [hf] at this
                cases this
            | true =>
              refine iteF ⟨_, _, _, rfl, s2.trans s5, fun j hj y' hy' => ?_⟩
              rcases Nat.lt_succ_iff_lt_or_eq.mp hj with h | h
              · exact hin j h y' hy'
              · subst h
                rw [hy] at hy'
                cases hy'
                exact hf
        · rintro σ H2 ⟨v3, v4, v5, rfl, s2, hin⟩
          have S2 := s1.trans s2
          have ha := zip_all hl2 fun j y hy => hin j (by have := (List.getElem?_eq_some_iff.mp hy).1; omega) y hy
          have hG : goodV kk ys = (kk != 2 || decide (ys[0]? ≠ ys[1]?)) := by
            unfold goodV
            rw [decide_eq_true hl2, ha, Bool.true_and, Bool.true_and]
          have k' := k H2 S2
          rw [hG] at k'
          refine ⟨_, rfl, t, _, 0, _, rfl, rfl, SqT.of (s2 _ _ ht1), a0, rfl, _, rfl, ?_⟩
          show if (!decide (V.str (kindOf kk) = V.str "move")) = true then _ else _
          rw [kind_move kk hk]
          by_cases e2 : kk = 2
          · subst e2
            obtain ⟨x0, x1, x2, x3, rfl⟩ := len4 hl2
            have f0 := hin 0 (by omega) x0 rfl
            have f1 := hin 1 (by omega) x1 rfl
            obtain ⟨z0, rfl⟩ : ∃ z, x0 = .str z := by cases x0 <;> first | exact ⟨_, rfl⟩ | exact absurd f0 (by simp [sorts, fieldV, wordV])
            obtain ⟨z1, rfl⟩ : ∃ z, x1 = .str z := by cases x1 <;> first | exact ⟨_, rfl⟩ | exact absurd f1 (by simp [sorts, fieldV, wordV])
            refine iteF ⟨_, rfl, t, _, 1, _, rfl, rfl, SqT.of (s2 _ _ ht1), atI_nat (j := 1) rfl, _, rfl, t, _, 2, _, rfl, rfl, SqT.of (s2 _ _ ht1), atI_nat (j := 2) rfl, rfl, ?_⟩
            have e : (!decide (V.str z0 = V.str z1)) = ((2 : Nat) != 2 || decide ([V.str z0, V.str z1, x2, x3][0]? ≠ [V.str z0, V.str z1, x2, x3][1]?)) := by
              by_cases q : V.str z0 = V.str z1
              · rw [decide_eq_true q, q]; simp
              · rw [decide_eq_false q]; simp; exact fun z => q (by rw [z])
            rw [← e] at k'
            exact k'
          · rw [decide_eq_false e2]
            refine iteT ?_
            rw [show ((kk != 2) || decide (ys[0]? ≠ ys[1]?)) = true by simp [e2]] at k'
            exact k'
      · rw [decide_eq_false (fun z => hl2 (by injection z with z; rw [fl] at z; simp at z; omega))]
        exact iteT (no (by unfold goodV; rw [decide_eq_false hl2, Bool.false_and, Bool.false_and]) _ s1)
    · rw [forms_no fun k hk2 z => hk ⟨k, hk2, z⟩]
      refine ⟨_, rfl, rfl, _, rfl, ?_⟩
      rw [show decide ((none : Option V).getD (V.str "") = V.str "") = true by decide +kernel]
      exact iteT (no (goodT_no fun k hk2 z => hk ⟨k, hk2, by simp at z; exact z⟩) _ s1)
end
end KP
namespace KP
open PySem L2 KM KD
abbrev sSign : Stmt := top 50
abbrev nSign : List Str := ["_law_well_here", "_law_signs"]
theorem scSign : FnScope nSign ["_law_well_here"] (defScope sSign) := ⟨rfl, rfl, rfl, by decide +kernel, rfl, by decide +kernel, by decide +kernel⟩
abbrev sThing : Stmt := top 51
abbrev nThing : List Str := ["_law_well_here", "_law_thing_here", "_law_told_here", "_law_other", "_law_lot", "_law_kinds_here", "_law_at", "_law_fork"]
theorem scThing : FnScope nThing ["_law_well_here", "_law_thing_here", "_law_told_here", "_law_other"] (defScope sThing) := ⟨rfl, rfl, rfl, by decide +kernel, rfl, by decide +kernel, by decide +kernel⟩
/-- a thing whose text is not longer than n -/
def It (n : Nat) (H : Hp) (v : V) : Prop := Th H v ∧ ∀ x, v = .str x → x.length ≤ n
theorem It.same {n : Nat} {H H' : Hp} {v : V} (h : It n H v) (s : Same H H') : It n H' v := ⟨h.1.same s, h.2⟩
theorem It.sameB {n : Nat} {H H' : Hp} {b : Addr} {v : V} (h : It n H v) (w : WellAt H b) (w' : WellAt H' b) (s : SameB b H H') : It n H' v := ⟨h.1.sameB w w' s, h.2⟩
theorem It.up {n m : Nat} {H : Hp} {v : V} (h : It n H v) (l : n ≤ m) : It m H v := ⟨h.1, fun x e => Nat.le_trans (h.2 x e) l⟩
theorem It.no {n : Nat} {H : Hp} {v : V} (h : Th H v) (l : ∀ x, v ≠ .str x) : It n H v := ⟨h, fun x e => absurd e (l x)⟩
theorem It.st {n : Nat} {H : Hp} {x : Str} (h : x.length ≤ n) (l : n ≤ sizeLine) : It n H (.str x) := ⟨.str x (Nat.le_trans h l), fun y e => by cases e; exact h⟩
theorem WellAt.same {H H' : Hp} {a : Addr} (w : WellAt H a) (s : Same H H') : WellAt H' a := by
  obtain ⟨x, y, z, e⟩ := w
  exact ⟨x, y, z, s _ _ e⟩
theorem cutS_le (z : Str) (lo hi : Option Int) : (cutS z lo hi).length ≤ z.length := by
  show (((z.cps.toList.drop (HT.sIx z.length 0 lo)).take (HT.sIx z.length z.length hi - HT.sIx z.length 0 lo)).toArray).size ≤ z.cps.size
  rw [List.size_toArray, List.length_take, List.length_drop, Array.length_toList]
  omega
theorem add_len (a b : Str) : (a ++ b).length = a.length + b.length := by
  show (a.cps ++ b.cps).size = _
  rw [Array.size_append]
  rfl
theorem th_si {K : PySem.W.Frag} {H : Hp} {v : V} (t : Th H v) : ∃ u, TyX K H v u ∧ PySem.W.kitAny K u [.type "str", .type "int"] = some (isSt v || (isBl v || isIn v)) := by
  have yes1 : ∀ {n : String}, kitB n "str" = some true → PySem.W.kitAny K (.type n) [.type "str", .type "int"] = some true := fun h => kitAny_cons (kit_ty h) (fun z => nomatch z) (fun _ => rfl)
  have yes2 : ∀ {n : String}, kitB n "str" = some false → kitB n "int" = some true → PySem.W.kitAny K (.type n) [.type "str", .type "int"] = some true := fun h h2 => kitAny_cons (kit_ty h) (fun _ => kitAny_cons (kit_ty h2) (fun z => nomatch z) (fun _ => rfl)) (fun z => nomatch z)
  have no : ∀ {n : String}, kitB n "str" = some false → kitB n "int" = some false → PySem.W.kitAny K (.type n) [.type "str", .type "int"] = some false := fun h h2 => kitAny_cons (kit_ty h) (fun _ => kitAny_cons (kit_ty h2) (fun _ => rfl) (fun z => nomatch z)) (fun z => nomatch z)
  cases t with
  | non => exact ⟨_, .base .non, no (by decide +kernel) (by decide +kernel)⟩
  | bl b => exact ⟨_, .base (.bl b), yes2 (by decide +kernel) (by decide +kernel)⟩
  | int i => exact ⟨_, .base (.int i), yes2 (by decide +kernel) (by decide +kernel)⟩
  | str x h => exact ⟨_, .base (.str x), yes1 (by decide +kernel)⟩
  | lst h => exact ⟨_, .base (.lst h), no (by decide +kernel) (by decide +kernel)⟩
  | tup h => exact ⟨_, .base (.tup h), no (by decide +kernel) (by decide +kernel)⟩
  | dct h => exact ⟨_, .base (.dK h), no (by decide +kernel) (by decide +kernel)⟩
def spSign : Sp := fun vs H Q _ => ∃ b : Addr, vs = [.ref b] ∧ WellAt H b ∧ ∀ (c : Nat) (H' : Hp), WellAt H' b → SameB b H H' → Q (.str ⟨#[c]⟩) H'
def spThing : Sp := fun vs H Q _ => ∃ (b t o : Addr) (v : V) (xs os : List V) (n : Nat), vs = [.ref b, v, .ref t, .ref o] ∧ WellAt H b ∧ H t = some (.tup xs) ∧ H o = some (.tup os) ∧ xs ≠ [] ∧ os ≠ [] ∧ xs.length ≤ 1000 ∧ os.length ≤ 1000 ∧ It n H v ∧ (∀ x ∈ xs, It n H x) ∧ (∀ x ∈ os, It n H x) ∧ 8 ≤ n ∧ n ≤ 1000000 ∧
  ∀ (x : V) (H' : Hp), It (2 * n + 1) H' x → WellAt H' b → SameB b H H' → Q x H'
section
variable {P : Program} {w : World} {K : PySem.W.Frag} {mg : Str → Option Value} {base : Heap}
theorem c_sign (B : Base K mg) (Dr : Cal P w K mg base 1 "_law_draw" spDraw) (D : DefT K mg "_law_sign" sSign ["_law_well_here"]) : Cal P w K mg base 2 "_law_sign" spSign := by
  refine cal D scSign (fun vs H Q E h => ?_) (fun f cdv A outer s H vs Q E hr h => ?_)
  · obtain ⟨b, rfl, _⟩ := h
    rfl
  · obtain ⟨b, rfl, wb, k⟩ := h
    have hz : sizeLine = 16777216 := by decide
    refine ⟨_, (pss_cons (ps_set (i := 1) scSign.nd rfl (by first | exact Or.inl rfl | exact Or.inr rfl) pe_str)
        (C8.pss_cut (ps_if (pt_cmpR op_gt (pe_cl Dr hr (by decide) (by rfl) (pa_cons (pv 0) (pa_cons pe_int pa_nil))) pe_int (nomark _)) (pss_one (ps_set (i := 1) scSign.nd rfl (by first | exact Or.inl rfl | exact Or.inr rfl) pe_str)) pss_nil)
        (pss_one (ps_ret (pe_item_str (pv 1) (pe_cl Dr hr (by decide) (by rfl) (pa_cons (pv 0) (pa_cons (pe_callB call_len_str (by rfl) B.len (by decide +kernel) (pa_cons (pv 1) pa_nil)) pa_nil))) (fun _ _ => rfl)))))), ?_⟩
    refine ⟨fun σ' H' => ∃ z : Str, σ' = [some (.ref b), some (.str z)] ∧ 0 < z.length ∧ z.length ≤ 200 ∧ WellAt H' b ∧ SameB b H H', ?_, ?_⟩
    · refine ⟨_, rfl, b, 3, rfl, wb, by decide, by decide, fun r H1 r0 r1 w1 s1 => ⟨_, _, rfl, rfl, _, rfl, ite2 (fun c => ?_) (fun c => ?_)⟩⟩
      · exact ⟨_, rfl, by decide +kernel, by decide +kernel, w1, s1⟩
      · exact ⟨_, rfl, by decide +kernel, by decide +kernel, w1, s1⟩
    · rintro σ H1 ⟨z, rfl, z0, z1, w1, s1⟩
      refine ⟨_, rfl, _, rfl, _, rfl, _, rfl, (by omega), b, _, rfl, w1, (by omega), (by omega), fun r H2 r0 r1 w2 s2 => ?_⟩
      have hr2 : r.toNat < z.cps.size := by have : z.length = z.cps.size := rfl; omega
      exact ⟨z, r, z.cps[r.toNat], rfl, rfl, r0, (by omega), r1, (by rw [Array.getElem?_eq_getElem hr2]), k _ _ w2 (s1.trans s2)⟩
theorem c_thing (B : Base K mg) (Dr : Cal P w K mg base 1 "_law_draw" spDraw) (Sg : Cal P w K mg base 2 "_law_sign" spSign) (D : DefT K mg "_law_thing" sThing ["_law_well_here", "_law_thing_here", "_law_told_here", "_law_other"]) : Cal P w K mg base 3 "_law_thing" spThing := by
  refine cal D scThing (fun vs H Q E h => ?_) (fun f cdv A outer s H vs Q E hr h => ?_)
  · obtain ⟨b, t, o, v, xs, os, n, rfl, _⟩ := h
    rfl
  · obtain ⟨b, t, o, v, xs, os, n, rfl, wb, ht, ho, xne, one, xl, ol, iv, ix, io, n8, nm, k⟩ := h
    have hz : sizeLine = 16777216 := by decide
    have ntb : t ≠ b := fun e => by subst e; obtain ⟨_, _, _, e⟩ := wb; rw [ht] at e; cases e
    have nob : o ≠ b := fun e => by subst e; obtain ⟨_, _, _, e⟩ := wb; rw [ho] at e; cases e
    refine ⟨_, (pss_cons (ps_set (i := 4) scThing.nd rfl (by first | exact Or.inl rfl | exact Or.inr rfl) (pe_cl Dr hr (by decide) (by rfl) (pa_cons (pv 0) (pa_cons pe_int pa_nil))))
        (pss_cons (ps_if (pt_cmpR op_eq (pv 4) pe_int (nomark _)) (pss_one (ps_ret (pe_ix ix_tup (pv 2) (pe_cl Dr hr (by decide) (by rfl) (pa_cons (pv 0) (pa_cons (pe_callB call_len_seq (by rfl) B.len (by decide +kernel) (pa_cons (pv 2) pa_nil)) pa_nil))) (fun _ _ => rfl)))) pss_nil)
        (pss_cons (ps_if (pt_cmpR op_eq (pv 4) pe_int (nomark _)) (pss_one (ps_ret (pe_ix ix_tup (pv 3) (pe_cl Dr hr (by decide) (by rfl) (pa_cons (pv 0) (pa_cons (pe_callB call_len_seq (by rfl) B.len (by decide +kernel) (pa_cons (pv 3) pa_nil)) pa_nil))) (fun _ _ => rfl)))) pss_nil)
        (pss_cons (ps_if (PW.pt (pw_or (pt_cmpR op_eq (pv 4) pe_int (nomark _)) (pw_or1 (pt_not (pt_val (pe_callB call_isiT (by rfl) B.isi (by decide +kernel) (pa_cons (pv 1) (pa_cons (pe_tupW (pa_cons (pe_bltn (v := .ty "str") (by rfl) B.str (by decide +kernel) rfl) (pa_cons (pe_bltn (v := .ty "int") (by rfl) B.int (by decide +kernel) rfl) pa_nil))) pa_nil)))))))) (pss_cons (ps_set (i := 5) scThing.nd rfl (by first | exact Or.inl rfl | exact Or.inr rfl) (pe_lstW (pa_cons pe_str (pa_cons pe_str (pa_cons pe_str (pa_cons pe_str (pa_cons pe_str (pa_cons pe_str (pa_cons pe_str pa_nil)))))))))
        (pss_one (ps_ret (pe_ix ix_list (pe_lstW (pa_cons pe_non (pa_cons pe_bl (pa_cons (pe_lstW (pa_cons (pv 1) pa_nil)) (pa_cons (pe_tupW (pa_cons (pv 1) pa_nil)) (pa_cons pe_str (pa_cons pe_int (pa_cons pe_int (pa_cons pe_int (pa_cons pe_int (pa_cons (pe_ix ix_list (pv 5) (pe_cl Dr hr (by decide) (by rfl) (pa_cons (pv 0) (pa_cons pe_int pa_nil))) (fun _ _ => rfl)) pa_nil))))))))))) (pe_cl Dr hr (by decide) (by rfl) (pa_cons (pv 0) (pa_cons pe_int pa_nil))) (fun _ _ => rfl))))) pss_nil)
        (pss_cons (ps_if (pt_val (pe_callB call_isi (by rfl) B.isi (by decide +kernel) (pa_cons (pv 1) (pa_cons (pe_bltn (v := .ty "int") (by rfl) B.int (by decide +kernel) rfl) pa_nil)))) (pss_one (ps_ret (pe_op op_addX (pv 1) (pe_ix ix_list (pe_lstW (pa_cons pe_int (pa_cons (pe_un un_neg pe_int) (pa_cons (pe_op op_pow pe_int pe_int) (pa_cons (pe_un un_neg pe_int) (pa_cons pe_int (pa_cons (pe_op op_sub pe_int (pe_op op_mulX pe_int (pv 1))) pa_nil))))))) (pe_cl Dr hr (by decide) (by rfl) (pa_cons (pv 0) (pa_cons pe_int pa_nil))) (fun _ _ => rfl))))) pss_nil)
        (pss_cons (ps_set (i := 6) scThing.nd rfl (by first | exact Or.inl rfl | exact Or.inr rfl) (pe_cl Dr hr (by decide) (by rfl) (pa_cons (pv 0) (pa_cons (pe_op op_add (pe_callB call_len_str (by rfl) B.len (by decide +kernel) (pa_cons (pv 1) pa_nil)) pe_int) pa_nil))))
        (pss_cons (ps_set (i := 7) scThing.nd rfl (by first | exact Or.inl rfl | exact Or.inr rfl) (pe_cl Dr hr (by decide) (by rfl) (pa_cons (pv 0) (pa_cons pe_int pa_nil))))
        (pss_one (ps_ret (pe_op op_add_str (pe_op op_add_str (pe_slice sl_str (pv 1) po_none (po_some (pv 6))) (pe_ix ix_list (pe_lstW (pa_cons pe_str (pa_cons (pe_cl Sg hr (by decide) (by rfl) (pa_cons (pv 0) pa_nil)) (pa_cons (pe_cl Sg hr (by decide) (by rfl) (pa_cons (pv 0) pa_nil)) pa_nil)))) (pv 7) (fun _ _ => rfl))) (pe_slice sl_str (pv 1) (po_some (pe_op op_add (pv 6) (pe_ix ix_list (pe_lstW (pa_cons pe_int (pa_cons pe_int (pa_cons pe_int pa_nil)))) (pv 7) (fun _ _ => rfl)))) po_none))))))))))), ?_⟩
    have up : ∀ {x : V} {H' : Hp}, It n H' x → It (2 * n + 1) H' x := fun h => h.up (by omega)
    have xp : 0 < xs.length := List.length_pos_iff.mpr xne
    have op : 0 < os.length := List.length_pos_iff.mpr one
    refine ⟨_, rfl, b, 6, rfl, wb, by decide, by decide, fun lot H1 lo0 lo1 w1 s1 => ?_⟩
    have ht1 := s1 _ _ ht ntb
    have ho1 := s1 _ _ ho nob
    refine ⟨_, rfl, rfl, _, rfl, ite2 (fun c => ?_) (fun c => ?_)⟩
    · refine ⟨_, rfl, _, rfl, _, rfl, t, _, rfl, .inr (SqT.of ht1), b, _, rfl, w1, (by omega), (by omega), fun r H2 r0 r1 w2 s2 => ?_⟩
      obtain ⟨x, hx, mx⟩ := get_lt (l := xs) r0 r1
      exact ⟨t, _, r, x, rfl, rfl, SqT.of (s2 _ _ ht1 ntb), hx, k x H2 (up ((ix x mx).sameB wb w2 (s1.trans s2))) w2 (s1.trans s2)⟩
    refine ⟨_, rfl, rfl, _, rfl, ite2 (fun c2 => ?_) (fun c2 => ?_)⟩
    · refine ⟨_, rfl, _, rfl, _, rfl, o, _, rfl, .inr (SqT.of ho1), b, _, rfl, w1, (by omega), (by omega), fun r H2 r0 r1 w2 s2 => ?_⟩
      obtain ⟨x, hx, mx⟩ := get_lt (l := os) r0 r1
      exact ⟨o, _, r, x, rfl, rfl, SqT.of (s2 _ _ ho1 nob), hx, k x H2 (up ((io x mx).sameB wb w2 (s1.trans s2))) w2 (s1.trans s2)⟩
    refine ⟨_, rfl, rfl, _, rfl, ite2 (fun c3 => ?_) (fun c3 => ?_)⟩
    · refine ⟨(by show 7 ≤ sizeLine; decide), fun kl H3 s3 nkl hkl => ⟨_, rfl, (by show 1 ≤ sizeLine; decide), fun p1 H4 s4 n4 h4 => ⟨_, rfl, (by show 1 ≤ sizeLine; decide), fun p2 H5 s5 n5 h5 => ?_⟩⟩⟩
      have w5 := w1.same ((s3.trans s4).trans s5)
      have nklb : kl ≠ b := (w1.ne nkl).symm
      refine ⟨_, rfl, _, rfl, b, 7, rfl, w5, by decide, by decide, fun r H6 r0 r1 w6 s6 => ?_⟩
      obtain ⟨kv, hkv, mkv⟩ := get_lt (l := kinds7.map V.str) r0 (by exact r1)
      refine ⟨kl, _, r, kv, rfl, rfl, SqL.of (s6 _ _ (s5 _ _ (s4 _ _ hkl)) nklb), hkv, (by show 10 ≤ sizeLine; decide), fun L H7 s7 n7 h7 => ⟨_, rfl, b, 10, rfl, w6.same s7, by decide, by decide, fun r' H8 r0' r1' w8 s8 => ?_⟩⟩
      have w7 := w6.same s7
      have SF : SameB b H1 H8 := (((SameB.of ((s3.trans s4).trans s5)).trans s6).trans (SameB.of s7)).trans s8
      have nLb : L ≠ b := (w6.ne n7).symm
      obtain ⟨x, hx, mx⟩ := get_lt (l := [V.non, V.bl true, V.ref p1, V.ref p2, V.str "", V.int 0, V.int 1, V.int 31, V.int 32, kv]) r0' (by exact r1')
      refine ⟨L, _, r', x, rfl, rfl, SqL.of (s8 _ _ h7 nLb), hx, k x H8 ?_ w8 (s1.trans SF)⟩
      have tp1 : Th H8 (.ref p1) := ((((Th.lst (s5 _ _ h4)).sameB w5 w6 s6)).same s7).sameB w7 w8 s8
      have tp2 : Th H8 (.ref p2) := (((Th.tup h5).sameB w5 w6 s6).same s7).sameB w7 w8 s8
      obtain ⟨kz, hkz, rfl⟩ := List.mem_map.mp mkv
      have kl8 : kz.length ≤ 8 := (by decide +kernel : ∀ z ∈ kinds7, z.length ≤ 8) kz hkz
      simp only [List.mem_cons, List.not_mem_nil, or_false] at mx
      rcases mx with rfl | rfl | rfl | rfl | rfl | rfl | rfl | rfl | rfl | rfl
      · exact It.no .non (fun x z => nomatch z)
      · exact It.no (.bl true) (fun x z => nomatch z)
      · exact It.no tp1 (fun x z => nomatch z)
      · exact It.no tp2 (fun x z => nomatch z)
      · exact It.st (Nat.le_trans (by decide : ("" : Str).length ≤ 0) (Nat.zero_le _)) (by omega)
      · exact It.no (.int _) (fun x z => nomatch z)
      · exact It.no (.int _) (fun x z => nomatch z)
      · exact It.no (.int _) (fun x z => nomatch z)
      · exact It.no (.int _) (fun x z => nomatch z)
      · exact It.st (by omega) (by omega)
    refine ⟨_, rfl, (by show 2 ≤ sizeLine; decide), fun tp H2 s2 ntp htp => ?_⟩
    have S2 : SameB b H H2 := s1.trans (SameB.of s2)
    have w2 := w1.same s2
    have tv2 := iv.1.sameB wb w2 S2
    obtain ⟨u, tu, ku⟩ := th_si (K := K) tv2
    refine ⟨v, tp, _, u, _, _, rfl, htp, .cons (.ty _) (.cons (.ty _) .nil), tu, ku, _, rfl, ?_⟩
    cases hsi : (isSt v || (isBl v || isIn v)) with
    | false =>
      refine iteT ?_
      refine ⟨(by show 7 ≤ sizeLine; decide), fun kl H3 s3 nkl hkl => ⟨_, rfl, (by show 1 ≤ sizeLine; decide), fun p1 H4 s4 n4 h4 => ⟨_, rfl, (by show 1 ≤ sizeLine; decide), fun p2 H5 s5 n5 h5 => ?_⟩⟩⟩
      have w5 := w2.same ((s3.trans s4).trans s5)
      have nklb : kl ≠ b := (w2.ne nkl).symm
      refine ⟨_, rfl, _, rfl, b, 7, rfl, w5, by decide, by decide, fun r H6 r0 r1 w6 s6 => ?_⟩
      obtain ⟨kv, hkv, mkv⟩ := get_lt (l := kinds7.map V.str) r0 (by exact r1)
      refine ⟨kl, _, r, kv, rfl, rfl, SqL.of (s6 _ _ (s5 _ _ (s4 _ _ hkl)) nklb), hkv, (by show 10 ≤ sizeLine; decide), fun L H7 s7 n7 h7 => ⟨_, rfl, b, 10, rfl, w6.same s7, by decide, by decide, fun r' H8 r0' r1' w8 s8 => ?_⟩⟩
      have w7 := w6.same s7
      have SF : SameB b H2 H8 := (((SameB.of ((s3.trans s4).trans s5)).trans s6).trans (SameB.of s7)).trans s8
      have nLb : L ≠ b := (w6.ne n7).symm
      obtain ⟨x, hx, mx⟩ := get_lt (l := [V.non, V.bl true, V.ref p1, V.ref p2, V.str "", V.int 0, V.int 1, V.int 31, V.int 32, kv]) r0' (by exact r1')
      refine ⟨L, _, r', x, rfl, rfl, SqL.of (s8 _ _ h7 nLb), hx, k x H8 ?_ w8 (S2.trans SF)⟩
      have tp1 : Th H8 (.ref p1) := ((((Th.lst (s5 _ _ h4)).sameB w5 w6 s6)).same s7).sameB w7 w8 s8
      have tp2 : Th H8 (.ref p2) := (((Th.tup h5).sameB w5 w6 s6).same s7).sameB w7 w8 s8
      obtain ⟨kz, hkz, rfl⟩ := List.mem_map.mp mkv
      have kl8 : kz.length ≤ 8 := (by decide +kernel : ∀ z ∈ kinds7, z.length ≤ 8) kz hkz
      simp only [List.mem_cons, List.not_mem_nil, or_false] at mx
      rcases mx with rfl | rfl | rfl | rfl | rfl | rfl | rfl | rfl | rfl | rfl
      · exact It.no .non (fun x z => nomatch z)
      · exact It.no (.bl true) (fun x z => nomatch z)
      · exact It.no tp1 (fun x z => nomatch z)
      · exact It.no tp2 (fun x z => nomatch z)
      · exact It.st (Nat.le_trans (by decide : ("" : Str).length ≤ 0) (Nat.zero_le _)) (by omega)
      · exact It.no (.int _) (fun x z => nomatch z)
      · exact It.no (.int _) (fun x z => nomatch z)
      · exact It.no (.int _) (fun x z => nomatch z)
      · exact It.no (.int _) (fun x z => nomatch z)
      · exact It.st (by omega) (by omega)
    | true =>
      obtain ⟨u2, tu2, ku2⟩ := th_int (K := K) tv2
      refine iteF ⟨_, rfl, _, _, _, _, _, rfl, .ty _, tu2, ku2, _, rfl, ?_⟩
      cases hi : (isBl v || isIn v) with
      | true =>
        have cond : (∃ i, v = .int i) ∨ ∃ b, v = .bl b := by
          cases v with
          | int i => exact .inl ⟨i, rfl⟩
          | bl c => exact .inr ⟨c, rfl⟩
          | _ => exact absurd hi (by simp [isBl, isIn])
        refine iteT ⟨_, rfl, _, rfl, _, _, rfl, rfl, ⟨by decide, by decide, by decide⟩, _, rfl, _, rfl, ⟨_, rfl, by decide, by decide⟩, cond, fun z => ⟨_, _, rfl, rfl, (by show 6 ≤ sizeLine; decide), fun L H3 s3 nL hL => ⟨_, rfl, b, 6, rfl, w2.same s3, by decide, by decide, fun r H4 r0 r1 w4 s4 => ?_⟩⟩⟩
        have nLb : L ≠ b := (w2.ne nL).symm
        obtain ⟨x, hx, mx⟩ := get_lt (l := [V.int 1, V.int (-1), V.int 1000000000000, V.int (-31), V.int 30, V.int (0 - z)]) r0 (by exact r1)
        refine ⟨L, _, r, x, rfl, rfl, SqL.of (s4 _ _ hL nLb), hx, ?_, cond, fun z2 => k _ _ (It.no (.int z2) (fun x z => nomatch z)) w4 ((S2.trans (SameB.of s3)).trans s4)⟩
        simp only [List.mem_cons, List.not_mem_nil, or_false] at mx
        rcases mx with rfl | rfl | rfl | rfl | rfl | rfl <;> exact ⟨_, rfl⟩
      | false =>
        obtain ⟨z, rfl⟩ : ∃ z, v = .str z := by
          cases v with
          | str z => exact ⟨z, rfl⟩
          | _ => exact absurd hsi (by simp [isSt, isBl, isIn] at hi ⊢)
        have zn := iv.2 z rfl
        refine iteF ⟨_, rfl, _, rfl, _, rfl, (by omega), _, _, rfl, rfl, b, _, rfl, w2, (by omega), (by omega), fun a H3 a0 a1 w3 s3 => ?_⟩
        refine ⟨_, rfl, b, 3, rfl, w3, by decide, by decide, fun fk H4 f0 f1 w4 s4 => ?_⟩
        refine ⟨_, rfl, _, rfl, _, rfl, z, rfl, (by omega), _, rfl, b, rfl, w4, fun c1 H5 w5 s5 => ⟨_, rfl, b, rfl, w5, fun c2 H6 w6 s6 => ⟨(by show 3 ≤ sizeLine; decide), fun L H7 s7 nL hL => ?_⟩⟩⟩
        obtain ⟨y, hy, my⟩ := get_lt (l := [V.str "", V.str ⟨#[c1]⟩, V.str ⟨#[c2]⟩]) f0 (by exact f1)
        obtain ⟨y', rfl, yl⟩ : ∃ y' : Str, y = .str y' ∧ y'.length ≤ 1 := by
          simp only [List.mem_cons, List.not_mem_nil, or_false] at my
          rcases my with rfl | rfl | rfl
          · exact ⟨_, rfl, by decide⟩
          · exact ⟨_, rfl, Nat.le_refl _⟩
          · exact ⟨_, rfl, Nat.le_refl _⟩
        have l1 := cutS_le z none (some a)
        refine ⟨_, rfl, L, _, fk, _, rfl, rfl, SqL.of hL, hy, _, y', rfl, rfl, (by omega), ?_⟩
        refine ⟨_, rfl, _, rfl, (by show 3 ≤ sizeLine; decide), fun L2 H8 s8 nL2 hL2 => ?_⟩
        obtain ⟨d, hd, md⟩ := get_lt (l := [V.int 1, V.int 0, V.int 1]) f0 (by exact f1)
        obtain ⟨d', rfl⟩ : ∃ d', d = .int d' := by
          simp only [List.mem_cons, List.not_mem_nil, or_false] at md
          rcases md with rfl | rfl | rfl <;> exact ⟨_, rfl⟩
        have l2 := cutS_le z (some (a + d')) none
        have l3 := add_len (cutS z none (some a)) y'
        refine ⟨_, rfl, L2, _, fk, _, rfl, rfl, SqL.of hL2, hd, _, _, rfl, rfl, _, rfl, z, rfl, (by omega), _, _, rfl, rfl, (by omega), ?_⟩
        have l4 := add_len (cutS z none (some a) ++ y') (cutS z (some (a + d')) none)
        exact k _ _ (It.st (by omega) (by omega)) ((w6.same s7).same s8) (((((S2.trans s3).trans s4).trans s5).trans s6).trans (SameB.of (s7.trans s8)))
end
end KP
namespace KP
open PySem L2 KM KD
abbrev sChg : Stmt := top 52
abbrev nChg : List Str := ["_law_well_here", "_law_told_here", "_law_other", "_law_at", "_law_lot", "_law_to", "_law_found"]
theorem scChg : FnScope nChg ["_law_well_here", "_law_told_here", "_law_other"] (defScope sChg) := ⟨rfl, rfl, rfl, by decide +kernel, rfl, by decide +kernel, by decide +kernel⟩
theorem cut_toN {xs : List V} {n : Nat} : cutV xs none (some (n : Int)) = xs.take n := by
  unfold cutV
  rw [HT.sIx_nat]
  show ((xs.drop 0).take (min n xs.length - 0)) = _
  rw [List.drop_zero, Nat.sub_zero, List.take_eq_take_iff]
  omega
theorem cut_fromN {xs : List V} {n : Nat} : cutV xs (some (n : Int)) none = xs.drop n := by
  unfold cutV
  rw [HT.sIx_nat]
  show ((xs.drop (min n xs.length)).take (xs.length - min n xs.length)) = _
  rw [List.take_of_length_le (by rw [List.length_drop]; omega)]
  by_cases h : n ≤ xs.length
  · rw [Nat.min_eq_left h]
  · rw [Nat.min_eq_right (by omega), List.drop_of_length_le (Nat.le_refl _), List.drop_of_length_le (by omega)]
theorem ixN_nat {n m : Nat} (h : m < n) : ixN n (m : Int) = some m := by
  unfold ixN
  rw [if_pos (by omega), if_pos (by omega)]
  rfl
def spChg : Sp := fun vs H Q _ => ∃ (b t o : Addr) (xs os : List V) (n : Nat), vs = [.ref b, .ref t, .ref o] ∧ WellAt H b ∧ H t = some (.tup xs) ∧ H o = some (.tup os) ∧ 2 ≤ xs.length ∧ os ≠ [] ∧ xs.length ≤ 100 ∧ os.length ≤ 100 ∧ (∀ x ∈ xs, It n H x) ∧ (∀ x ∈ os, It n H x) ∧ 8 ≤ n ∧ n ≤ 1000000 ∧
  ∀ (q : Addr) (ys : List V) (H' : Hp), H' q = some (.tup ys) → (∀ y ∈ ys, It (2 * n + 1) H' y) → 1 ≤ ys.length → ys.length ≤ xs.length + 1 → WellAt H' b → SameB b H H' → Q (.ref q) H'
section
variable {P : Program} {w : World} {K : PySem.W.Frag} {mg : Str → Option Value} {base : Heap}
theorem c_chg (B : Base K mg) (Bl : mg "list" = none) (Dr : Cal P w K mg base 1 "_law_draw" spDraw) (Tg : Cal P w K mg base 3 "_law_thing" spThing) (D : DefT K mg "_law_changed" sChg ["_law_well_here", "_law_told_here", "_law_other"]) : Cal P w K mg base 4 "_law_changed" spChg := by
  refine cal D scChg (fun vs H Q E h => ?_) (fun f cdv A outer s H vs Q E hr h => ?_)
  · obtain ⟨b, t, o, xs, os, n, rfl, _⟩ := h
    rfl
  · obtain ⟨b, t, o, xs, os, n, rfl, wb, ht, ho, x2, one, xl, ol, ix, io, n8, nm, k⟩ := h
    have hz : sizeLine = 16777216 := by decide
    have ntb : t ≠ b := fun e => by subst e; obtain ⟨_, _, _, e⟩ := wb; rw [ht] at e; cases e
    have nob : o ≠ b := fun e => by subst e; obtain ⟨_, _, _, e⟩ := wb; rw [ho] at e; cases e
    refine ⟨_, (pss_cons (ps_set (i := 3) scChg.nd rfl (by first | exact Or.inl rfl | exact Or.inr rfl) (pe_cl Dr hr (by decide) (by rfl) (pa_cons (pv 0) (pa_cons (pe_callB call_len_seq (by rfl) B.len (by decide +kernel) (pa_cons (pv 1) pa_nil)) pa_nil))))
        (pss_cons (ps_set (i := 4) scChg.nd rfl (by first | exact Or.inl rfl | exact Or.inr rfl) (pe_cl Dr hr (by decide) (by rfl) (pa_cons (pv 0) (pa_cons pe_int pa_nil))))
        (pss_cons (ps_if (pt_cmpR op_eq (pv 4) pe_int (nomark _)) (pss_one (ps_ret (pe_op op_catW (pe_slice sl_tupW (pv 1) po_none (po_some (pv 3))) (pe_slice sl_tupW (pv 1) (po_some (pe_op op_add (pv 3) pe_int)) po_none)))) pss_nil)
        (pss_cons (ps_if (pt_cmpR op_eq (pv 4) pe_int (nomark _)) (pss_one (ps_ret (pe_op op_catW (pe_op op_catW (pe_slice sl_tupW (pv 1) po_none (po_some (pv 3))) (pe_tupW (pa_cons (pe_ix ix_tup (pv 2) (pe_cl Dr hr (by decide) (by rfl) (pa_cons (pv 0) (pa_cons (pe_callB call_len_seq (by rfl) B.len (by decide +kernel) (pa_cons (pv 2) pa_nil)) pa_nil))) (fun _ _ => rfl)) pa_nil))) (pe_slice sl_tupW (pv 1) (po_some (pv 3)) po_none)))) pss_nil)
        (pss_cons (ps_if (pt_cmpR op_eq (pv 4) pe_int (nomark _)) (pss_cons (ps_set (i := 5) scChg.nd rfl (by first | exact Or.inl rfl | exact Or.inr rfl) (pe_cl Dr hr (by decide) (by rfl) (pa_cons (pv 0) (pa_cons (pe_callB call_len_seq (by rfl) B.len (by decide +kernel) (pa_cons (pv 1) pa_nil)) pa_nil))))
        (pss_cons (ps_set (i := 6) scChg.nd rfl (by first | exact Or.inl rfl | exact Or.inr rfl) (pe_callTy call_listW (by rfl) Bl (by decide +kernel) (pa_cons (pv 1) pa_nil)))
        (pss_cons (ps_asg (pe_tupW (pa_cons (pe_ix ix_list (pv 6) (pv 5) (fun _ _ => rfl)) (pa_cons (pe_ix ix_list (pv 6) (pv 3) (fun _ _ => rfl)) pa_nil))) (pg_tup rfl (pgs_cons (pg_sub (pv 6) (pv 3) set_list) (pgs_cons (pg_sub (pv 6) (pv 5) set_list) pgs_nil))))
        (pss_one (ps_ret (pe_callTy call_tupleW (by rfl) B.tuple (by decide +kernel) (pa_cons (pv 6) pa_nil))))))) pss_nil)
        (pss_cons (ps_set (i := 6) scChg.nd rfl (by first | exact Or.inl rfl | exact Or.inr rfl) (pe_callTy call_listW (by rfl) Bl (by decide +kernel) (pa_cons (pv 1) pa_nil)))
        (pss_cons (ps_asg (pe_cl Tg hr (by decide) (by rfl) (pa_cons (pv 0) (pa_cons (pe_ix ix_tup (pv 1) (pv 3) (fun _ _ => rfl)) (pa_cons (pv 1) (pa_cons (pv 2) pa_nil))))) (pg_sub (pv 6) (pv 3) set_list))
        (pss_one (ps_ret (pe_callTy call_tupleW (by rfl) B.tuple (by decide +kernel) (pa_cons (pv 6) pa_nil))))))))))), ?_⟩
    have up : ∀ {x : V} {H' : Hp}, It n H' x → It (2 * n + 1) H' x := fun h => h.up (by omega)
    have op : 0 < os.length := List.length_pos_iff.mpr one
    refine ⟨_, rfl, _, rfl, t, _, rfl, .inr (SqT.of ht), b, _, rfl, wb, (by omega), (by omega), fun a H1 a0 a1 w1 s1 => ?_⟩
    obtain ⟨m, rfl⟩ : ∃ m : Nat, a = (m : Int) := ⟨a.toNat, by omega⟩
    have hm : m < xs.length := by omega
    refine ⟨_, rfl, b, 7, rfl, w1, by decide, by decide, fun lot H2 lo0 lo1 w2 s2 => ?_⟩
    have S2 := s1.trans s2
    have ht2 := S2 _ _ ht ntb
    have ho2 := S2 _ _ ho nob
    have ix2 : ∀ x ∈ xs, It n H2 x := fun x hx => (ix x hx).sameB wb w2 S2
    have io2 : ∀ x ∈ os, It n H2 x := fun x hx => (io x hx).sameB wb w2 S2
    have e1 : (((m : Nat) : Int) + 1) = ((m + 1 : Nat) : Int) := by omega
    refine ⟨_, rfl, rfl, _, rfl, ite2 (fun c => ?_) (fun c => ?_)⟩
    · refine ⟨_, rfl, _, rfl, _, rfl, t, _, rfl, ht2, fun q1 H3 s3 h3 => ⟨_, rfl, _, rfl, _, _, rfl, rfl, _, rfl, t, _, rfl, s3 _ _ ht2, fun q2 H4 s4 h4 => ?_⟩⟩
      rw [cut_toN] at h3
      rw [e1, cut_fromN] at h4
      refine ⟨q1, q2, _, _, rfl, rfl, s4 _ _ h3, h4, (by rw [List.length_take, List.length_drop]; omega), fun q H5 s5 h5 => ?_⟩
      have S5 := (s3.trans s4).trans s5
      refine k q _ H5 h5 (fun y hy => ?_) (by rw [List.length_append, List.length_take, List.length_drop]; omega) (by rw [List.length_append, List.length_take, List.length_drop]; omega) (w2.same S5) (S2.trans (SameB.of S5))
      rcases List.mem_append.mp hy with hy | hy
      · exact up ((ix2 y (List.mem_of_mem_take hy)).same S5)
      · exact up ((ix2 y (List.mem_of_mem_drop hy)).same S5)
    refine ⟨_, rfl, rfl, _, rfl, ite2 (fun c2 => ?_) (fun c2 => ?_)⟩
    · refine ⟨_, rfl, _, rfl, _, rfl, t, _, rfl, ht2, fun q1 H3 s3 h3 => ?_⟩
      refine ⟨_, rfl, _, rfl, _, rfl, o, _, rfl, .inr (SqT.of (s3 _ _ ho2)), b, _, rfl, w2.same s3, (by omega), (by omega), fun r H4 r0 r1 w4 s4 => ?_⟩
      obtain ⟨x, hx, mx⟩ := get_lt (l := os) r0 r1
      have S4 : SameB b H2 H4 := (SameB.of s3).trans s4
      rw [cut_toN] at h3
      have nq1 : q1 ≠ b := fun e => by subst e; obtain ⟨_, _, _, e⟩ := w2.same s3; rw [h3] at e; cases e
      refine ⟨o, _, r, x, rfl, rfl, SqT.of (S4 _ _ ho2 nob), hx, (by show 1 ≤ sizeLine; decide), fun q2 H5 s5 n5 h5 => ?_⟩
      refine ⟨q1, q2, _, _, rfl, rfl, s5 _ _ (s4 _ _ h3 nq1), h5, (by rw [List.length_take]; show _ + 1 ≤ _; omega), fun q3 H6 s6 h6 => ?_⟩
      have s46 := s5.trans s6
      refine ⟨_, rfl, _, rfl, _, rfl, t, _, rfl, s46 _ _ (S4 _ _ ht2 ntb), fun q4 H7 s7 h7 => ?_⟩
      rw [cut_fromN] at h7
      refine ⟨q3, q4, _, _, rfl, rfl, s7 _ _ h6, h7, (by rw [List.length_append, List.length_take, List.length_drop]; show _ + 1 + _ ≤ _; omega), fun q H8 s8 h8 => ?_⟩
      have s48 := (s46.trans s7).trans s8
      have S8 : SameB b H2 H8 := S4.trans (SameB.of s48)
      have w8 := w4.same s48
      have len : ((xs.take m ++ [x]) ++ xs.drop m).length = xs.length + 1 := by rw [List.length_append, List.length_append, List.length_take, List.length_drop]; show _ + 1 + _ = _; omega
      refine k q _ H8 h8 (fun y hy => ?_) (by rw [len]; omega) (by rw [len]; omega) w8 (S2.trans S8)
      rcases List.mem_append.mp hy with hy | hy
      · rcases List.mem_append.mp hy with hy | hy
        · exact up ((ix2 y (List.mem_of_mem_take hy)).sameB w2 w8 S8)
        · rw [List.mem_singleton.mp hy]
          exact up ((io2 x mx).sameB w2 w8 S8)
      · exact up ((ix2 y (List.mem_of_mem_drop hy)).sameB w2 w8 S8)
    refine ⟨_, rfl, rfl, _, rfl, ite2 (fun c3 => ?_) (fun c3 => ?_)⟩
    · refine ⟨_, rfl, _, rfl, t, _, rfl, .inr (SqT.of ht2), b, _, rfl, w2, (by omega), (by omega), fun r H3 r0 r1 w3 s3 => ?_⟩
      obtain ⟨j, rfl⟩ : ∃ j : Nat, r = (j : Int) := ⟨r.toNat, by omega⟩
      have hj : j < xs.length := by omega
      have ht3 := s3 _ _ ht2 ntb
      refine ⟨_, rfl, t, _, rfl, .inr (SqT.of ht3), fun L H4 s4 nL hL => ?_⟩
      obtain ⟨xj, hxj⟩ : ∃ x, xs[j]? = some x := ⟨_, List.getElem?_eq_getElem hj⟩
      obtain ⟨xm, hxm⟩ : ∃ x, xs[m]? = some x := ⟨_, List.getElem?_eq_getElem hm⟩
      refine ⟨_, rfl, _, rfl, L, _, _, xj, rfl, rfl, SqL.of hL, atI_nat hxj, _, rfl, _, rfl, L, _, _, xm, rfl, rfl, SqL.of hL, atI_nat hxm, (by show 2 ≤ sizeLine; decide), fun tp H5 s5 ntp htp => ?_⟩
      have hL5 := s5 _ _ hL
      have hl1 : (xs.set m xj).length = xs.length := List.length_set
      refine ⟨tp, _, rfl, SqT.of htp, rfl, _, _, rfl, _, rfl, _, rfl, L, _, _, m, rfl, rfl, hL5, ixN_nat hm, _, _, rfl, _, rfl, _, rfl, L, _, _, j, rfl, rfl, upd_same, ixN_nat (by rw [hl1]; exact hj), rfl, ?_⟩
      refine ⟨_, rfl, L, _, rfl, SqL.of upd_same, fun q H6 s6 nq hq => ?_⟩
      have s36 : Same H3 H6 := fun b' o' e => s6 _ _ (by
        have nb := ne_of_none e nL
        rw [upd_ne nb, upd_ne nb]
        exact s5 _ _ (s4 _ _ e))
      have S6 : SameB b H2 H6 := s3.trans (SameB.of s36)
      have w6 := w3.same s36
      refine k q _ H6 hq (fun y hy => ?_) (by rw [List.length_set, List.length_set]; omega) (by rw [List.length_set, List.length_set]; omega) w6 (S2.trans S6)
      have my : y ∈ xs := by
        rcases List.mem_or_eq_of_mem_set hy with hy | rfl
        · rcases List.mem_or_eq_of_mem_set hy with hy | rfl
          · exact hy
          · exact List.mem_of_getElem? hxj
        · exact List.mem_of_getElem? hxm
      exact up ((ix2 y my).sameB w2 w6 S6)
    · refine ⟨_, rfl, t, _, rfl, .inr (SqT.of ht2), fun L H3 s3 nL hL => ?_⟩
      obtain ⟨xm, hxm⟩ : ∃ x, xs[m]? = some x := ⟨_, List.getElem?_eq_getElem hm⟩
      have w3 := w2.same s3
      refine ⟨_, rfl, _, rfl, _, rfl, t, _, _, xm, rfl, rfl, SqT.of (s3 _ _ ht2), atI_nat hxm, _, rfl, _, rfl, b, t, o, xm, xs, os, n, rfl, w3, s3 _ _ ht2, s3 _ _ ho2, (fun e => by rw [e] at hm; exact absurd hm (Nat.not_lt_zero _)), one, (by omega), (by omega), (ix2 xm (List.mem_of_getElem? hxm)).same s3, (fun x hx => (ix2 x hx).same s3), (fun x hx => (io2 x hx).same s3), n8, nm, fun x H4 hx w4 s4 => ?_⟩
      have nLb : L ≠ b := (w2.ne nL).symm
      refine ⟨_, rfl, _, rfl, L, _, _, m, rfl, rfl, s4 _ _ hL nLb, ixN_nat hm, ?_⟩
      refine ⟨_, rfl, L, _, rfl, SqL.of upd_same, fun q H6 s6 nq hq => ?_⟩
      have S46 : SameB b H2 H6 := fun b' o' e nb' => s6 _ _ (by
        rw [upd_ne (ne_of_none e nL)]
        exact s4 _ _ (s3 _ _ e) nb')
      have w6 : WellAt H6 b := (w4.up nLb.symm).same s6
      have ix6 : It (2 * n + 1) H6 x := by
        refine ⟨?_, hx.2⟩
        have t4 := hx.1
        have h46 : ∀ b' o', H4 b' = some o' → b' ≠ L → H6 b' = some o' := fun b' o' e nb => s6 _ _ (by rw [upd_ne nb]; exact e)
        cases t4 with
        | non => exact .non
        | bl c => exact .bl c
        | int i => exact .int i
        | str z h => exact .str z h
        | @lst a' ys h =>
          by_cases e : a' = L
          · subst e
            exact .lst (s6 _ _ upd_same)
          · exact .lst (h46 _ _ h e)
        | tup h => exact .tup (h46 _ _ h fun e => by subst e; rw [s4 _ _ hL nLb] at h; cases h)
        | dct h => exact .dct (h46 _ _ h fun e => by subst e; rw [s4 _ _ hL nLb] at h; cases h)
      refine k q _ H6 hq (fun y hy => ?_) (by rw [List.length_set]; omega) (by rw [List.length_set]; omega) w6 (S2.trans S46)
      rcases List.mem_or_eq_of_mem_set hy with hy | rfl
      · exact up ((ix2 y hy).sameB w2 w6 S46)
      · exact ix6
end
end KP
namespace KP
open PySem L2 KM KD
theorem kinds_len7 : ∀ k < 7, (kindOf k).length ≤ 7 := by decide +kernel
theorem word_en {v : V} (h : wordV v = true) : ∃ x, v = .str x ∧ IsW x := by
  cases v with
  | str x => exact ⟨x, rfl, isW_of h⟩
  | _ => cases h
theorem whole_en {v : V} {lo hi : Int} (h : wholeV lo hi v = true) : ∃ i, v = .int i ∧ (lo ≤ i ∧ i ≤ hi) := by
  cases v with
  | int i => exact ⟨i, rfl, of_decide_eq_true h⟩
  | _ => cases h
theorem note_en {v : V} (h : noteV v = true) : ∃ x, v = .str x ∧ IsN x := by
  cases v with
  | str x =>
    refine ⟨x, rfl, ?_⟩
    have h' : (decide (x = "") || wordB x) = true := h
    rcases (Bool.or_eq_true _ _).mp h' with h | h
    · exact .inl (of_decide_eq_true h)
    · exact .inr (isW_of h)
  | _ => cases h
theorem good_en {k : Nat} {as : List V} (hk : k < 7) (hg : goodV k as = true) : ∃ e : En, e.ok ∧ e.tup = .str (kindOf k) :: as := by
  have hl : as.length = (sorts k).length := by
    unfold goodV at hg
    simp only [Bool.and_eq_true, decide_eq_true_eq] at hg
    exact hg.1.1
  have fl : ∀ (j : Nat) (y : V), as[j]? = some y → fieldV ((sorts k).getD j 0) y = true := fun j y hy => good_field hg hy
  have hk7 : k = 0 ∨ k = 1 ∨ k = 2 ∨ k = 3 ∨ k = 4 ∨ k = 5 ∨ k = 6 := by omega
  rcases hk7 with rfl | rfl | rfl | rfl | rfl | rfl | rfl
  · obtain ⟨x0, x1, x2, rfl⟩ := len3 hl
    obtain ⟨y0, rfl, h0⟩ := word_en (fl 0 x0 rfl)
    obtain ⟨y1, rfl, h1⟩ := whole_en (fl 1 x1 rfl)
    obtain ⟨y2, rfl, h2⟩ := note_en (fl 2 x2 rfl)
    exact ⟨.give y0 y1 y2, ⟨h0, h1, h2⟩, rfl⟩
  · obtain ⟨x0, x1, x2, x3, rfl⟩ := len4 hl
    obtain ⟨y0, rfl, h0⟩ := word_en (fl 0 x0 rfl)
    obtain ⟨y1, rfl, h1⟩ := whole_en (fl 1 x1 rfl)
    obtain ⟨y2, rfl, h2⟩ := whole_en (fl 2 x2 rfl)
    obtain ⟨y3, rfl, h3⟩ := note_en (fl 3 x3 rfl)
    exact ⟨.hold y0 y1 y2 y3, ⟨h0, h1, h2, h3⟩, rfl⟩
  · obtain ⟨x0, x1, x2, x3, rfl⟩ := len4 hl
    obtain ⟨y0, rfl, h0⟩ := word_en (fl 0 x0 rfl)
    obtain ⟨y1, rfl, h1⟩ := word_en (fl 1 x1 rfl)
    obtain ⟨y2, rfl, h2⟩ := whole_en (fl 2 x2 rfl)
    obtain ⟨y3, rfl, h3⟩ := note_en (fl 3 x3 rfl)
    have ne : y0 ≠ y1 := fun e => by subst e; simp [goodV] at hg
    exact ⟨.move y0 y1 y2 y3, ⟨h0, h1, ne, h2, h3⟩, rfl⟩
  · obtain ⟨x0, x1, x2, rfl⟩ := len3 hl
    obtain ⟨y0, rfl, h0⟩ := word_en (fl 0 x0 rfl)
    obtain ⟨y1, rfl, h1⟩ := whole_en (fl 1 x1 rfl)
    obtain ⟨y2, rfl, h2⟩ := note_en (fl 2 x2 rfl)
    exact ⟨.spend y0 y1 y2, ⟨h0, h1, h2⟩, rfl⟩
  · obtain ⟨x0, x1, x2, x3, rfl⟩ := len4 hl
    obtain ⟨y0, rfl, h0⟩ := word_en (fl 0 x0 rfl)
    obtain ⟨y1, rfl, h1⟩ := word_en (fl 1 x1 rfl)
    obtain ⟨y2, rfl, h2⟩ := whole_en (fl 2 x2 rfl)
    obtain ⟨y3, rfl, h3⟩ := note_en (fl 3 x3 rfl)
    exact ⟨.promise y0 y1 y2 y3, ⟨h0, h1, h2, h3⟩, rfl⟩
  · obtain ⟨x0, x1, x2, rfl⟩ := len3 hl
    obtain ⟨y0, rfl, h0⟩ := word_en (fl 0 x0 rfl)
    obtain ⟨y1, rfl, h1⟩ := whole_en (fl 1 x1 rfl)
    obtain ⟨y2, rfl, h2⟩ := note_en (fl 2 x2 rfl)
    exact ⟨.lessen y0 y1 y2, ⟨h0, h1, h2⟩, rfl⟩
  · obtain ⟨x0, x1, x2, rfl⟩ := len3 hl
    obtain ⟨y0, rfl, h0⟩ := word_en (fl 0 x0 rfl)
    obtain ⟨y1, rfl, h1⟩ := whole_en (fl 1 x1 rfl)
    obtain ⟨y2, rfl, h2⟩ := note_en (fl 2 x2 rfl)
    exact ⟨.out y0 y1 y2, ⟨h0, h1, h2⟩, rfl⟩
theorem goodT_en {xs : List V} (h : goodT xs = true) : ∃ e : En, e.ok ∧ e.tup = xs := by
  unfold goodT at h
  rw [List.any_eq_true] at h
  obtain ⟨k, hk, h⟩ := h
  simp only [Bool.and_eq_true, decide_eq_true_eq] at h
  obtain ⟨h1, h2⟩ := h
  cases xs with
  | nil => cases h1
  | cons y ys =>
    have e : y = .str (kindOf k) := by simpa using h1
    subst e
    exact good_en (List.mem_range.mp hk) h2
theorem goodT_bad {xs : List V} (h : goodT xs = false) : TupBad xs := by
  intro k hk as e
  subst e
  rw [goodT_kind hk] at h
  exact h
theorem en_it {e : En} (h : e.ok) {H : Hp} : ∀ x ∈ e.tup, It 10 H x := by
  have w : ∀ {x : Str}, IsW x → It 10 H (.str x) := fun h => It.st (Nat.le_trans h.2.2 (by decide)) (by decide)
  have nn : ∀ {x : Str}, IsN x → It 10 H (.str x) := fun h => by
    rcases h with rfl | h
    · exact It.st (by decide) (by decide)
    · exact w h
  have c : ∀ {i : Int}, It 10 H (.int i) := fun {i} => It.no (.int i) fun x z => nomatch z
  have kd : It 10 H (.str e.kind) := by rw [kind_of]; exact It.st (Nat.le_trans (kinds_len7 _ (k_lt e)) (by decide)) (by decide)
  intro x hx
  rcases List.mem_cons.mp hx with rfl | hx
  · exact kd
  · cases e with
    | give x0 x1 x2 =>
      obtain ⟨a, b, d⟩ := h
      simp only [En.args, List.mem_cons, List.not_mem_nil, or_false] at hx
      rcases hx with rfl | rfl | rfl; exact w a; exact c; exact nn d
    | hold x0 x1 x2 x3 =>
      obtain ⟨a, b, m, d⟩ := h
      simp only [En.args, List.mem_cons, List.not_mem_nil, or_false] at hx
      rcases hx with rfl | rfl | rfl | rfl; exact w a; exact c; exact c; exact nn d
    | move x0 x1 x2 x3 =>
      obtain ⟨a, b, _, m, d⟩ := h
      simp only [En.args, List.mem_cons, List.not_mem_nil, or_false] at hx
      rcases hx with rfl | rfl | rfl | rfl; exact w a; exact w b; exact c; exact nn d
    | spend x0 x1 x2 =>
      obtain ⟨a, b, d⟩ := h
      simp only [En.args, List.mem_cons, List.not_mem_nil, or_false] at hx
      rcases hx with rfl | rfl | rfl; exact w a; exact c; exact nn d
    | promise x0 x1 x2 x3 =>
      obtain ⟨a, b, m, d⟩ := h
      simp only [En.args, List.mem_cons, List.not_mem_nil, or_false] at hx
      rcases hx with rfl | rfl | rfl | rfl; exact w a; exact w b; exact c; exact nn d
    | lessen x0 x1 x2 =>
      obtain ⟨a, b, d⟩ := h
      simp only [En.args, List.mem_cons, List.not_mem_nil, or_false] at hx
      rcases hx with rfl | rfl | rfl; exact w a; exact c; exact nn d
    | out x0 x1 x2 =>
      obtain ⟨a, b, d⟩ := h
      simp only [En.args, List.mem_cons, List.not_mem_nil, or_false] at hx
      rcases hx with rfl | rfl | rfl; exact w a; exact c; exact nn d
theorem tup_len (e : En) : 4 ≤ e.tup.length ∧ e.tup.length ≤ 5 := by cases e <;> simp [En.tup, En.args]
theorem pow3 : ∀ i : Nat, 1 ≤ 3 ^ i
  | 0 => Nat.le_refl _
  | i + 1 => by
    have := pow3 i
    rw [Nat.pow_succ]
    omega
theorem rb_tup {H : Hp} {a : Addr} {xs : List V} (h : H a = some (.tup xs)) (t : ∀ x ∈ xs, Th H x) (b : TupBad xs) : ReadBad H (.ref a) := ⟨.tup h, fun a' xs' e h' => by
  cases e
  rw [h] at h'
  cases h'
  exact ⟨t, b⟩⟩
def spLaw (K : PySem.W.Frag) : Sp := fun vs H Q _ => ∃ (a : Addr) (ns : List Int), vs = [.ref a] ∧ SqL K H a (ns.map V.int) ∧ ns.length ≤ 63 ∧ ∀ H', Q (.bl true) H'
theorem cut_intV {vs : List V} (hv : ∀ v ∈ vs, ∃ c, v = .int c) {lo hi : Option Int} : (cutV vs lo hi).length ≤ vs.length ∧ ∀ v ∈ cutV vs lo hi, ∃ c, v = .int c :=
  ⟨cutV_length vs lo hi, fun v h => by unfold cutV at h; exact hv v (List.mem_of_mem_drop (List.mem_of_mem_take h))⟩
section
variable {P : Program} {w : World} {K : PySem.W.Frag} {mg : Str → Option Value} {base : Heap} {C : Nat → Addr}
abbrev nLaw : List Str := ["_law_script", "_law_cell", "_law_well_here", "_law_told_here", "_law_other", "_law_k"]
theorem scLaw : FnScope nLaw ["_law_script"] (defScope sLaw) := ⟨rfl, rfl, rfl, by decide +kernel, rfl, by decide +kernel, by decide +kernel⟩
theorem ok_law {f : Addr} {fd : FuncData} (F : Fun K "law" "law" sLaw f fd) (B : Base K mg) (Wl : Cal P w K mg base 1 "_law_well" spWell) (Dr : Cal P w K mg base 1 "_law_draw" spDraw) (Tl : Cal P w K mg base 4 "_law_told" spToldT) (Md : Cal P w K mg base 6 "_law_made" (spMade C))
    (Rd : Cal P w K mg base 6 "read_entry" (spMade C)) (Is : Cal P w K mg base 2 "_law_is" (spIs C)) (Cg : Cal P w K mg base 4 "_law_changed" spChg) (Rf : Cal P w K mg base 7 "_law_refused" spRefB) (Gd : Cal P w K mg base 2 "_law_good" spGood) : FnOk P w K mg base CX0 8 f fd ["_law_script"] (spLaw K) := by
  refine F.ok scLaw (fun vs H Q E h => ?_) (fun cdv A outer s H vs Q E2 hr h => ?_)
  · obtain ⟨a, ns, rfl, _⟩ := h
    rfl
  · obtain ⟨a, ns, rfl, hS, hlen, k⟩ := h
    have hz : sizeLine = 16777216 := by decide
    refine ⟨_, (pss_cons (ps_for PassesOwn.never rfl (pi_list (pe_op op_catLW (pe_slice sl_listW (pv 0) po_none (po_some pe_int)) (pe_lstW (pa_cons pe_int (pa_cons pe_int (pa_cons pe_int (pa_cons pe_int pa_nil))))))) (pg_name (i := 1) scLaw.nd rfl (by first | exact Or.inl rfl | exact Or.inr rfl)) (pss_cons (ps_set (i := 2) scLaw.nd rfl (by first | exact Or.inl rfl | exact Or.inr rfl) (pe_cl Wl hr (by decide) (by rfl) (pa_cons (pv 1) pa_nil)))
        (pss_cons (ps_set (i := 3) scLaw.nd rfl (by first | exact Or.inl rfl | exact Or.inr rfl) (pe_cl Tl hr (by decide) (by rfl) (pa_cons (pv 2) pa_nil)))
        (pss_cons (ps_set (i := 4) scLaw.nd rfl (by first | exact Or.inl rfl | exact Or.inr rfl) (pe_cl Tl hr (by decide) (by rfl) (pa_cons (pv 2) pa_nil)))
        (pss_cons (ps_for PassesOwn.never rfl (pi_range1 (by rfl) B.range (pa_cons (pe_cl Dr hr (by decide) (by rfl) (pa_cons (pv 2) (pa_cons pe_int pa_nil))) pa_nil)) (pg_name (i := 5) scLaw.nd rfl (by first | exact Or.inl rfl | exact Or.inr rfl)) (pss_one (ps_if (pt_cmpR op_gt (pe_callB call_len_seq (by rfl) B.len (by decide +kernel) (pa_cons (pv 3) pa_nil)) pe_int (nomark _)) (pss_one (ps_set (i := 3) scLaw.nd rfl (by first | exact Or.inl rfl | exact Or.inr rfl) (pe_cl Cg hr (by decide) (by rfl) (pa_cons (pv 2) (pa_cons (pv 3) (pa_cons (pv 4) pa_nil)))))) pss_nil)))
        (pss_one (ps_if (pt_val (pe_cl Gd hr (by decide) (by rfl) (pa_cons (pv 3) pa_nil))) (pss_one (ps_if (PW.pt (pw_or (pt_not (pt_val (pe_cl Is hr (by decide) (by rfl) (pa_cons (pe_cl Rd hr (by decide) (by rfl) (pa_cons (pv 3) pa_nil)) (pa_cons (pv 3) pa_nil))))) (pw_or1 (pt_not (pt_val (pe_cl Is hr (by decide) (by rfl) (pa_cons (pe_cl Md hr (by decide) (by rfl) (pa_cons (pv 3) pa_nil)) (pa_cons (pv 3) pa_nil)))))))) (pss_one (ps_ret pe_bl)) pss_nil)) (pss_one (ps_if (pt_not (pt_val (pe_cl Rf hr (by decide) (by rfl) (pa_cons (pv 3) (pa_cons (pe_lstW (pa_cons pe_int pa_nil)) pa_nil))))) (pss_one (ps_ret pe_bl)) pss_nil)))))))))
        (pss_one (ps_ret pe_bl))), ?_⟩
    obtain ⟨cl, ci⟩ := cut_intV (vs := ns.map V.int) (fun v hv => by obtain ⟨c, _, rfl⟩ := List.mem_map.mp hv; exact ⟨c, rfl⟩) (lo := none) (hi := some 30)
    rw [List.length_map] at cl
    refine ⟨_, rfl, _, rfl, a, _, rfl, hS, fun p H1 s1 np hp => ⟨(by show 4 ≤ sizeLine; decide), fun q H2 s2 nq hq => ⟨p, q, _, _, rfl, rfl, s2 _ _ hp, hq, (by show _ + 4 ≤ _; omega), fun R H3 s3 nR hR => ?_⟩⟩⟩
    have iint : ∀ v ∈ cutV (ns.map V.int) none (some 30) ++ [V.int 0, V.int 3, V.int 8, V.int 11], ∃ c, v = V.int c := fun v hv => by
      rcases List.mem_append.mp hv with hv | hv
      · exact ci v hv
      · simp at hv
        rcases hv with rfl | rfl | rfl | rfl <;> exact ⟨_, rfl⟩
    generalize cutV (ns.map V.int) none (some 30) ++ [V.int 0, V.int 3, V.int 8, V.int 11] = items at iint hR
    refine ⟨R, rfl, ⟨_, SqL.of hR⟩, for_list (K := K) (a := R) (xs := items) (fun i σ H' => ∃ (v1 v2 v3 v4 v5 : Option V), σ = [some (.ref a), v1, v2, v3, v4, v5] ∧ Same H3 H')
      ⟨none, none, none, none, none, rfl, Same.refl _⟩ (fun i σ H' _ ⟨_, _, _, _, _, _, z⟩ => SqL.of (z _ _ hR)) ?_ (fun σ H4 _ => k _)⟩
    rintro i v σ H4 hi ⟨v1, v2, v3, v4, v5, rfl, s4⟩
    obtain ⟨c, rfl⟩ := iint v (List.mem_of_getElem? hi)
    refine ⟨_, rfl, c, rfl, fun b Hb sb nb wb => ?_⟩
    refine ⟨_, rfl, b, rfl, wb, fun t e H5 hok nt ht w5 s5 => ?_⟩
    refine ⟨_, rfl, b, rfl, w5, fun o e' H6 hok' no ho w6 s6 => ?_⟩
    have nbx : ∀ {H' : Hp} {x : Addr} {xs : List V}, WellAt H' b → H' x = some (.tup xs) → x ≠ b := fun w h z => by subst z; obtain ⟨_, _, _, z⟩ := w; rw [h] at z; cases z
    have ht6 := s6 _ _ ht (nbx w5 ht)
    have nob := nbx w6 ho
    refine ⟨_, rfl, b, 4, rfl, w6, by decide, by decide, fun r H7 r0 r1 w7 s7 => ?_⟩
    refine ⟨_, rfl, (by omega), (by omega), for_range (lo := 0) (n := r.toNat) (fun i σ H' => ∃ (t' : Addr) (xs : List V) (v5 : Option V), σ = [some (.ref a), some (.int c), some (.ref b), some (.ref t'), some (.ref o), v5] ∧ H' t' = some (.tup xs) ∧ 1 ≤ xs.length ∧ xs.length ≤ 5 + i ∧ (∀ x ∈ xs, It (10 * 3 ^ i) H' x) ∧ WellAt H' b ∧ SameB b H6 H')
      ⟨t, e.tup, _, rfl, s7 _ _ ht6 (nbx w6 ht6), (by have := tup_len e; omega), (by have := tup_len e; omega), (fun x hx => en_it hok x hx), w7, s7⟩ ?_ ?_⟩
    · rintro i σ H8 hi8 ⟨t', xs, v5, rfl, ht8, l1, l2, it8, w8, s8⟩
      have i3 : i < 4 := by omega
      have m1 : 1 ≤ 3 ^ i := pow3 i
      have m2 : 3 ^ i ≤ 81 := Nat.le_trans (Nat.pow_le_pow_right (by decide) (by omega : i ≤ 4)) (by decide)
      have e3 : 3 ^ (i + 1) = 3 ^ i * 3 := by rw [Nat.pow_succ]
      generalize 3 ^ i = m at m1 m2 e3 it8
      refine ⟨_, rfl, t', _, rfl, .inr (SqT.of ht8), _, _, rfl, rfl, _, rfl, ite2 (fun c1 => ?_) (fun c1 => ?_)⟩
      · have x2 : 2 ≤ xs.length := by have := of_decide_eq_true c1; omega
        refine ⟨_, rfl, _, rfl, _, rfl, b, t', o, xs, e'.tup, 10 * m, rfl, w8, ht8, s8 _ _ ho nob, x2, (fun z => by have := tup_len e'; rw [z] at this; simp at this), (by omega), (by have := tup_len e'; omega), it8, (fun x hx => (en_it hok' x hx).up (by omega)), (by omega), (by omega), fun q ys H9 hq iy y1 y2 w9 s9 => ?_⟩
        exact ⟨q, ys, _, rfl, hq, y1, (by omega), (fun y hy => (iy y hy).up (by omega)), w9, s8.trans s9⟩
      · exact ⟨t', xs, _, rfl, ht8, l1, (by omega), (fun y hy => (it8 y hy).up (by omega)), w8, s8⟩
    · rintro σ H8 ⟨t', xs, v5, rfl, ht8, l1, l2, it8, w8, s8⟩
      have fin : ∀ H9, Same H8 H9 → ∃ (v1 v2 v3 v4 v5' : Option V), [some (V.ref a), some (.int c), some (.ref b), some (.ref t'), some (.ref o), v5] = [some (.ref a), v1, v2, v3, v4, v5'] ∧ Same H3 H9 := fun H9 s9 => ⟨_, _, _, _, _, rfl, fun p' o' ho' => by
        have h4 := s4 _ _ ho'
        have nb' : p' ≠ b := ne_of_none h4 nb
        exact s9 _ _ (s8 _ _ (s6 _ _ (s5 _ _ (sb _ _ h4) nb') nb') nb')⟩
      refine ⟨_, rfl, t', xs, rfl, ht8, (fun x hx => (it8 x hx).1), (by omega), fun H9 s9 => ⟨_, rfl, ?_⟩⟩
      have ht9 := s9 _ _ ht8
      cases hg : goodT xs with
      | true =>
        obtain ⟨e1, ok1, rfl⟩ := goodT_en hg
        refine iteT ⟨_, rfl, t', e1, rfl, ht9, ok1, fun x1 H10 s10 n10 e10 => ?_⟩
        refine ⟨_, rfl, x1, t', e1, rfl, e10, s10 _ _ ht9, ok1, fun H11 s11 => ⟨_, rfl, iteF ?_⟩⟩
        refine ⟨_, rfl, t', e1, rfl, (s10.trans s11) _ _ ht9, ok1, fun x3 H12 s12 n12 e12 => ?_⟩
        refine ⟨_, rfl, x3, t', e1, rfl, e12, (s10.trans (s11.trans s12)) _ _ ht9, ok1, fun H13 s13 => ⟨_, rfl, iteF ?_⟩⟩
        exact fin _ (s9.trans (s10.trans (s11.trans (s12.trans s13))))
      | false =>
        refine iteF ⟨_, rfl, (by show 1 ≤ sizeLine; decide), fun d3 H10 s10 nd3 hd3 => ⟨.ref t', d3, [0], rfl, hd3, (rb_tup ht9 (fun x hx => (it8 x hx).1.same s9) (goodT_bad hg)).same s10, (fun ⟨d, hd, h0⟩ => absurd (by simpa using hd) h0), fun H11 s11 => ⟨_, rfl, iteF ?_⟩⟩⟩
        exact fin _ (s9.trans (s10.trans s11))
end
end KP
namespace KP
open PySem L2 KM KD
/-! ### from what the top has written -/
section
variable {K : PySem.W.Frag} {h : Heap} {mg : Str → Option Value}
theorem defT {x : Str} {st : Stmt} {ps : List Str} {f : Addr} {oc : Value} {od an : Option Addr} {sl : Array (Option Value)} {kV dc pm cd ct : Value} (X : K.In h) (G : h.Ns mainGlobals mg) (a : PySem.W.nsIn K mainGlobals x = some (some (.ref f)))
    (l : K.lookup f = some ⟨oc, od, .func (PySem.W.fnOf x x (defArgs st) (defBody st) (defScope st) .none kV dc pm an cd ct), sl⟩) (c : PySem.W.codeIn K cd x = true) (k : PySem.W.keepIn K (.ref f) = true)
    (hb : ∀ (kV doc pm : Value) (an : Option Addr) (cdv ct : Value) (us : List Value), us.length = ps.length → bindArgs (PySem.W.fnOf x x (defArgs st) (defBody st) (defScope st) .none kV doc pm an cdv ct) ⟨us, []⟩ = pure (ps.zip us)) : DefT K mg x st ps :=
  ⟨f, _, fun_mk l c k, (fun_mk l c k).binds hb, PySem.W.mg_of X G a⟩
/-- law itself -/
structure LawT (K : PySem.W.Frag) (mg : Str → Option Value) : Prop where
  ex : ∃ f fd, Fun K "law" "law" sLaw f fd ∧ mg "law" = some (.ref f) ∧ ∀ (s : Shared) (v : Value), BindsTo s fd ⟨[v], []⟩ [("_law_script", v)]
theorem lawT {f : Addr} {oc : Value} {od an : Option Addr} {sl : Array (Option Value)} {kV dc pm cd ct : Value} (X : K.In h) (G : h.Ns mainGlobals mg) (a : PySem.W.nsIn K mainGlobals "law" = some (some (.ref f)))
    (l : K.lookup f = some ⟨oc, od, .func (PySem.W.fnOf "law" "law" (defArgs sLaw) (defBody sLaw) (defScope sLaw) .none kV dc pm an cd ct), sl⟩) (c : PySem.W.codeIn K cd "law" = true) (k : PySem.W.keepIn K (.ref f) = true) : LawT K mg :=
  ⟨f, _, fun_mk l c k, PySem.W.mg_of X G a, fun s v => .of_eq rfl⟩
structure ClsF (K : PySem.W.Frag) (C : Addr) : Prop where
  pg : PySem.W.plainGet K C Str.empty = true
  hd : PySem.W.hasDictIn K C = true
  po : PySem.W.plainOver K C = true
  sa : PySem.W.findIn K (.ref C) "__setattr__" = some (some (.builtin "object.__setattr__"))
  mks : PySem.W.makesIn K C = true
  kc : PySem.W.keepIn K (.ref C) = true
  ha : PySem.W.findIn K (.ref C) "__class__" = some (some (.builtin "object.__class__"))
  hm : PySem.W.mroIn K C (.type "object") = some true
  ic : PySem.W.isClsIn K C = true
  tc : PySem.W.typeIn K (.ref C) = some (.type "type")
theorem clsT {x qI qT : Str} {C f g : Addr} {sI sT : Stmt} {psI fl : List Str} {oc oc2 : Value} {od an od2 an2 : Option Addr} {sl sl2 : Array (Option Value)} {kV dc pm cd ct kV2 dc2 pm2 cd2 ct2 : Value} (X : K.In h) (G : h.Ns mainGlobals mg)
    (F : ClsF K C) (aC : PySem.W.nsIn K mainGlobals x = some (some (.ref C)))
    (a1 : PySem.W.findIn K (.ref C) "__init__" = some (some (.ref f))) (i1 : PySem.W.isFn K (.ref f) = true) (l1 : K.lookup f = some ⟨oc, od, .func (PySem.W.fnOf "__init__" qI (defArgs sI) (defBody sI) (defScope sI) .none kV dc pm an cd ct), sl⟩) (c1 : PySem.W.codeIn K cd qI = true) (k1 : PySem.W.keepIn K (.ref f) = true)
    (a2 : PySem.W.findIn K (.ref C) "told" = some (some (.ref g))) (i2 : PySem.W.isFn K (.ref g) = true) (l2 : K.lookup g = some ⟨oc2, od2, .func (PySem.W.fnOf "told" qT (defArgs sT) (defBody sT) (defScope sT) .none kV2 dc2 pm2 an2 cd2 ct2), sl2⟩) (c2 : PySem.W.codeIn K cd2 qT = true) (k2 : PySem.W.keepIn K (.ref g) = true)
    (nF : ∀ f ∈ fl, NoAttr K C f)
    (hb1 : ∀ (kV doc pm : Value) (an : Option Addr) (cdv ct : Value) (us : List Value), us.length = psI.length → bindArgs (PySem.W.fnOf "__init__" qI (defArgs sI) (defBody sI) (defScope sI) .none kV doc pm an cdv ct) ⟨us, []⟩ = pure (psI.zip us))
    (hb2 : ∀ (kV doc pm : Value) (an : Option Addr) (cdv ct : Value) (us : List Value), us.length = (["self"] : List Str).length → bindArgs (PySem.W.fnOf "told" qT (defArgs sT) (defBody sT) (defScope sT) .none kV doc pm an cdv ct) ⟨us, []⟩ = pure ((["self"] : List Str).zip us)) :
    ClsT K mg x qI qT C sI sT psI fl :=
  ⟨⟨F.pg, F.hd, F.po, F.sa⟩, PySem.W.mg_of X G aC, ⟨f, _, ⟨F.mks, a1, i1, F.kc⟩, fun_mk l1 c1 k1, (fun_mk l1 c1 k1).binds hb1⟩, ⟨g, _, ⟨a2, i2, k2⟩, fun_mk l2 c2 k2, (fun_mk l2 c2 k2).binds hb2⟩, nF⟩
theorem nf3 {C : Addr} {a b c : Str} (h1 : PySem.W.findIn K (.ref C) a = some none) (h2 : PySem.W.findIn K (.ref C) b = some none) (h3 : PySem.W.findIn K (.ref C) c = some none) : ∀ f ∈ [a, b, c], NoAttr K C f := by
  intro f hf
  simp at hf
  rcases hf with rfl | rfl | rfl
  · exact h1
  · exact h2
  · exact h3
theorem nf4 {C : Addr} {a b c d : Str} (h1 : PySem.W.findIn K (.ref C) a = some none) (h2 : PySem.W.findIn K (.ref C) b = some none) (h3 : PySem.W.findIn K (.ref C) c = some none) (h4 : PySem.W.findIn K (.ref C) d = some none) : ∀ f ∈ [a, b, c, d], NoAttr K C f := by
  intro f hf
  simp at hf
  rcases hf with rfl | rfl | rfl | rfl
  · exact h1
  · exact h2
  · exact h3
  · exact h4
theorem kit_self {C : Addr} : PySem.W.kitOne K (.ref C) (.ref C) = some true := by
  unfold PySem.W.kitOne
  rw [if_pos (by simp)]
theorem kit_ne {C D : Addr} {b : Bool} (hne : C ≠ D) (F : ClsF K D) (hs : PySem.W.subIn K (.ref C) (.ref D) = some b) : PySem.W.kitOne K (.ref C) (.ref D) = some b := by
  unfold PySem.W.kitOne
  rw [if_neg (by simpa using hne)]
  have h2 : (PySem.W.clsIn K D).isSome = true := F.ic
  have e2 : ((PySem.W.clsIn K D).isSome && PySem.W.typeIn K (.ref D) == some (.type "type")) = true := by
    rw [h2, F.tc]
    rfl
  show (if ((PySem.W.clsIn K D).isSome && PySem.W.typeIn K (.ref D) == some (.type "type")) = true then PySem.W.subIn K (.ref C) (.ref D) else none) = some b
  rw [if_pos e2]
  exact hs
end
section
variable {K : PySem.W.Frag}
theorem kit_ne2 {C D : Addr} {b : Bool} (hne : C ≠ D) (ic : PySem.W.isClsIn K D = true) (tc : PySem.W.typeIn K (.ref D) = some (.type "type")) (hs : PySem.W.subIn K (.ref C) (.ref D) = some b) : PySem.W.kitOne K (.ref C) (.ref D) = some b := by
  unfold PySem.W.kitOne
  rw [if_neg (by simpa using hne)]
  have h2 : (PySem.W.clsIn K D).isSome = true := ic
  have e2 : ((PySem.W.clsIn K D).isSome && PySem.W.typeIn K (.ref D) == some (.type "type")) = true := by
    rw [h2, tc]
    rfl
  show (if ((PySem.W.clsIn K D).isSome && PySem.W.typeIn K (.ref D) == some (.type "type")) = true then PySem.W.subIn K (.ref C) (.ref D) else none) = some b
  rw [if_pos e2]
  exact hs
theorem kit_ty2 {C : Addr} {n : String} {b : Bool} (hm : PySem.W.kitMeta n = true) (hs : PySem.W.subIn K (.ref C) (.type n) = some b) : PySem.W.kitOne K (.ref C) (.type n) = some b := by
  unfold PySem.W.kitOne
  rw [if_neg (by simp)]
  show (if PySem.W.kitMeta n = true then PySem.W.subIn K (.ref C) (.type n) else none) = some b
  rw [if_pos hm]
  exact hs
def c11 (c0 c1 c2 c3 c4 c5 c6 c7 c8 c9 c10 : Addr) : Nat → Addr
  | 0 => c0 | 1 => c1 | 2 => c2 | 3 => c3 | 4 => c4 | 5 => c5 | 6 => c6 | 7 => c7 | 8 => c8 | 9 => c9 | _ => c10
end
def c7 (c0 c1 c2 c3 c4 c5 c6 : Addr) : Nat → Addr
  | 0 => c0 | 1 => c1 | 2 => c2 | 3 => c3 | 4 => c4 | 5 => c5 | _ => c6
theorem all_mk {P : Program} {w : World} {K : PySem.W.Frag} {h : Heap} {mg : Str → Option Value} {fa c0 c1 c2 c3 c4 c5 c6 cE Cn Cp g0 g1 g2 g3 g4 g5 g6 g7 g8 g9 g10 : Addr}
    (X : K.In h) (G : h.Ns mainGlobals mg) (hfa : mg "law" = some (.ref fa))
    (a0 : PySem.W.nsIn K mainGlobals "Give" = some (some (.ref c0)))
    (a1 : PySem.W.nsIn K mainGlobals "Hold" = some (some (.ref c1)))
    (a2 : PySem.W.nsIn K mainGlobals "Move" = some (some (.ref c2)))
    (a3 : PySem.W.nsIn K mainGlobals "Spend" = some (some (.ref c3)))
    (a4 : PySem.W.nsIn K mainGlobals "Promise" = some (some (.ref c4)))
    (a5 : PySem.W.nsIn K mainGlobals "Lessen" = some (some (.ref c5)))
    (a6 : PySem.W.nsIn K mainGlobals "Out" = some (some (.ref c6)))
    (aE : PySem.W.nsIn K mainGlobals "Entry" = some (some (.ref cE)))
    (nd : [c0, c1, c2, c3, c4, c5, c6, cE].Nodup)
    (f0 : ClsF K c0)
    (f1 : ClsF K c1)
    (f2 : ClsF K c2)
    (f3 : ClsF K c3)
    (f4 : ClsF K c4)
    (f5 : ClsF K c5)
    (f6 : ClsF K c6)
    (fE : ClsF K cE)
    (t0 : ClsT K mg "Give" "Give.__init__" "Give.told" c0 sIGive sTGive ["self", "head", "coins", "note"] ["head", "coins", "note"])
    (t1 : ClsT K mg "Hold" "Hold.__init__" "Hold.told" c1 sIHold sTHold ["self", "head", "coins", "until", "note"] ["head", "coins", "until", "note"])
    (t2 : ClsT K mg "Move" "Move.__init__" "Move.told" c2 sIMove sTMove ["self", "head", "other", "coins", "note"] ["head", "other", "coins", "note"])
    (t3 : ClsT K mg "Spend" "Spend.__init__" "Spend.told" c3 sISpend sTSpend ["self", "head", "coins", "note"] ["head", "coins", "note"])
    (t4 : ClsT K mg "Promise" "Promise.__init__" "Promise.told" c4 sIPromise sTPromise ["self", "word", "head", "coins", "note"] ["word", "head", "coins", "note"])
    (t5 : ClsT K mg "Lessen" "Lessen.__init__" "Lessen.told" c5 sILessen sTLessen ["self", "word", "coins", "note"] ["word", "coins", "note"])
    (t6 : ClsT K mg "Out" "Out.__init__" "Out.told" c6 sIOut sTOut ["self", "word", "coins", "note"] ["word", "coins", "note"])
    (hn : PySem.W.specialIn K (.builtin "object.__class__") "__get__" = some (some (.builtin "getset_descriptor.__get__"))) (htk : PySem.W.takesIn K (.builtin "object.__class__") = some true)
    (s01 : PySem.W.subIn K (.ref c0) (.ref c1) = some false)
    (s02 : PySem.W.subIn K (.ref c0) (.ref c2) = some false)
    (s03 : PySem.W.subIn K (.ref c0) (.ref c3) = some false)
    (s04 : PySem.W.subIn K (.ref c0) (.ref c4) = some false)
    (s05 : PySem.W.subIn K (.ref c0) (.ref c5) = some false)
    (s06 : PySem.W.subIn K (.ref c0) (.ref c6) = some false)
    (s10 : PySem.W.subIn K (.ref c1) (.ref c0) = some false)
    (s12 : PySem.W.subIn K (.ref c1) (.ref c2) = some false)
    (s13 : PySem.W.subIn K (.ref c1) (.ref c3) = some false)
    (s14 : PySem.W.subIn K (.ref c1) (.ref c4) = some false)
    (s15 : PySem.W.subIn K (.ref c1) (.ref c5) = some false)
    (s16 : PySem.W.subIn K (.ref c1) (.ref c6) = some false)
    (s20 : PySem.W.subIn K (.ref c2) (.ref c0) = some false)
    (s21 : PySem.W.subIn K (.ref c2) (.ref c1) = some false)
    (s23 : PySem.W.subIn K (.ref c2) (.ref c3) = some false)
    (s24 : PySem.W.subIn K (.ref c2) (.ref c4) = some false)
    (s25 : PySem.W.subIn K (.ref c2) (.ref c5) = some false)
    (s26 : PySem.W.subIn K (.ref c2) (.ref c6) = some false)
    (s30 : PySem.W.subIn K (.ref c3) (.ref c0) = some false)
    (s31 : PySem.W.subIn K (.ref c3) (.ref c1) = some false)
    (s32 : PySem.W.subIn K (.ref c3) (.ref c2) = some false)
    (s34 : PySem.W.subIn K (.ref c3) (.ref c4) = some false)
    (s35 : PySem.W.subIn K (.ref c3) (.ref c5) = some false)
    (s36 : PySem.W.subIn K (.ref c3) (.ref c6) = some false)
    (s40 : PySem.W.subIn K (.ref c4) (.ref c0) = some false)
    (s41 : PySem.W.subIn K (.ref c4) (.ref c1) = some false)
    (s42 : PySem.W.subIn K (.ref c4) (.ref c2) = some false)
    (s43 : PySem.W.subIn K (.ref c4) (.ref c3) = some false)
    (s45 : PySem.W.subIn K (.ref c4) (.ref c5) = some false)
    (s46 : PySem.W.subIn K (.ref c4) (.ref c6) = some false)
    (s50 : PySem.W.subIn K (.ref c5) (.ref c0) = some false)
    (s51 : PySem.W.subIn K (.ref c5) (.ref c1) = some false)
    (s52 : PySem.W.subIn K (.ref c5) (.ref c2) = some false)
    (s53 : PySem.W.subIn K (.ref c5) (.ref c3) = some false)
    (s54 : PySem.W.subIn K (.ref c5) (.ref c4) = some false)
    (s56 : PySem.W.subIn K (.ref c5) (.ref c6) = some false)
    (s60 : PySem.W.subIn K (.ref c6) (.ref c0) = some false)
    (s61 : PySem.W.subIn K (.ref c6) (.ref c1) = some false)
    (s62 : PySem.W.subIn K (.ref c6) (.ref c2) = some false)
    (s63 : PySem.W.subIn K (.ref c6) (.ref c3) = some false)
    (s64 : PySem.W.subIn K (.ref c6) (.ref c4) = some false)
    (s65 : PySem.W.subIn K (.ref c6) (.ref c5) = some false)
    (s0E : PySem.W.subIn K (.ref c0) (.ref cE) = some true)
    (s1E : PySem.W.subIn K (.ref c1) (.ref cE) = some true)
    (s2E : PySem.W.subIn K (.ref c2) (.ref cE) = some true)
    (s3E : PySem.W.subIn K (.ref c3) (.ref cE) = some true)
    (s4E : PySem.W.subIn K (.ref c4) (.ref cE) = some true)
    (s5E : PySem.W.subIn K (.ref c5) (.ref cE) = some true)
    (s6E : PySem.W.subIn K (.ref c6) (.ref cE) = some true)
    (B : Base K mg) (L : LawT K mg)
    (d0 : DefT K mg "is_whole" sWhole ["value", "least", "most"])
    (d1 : DefT K mg "is_word" sWord ["value"])
    (d2 : DefT K mg "is_note" sNote ["value"])
    (d3 : DefT K mg "check_fields" sCheck ["words", "coins", "note"])
    (d4 : DefT K mg "read_entry" sRead ["told"])
    (d5 : DefT K mg "_law_well" sWell ["_law_cell"])
    (d6 : DefT K mg "_law_draw" sDraw ["_law_well_here", "_law_many"])
    (d7 : DefT K mg "_law_name" sName ["_law_well_here"])
    (d8 : DefT K mg "_law_names" sNames ["_law_well_here", "_law_many"])
    (d9 : DefT K mg "_law_coins" sCoins ["_law_well_here"])
    (d10 : DefT K mg "_law_told" sTold ["_law_well_here"])
    (d11 : DefT K mg "_law_made" sMade ["_law_told_here"])
    (d12 : DefT K mg "_law_kinds" sKinds ["_law_entry"])
    (d13 : DefT K mg "_law_fields" sFields ["_law_entry", "_law_kind"])
    (d14 : DefT K mg "_law_is" sIs ["_law_entry", "_law_told_here"])
    (N : ErrF K mg "NoEntry" Cn) (Bl : mg "list" = none)
    (eg0 : PySem.W.nsIn K mainGlobals "Full" = some (some (.ref g0))) (ig0 : PySem.W.isClsIn K g0 = true) (jg0 : PySem.W.typeIn K (.ref g0) = some (.type "type")) (sg0 : PySem.W.subIn K (.ref Cn) (.ref g0) = some false)
    (eg1 : PySem.W.nsIn K mainGlobals "Leaned" = some (some (.ref g1))) (ig1 : PySem.W.isClsIn K g1 = true) (jg1 : PySem.W.typeIn K (.ref g1) = some (.type "type")) (sg1 : PySem.W.subIn K (.ref Cn) (.ref g1) = some false)
    (eg2 : PySem.W.nsIn K mainGlobals "NoDay" = some (some (.ref g2))) (ig2 : PySem.W.isClsIn K g2 = true) (jg2 : PySem.W.typeIn K (.ref g2) = some (.type "type")) (sg2 : PySem.W.subIn K (.ref Cn) (.ref g2) = some false)
    (eg3 : PySem.W.nsIn K mainGlobals "NoYear" = some (some (.ref g3))) (ig3 : PySem.W.isClsIn K g3 = true) (jg3 : PySem.W.typeIn K (.ref g3) = some (.type "type")) (sg3 : PySem.W.subIn K (.ref Cn) (.ref g3) = some false)
    (eg4 : PySem.W.nsIn K mainGlobals "NoHead" = some (some (.ref g4))) (ig4 : PySem.W.isClsIn K g4 = true) (jg4 : PySem.W.typeIn K (.ref g4) = some (.type "type")) (sg4 : PySem.W.subIn K (.ref Cn) (.ref g4) = some false)
    (eg5 : PySem.W.nsIn K mainGlobals "NoNumber" = some (some (.ref g5))) (ig5 : PySem.W.isClsIn K g5 = true) (jg5 : PySem.W.typeIn K (.ref g5) = some (.type "type")) (sg5 : PySem.W.subIn K (.ref Cn) (.ref g5) = some false)
    (eg6 : PySem.W.nsIn K mainGlobals "NoPromise" = some (some (.ref g6))) (ig6 : PySem.W.isClsIn K g6 = true) (jg6 : PySem.W.typeIn K (.ref g6) = some (.type "type")) (sg6 : PySem.W.subIn K (.ref Cn) (.ref g6) = some false)
    (eg7 : PySem.W.nsIn K mainGlobals "NoRow" = some (some (.ref g7))) (ig7 : PySem.W.isClsIn K g7 = true) (jg7 : PySem.W.typeIn K (.ref g7) = some (.type "type")) (sg7 : PySem.W.subIn K (.ref Cn) (.ref g7) = some false)
    (eg8 : PySem.W.nsIn K mainGlobals "NoText" = some (some (.ref g8))) (ig8 : PySem.W.isClsIn K g8 = true) (jg8 : PySem.W.typeIn K (.ref g8) = some (.type "type")) (sg8 : PySem.W.subIn K (.ref Cn) (.ref g8) = some false)
    (eg9 : PySem.W.nsIn K mainGlobals "Passed" = some (some (.ref g9))) (ig9 : PySem.W.isClsIn K g9 = true) (jg9 : PySem.W.typeIn K (.ref g9) = some (.type "type")) (sg9 : PySem.W.subIn K (.ref Cn) (.ref g9) = some false)
    (eg10 : PySem.W.nsIn K mainGlobals "Taken" = some (some (.ref g10))) (ig10 : PySem.W.isClsIn K g10 = true) (jg10 : PySem.W.typeIn K (.ref g10) = some (.type "type")) (sg10 : PySem.W.subIn K (.ref Cn) (.ref g10) = some false)
    (ndE : [Cn, g0, g1, g2, g3, g4, g5, g6, g7, g8, g9, g10].Nodup)
    (kV : PySem.W.kitOne K (.ref Cn) (.type "ValueError") = some true)
    (xc : ExcC K Cn)
    (eP : PySem.W.nsIn K mainGlobals "PurseError" = some (some (.ref Cp)))
    (xm : PySem.W.exmOne K (.ref Cn) (.ref Cp) = some true)
    (ve : mg "ValueError" = none)
    (d15 : DefT K mg "_law_refused" sRef ["_law_told_here", "_law_doors"])
    (d16 : DefT K mg "_law_word" sLWord ["_law_thing_here"])
    (d17 : DefT K mg "_law_within" sWithin ["_law_thing_here", "_law_least", "_law_most"])
    (d18 : DefT K mg "_law_good" sGood ["_law_told_here"])
    (d19 : DefT K mg "_law_sign" sSign ["_law_well_here"])
    (d20 : DefT K mg "_law_thing" sThing ["_law_well_here", "_law_thing_here", "_law_told_here", "_law_other"])
    (d21 : DefT K mg "_law_changed" sChg ["_law_well_here", "_law_told_here", "_law_other"]) :
    ∃ fd : FuncData, (∀ (s : Shared) (v : Value), BindsTo s fd ⟨[v], []⟩ [("_law_script", v)]) ∧ ∀ base : Heap, K.In base → base.Ns mainGlobals mg → FnOk P w K mg base CX0 8 fa fd ["_law_script"] (spLaw K) := by
  obtain ⟨f, fd, F, hm, hb⟩ := L.ex
  have ef : fa = f := by
    have e := hfa.symm.trans hm
    injection e with e
    injection e
  subst ef
  have T : Kits K mg (c7 c0 c1 c2 c3 c4 c5 c6) cE := by
    refine ⟨?_, ?_, hn, htk, ?_, ?_, ?_, PySem.W.mg_of X G aE, ?_, PySem.W.mg_of X G a0, PySem.W.mg_of X G a1, PySem.W.mg_of X G a2, PySem.W.mg_of X G a3, PySem.W.mg_of X G a4, PySem.W.mg_of X G a5, PySem.W.mg_of X G a6⟩
    · intro k hk
      match k, hk with
      | 0, _ => exact ⟨f0.pg, f0.hd, f0.po, f0.sa⟩
      | 1, _ => exact ⟨f1.pg, f1.hd, f1.po, f1.sa⟩
      | 2, _ => exact ⟨f2.pg, f2.hd, f2.po, f2.sa⟩
      | 3, _ => exact ⟨f3.pg, f3.hd, f3.po, f3.sa⟩
      | 4, _ => exact ⟨f4.pg, f4.hd, f4.po, f4.sa⟩
      | 5, _ => exact ⟨f5.pg, f5.hd, f5.po, f5.sa⟩
      | 6, _ => exact ⟨f6.pg, f6.hd, f6.po, f6.sa⟩
    · intro k hk
      match k, hk with
      | 0, _ => exact f0.ha
      | 1, _ => exact f1.ha
      | 2, _ => exact f2.ha
      | 3, _ => exact f3.ha
      | 4, _ => exact f4.ha
      | 5, _ => exact f5.ha
      | 6, _ => exact f6.ha
    · intro k hk
      match k, hk with
      | 0, _ => exact f0.hm
      | 1, _ => exact f1.hm
      | 2, _ => exact f2.hm
      | 3, _ => exact f3.hm
      | 4, _ => exact f4.hm
      | 5, _ => exact f5.hm
      | 6, _ => exact f6.hm
    · intro k hk j hj
      match k, hk, j, hj with
      | 0, _, 0, _ => exact kit_self
      | 0, _, 1, _ => exact kit_ne (fun e => absurd (L2.nd_ix nd (i := 0) (j := 1) (x := c0) rfl (congrArg some e.symm)) (by decide)) f1 s01
      | 0, _, 2, _ => exact kit_ne (fun e => absurd (L2.nd_ix nd (i := 0) (j := 2) (x := c0) rfl (congrArg some e.symm)) (by decide)) f2 s02
      | 0, _, 3, _ => exact kit_ne (fun e => absurd (L2.nd_ix nd (i := 0) (j := 3) (x := c0) rfl (congrArg some e.symm)) (by decide)) f3 s03
      | 0, _, 4, _ => exact kit_ne (fun e => absurd (L2.nd_ix nd (i := 0) (j := 4) (x := c0) rfl (congrArg some e.symm)) (by decide)) f4 s04
      | 0, _, 5, _ => exact kit_ne (fun e => absurd (L2.nd_ix nd (i := 0) (j := 5) (x := c0) rfl (congrArg some e.symm)) (by decide)) f5 s05
      | 0, _, 6, _ => exact kit_ne (fun e => absurd (L2.nd_ix nd (i := 0) (j := 6) (x := c0) rfl (congrArg some e.symm)) (by decide)) f6 s06
      | 1, _, 0, _ => exact kit_ne (fun e => absurd (L2.nd_ix nd (i := 1) (j := 0) (x := c1) rfl (congrArg some e.symm)) (by decide)) f0 s10
      | 1, _, 1, _ => exact kit_self
      | 1, _, 2, _ => exact kit_ne (fun e => absurd (L2.nd_ix nd (i := 1) (j := 2) (x := c1) rfl (congrArg some e.symm)) (by decide)) f2 s12
      | 1, _, 3, _ => exact kit_ne (fun e => absurd (L2.nd_ix nd (i := 1) (j := 3) (x := c1) rfl (congrArg some e.symm)) (by decide)) f3 s13
      | 1, _, 4, _ => exact kit_ne (fun e => absurd (L2.nd_ix nd (i := 1) (j := 4) (x := c1) rfl (congrArg some e.symm)) (by decide)) f4 s14
      | 1, _, 5, _ => exact kit_ne (fun e => absurd (L2.nd_ix nd (i := 1) (j := 5) (x := c1) rfl (congrArg some e.symm)) (by decide)) f5 s15
      | 1, _, 6, _ => exact kit_ne (fun e => absurd (L2.nd_ix nd (i := 1) (j := 6) (x := c1) rfl (congrArg some e.symm)) (by decide)) f6 s16
      | 2, _, 0, _ => exact kit_ne (fun e => absurd (L2.nd_ix nd (i := 2) (j := 0) (x := c2) rfl (congrArg some e.symm)) (by decide)) f0 s20
      | 2, _, 1, _ => exact kit_ne (fun e => absurd (L2.nd_ix nd (i := 2) (j := 1) (x := c2) rfl (congrArg some e.symm)) (by decide)) f1 s21
      | 2, _, 2, _ => exact kit_self
      | 2, _, 3, _ => exact kit_ne (fun e => absurd (L2.nd_ix nd (i := 2) (j := 3) (x := c2) rfl (congrArg some e.symm)) (by decide)) f3 s23
      | 2, _, 4, _ => exact kit_ne (fun e => absurd (L2.nd_ix nd (i := 2) (j := 4) (x := c2) rfl (congrArg some e.symm)) (by decide)) f4 s24
      | 2, _, 5, _ => exact kit_ne (fun e => absurd (L2.nd_ix nd (i := 2) (j := 5) (x := c2) rfl (congrArg some e.symm)) (by decide)) f5 s25
      | 2, _, 6, _ => exact kit_ne (fun e => absurd (L2.nd_ix nd (i := 2) (j := 6) (x := c2) rfl (congrArg some e.symm)) (by decide)) f6 s26
      | 3, _, 0, _ => exact kit_ne (fun e => absurd (L2.nd_ix nd (i := 3) (j := 0) (x := c3) rfl (congrArg some e.symm)) (by decide)) f0 s30
      | 3, _, 1, _ => exact kit_ne (fun e => absurd (L2.nd_ix nd (i := 3) (j := 1) (x := c3) rfl (congrArg some e.symm)) (by decide)) f1 s31
      | 3, _, 2, _ => exact kit_ne (fun e => absurd (L2.nd_ix nd (i := 3) (j := 2) (x := c3) rfl (congrArg some e.symm)) (by decide)) f2 s32
      | 3, _, 3, _ => exact kit_self
      | 3, _, 4, _ => exact kit_ne (fun e => absurd (L2.nd_ix nd (i := 3) (j := 4) (x := c3) rfl (congrArg some e.symm)) (by decide)) f4 s34
      | 3, _, 5, _ => exact kit_ne (fun e => absurd (L2.nd_ix nd (i := 3) (j := 5) (x := c3) rfl (congrArg some e.symm)) (by decide)) f5 s35
      | 3, _, 6, _ => exact kit_ne (fun e => absurd (L2.nd_ix nd (i := 3) (j := 6) (x := c3) rfl (congrArg some e.symm)) (by decide)) f6 s36
      | 4, _, 0, _ => exact kit_ne (fun e => absurd (L2.nd_ix nd (i := 4) (j := 0) (x := c4) rfl (congrArg some e.symm)) (by decide)) f0 s40
      | 4, _, 1, _ => exact kit_ne (fun e => absurd (L2.nd_ix nd (i := 4) (j := 1) (x := c4) rfl (congrArg some e.symm)) (by decide)) f1 s41
      | 4, _, 2, _ => exact kit_ne (fun e => absurd (L2.nd_ix nd (i := 4) (j := 2) (x := c4) rfl (congrArg some e.symm)) (by decide)) f2 s42
      | 4, _, 3, _ => exact kit_ne (fun e => absurd (L2.nd_ix nd (i := 4) (j := 3) (x := c4) rfl (congrArg some e.symm)) (by decide)) f3 s43
      | 4, _, 4, _ => exact kit_self
      | 4, _, 5, _ => exact kit_ne (fun e => absurd (L2.nd_ix nd (i := 4) (j := 5) (x := c4) rfl (congrArg some e.symm)) (by decide)) f5 s45
      | 4, _, 6, _ => exact kit_ne (fun e => absurd (L2.nd_ix nd (i := 4) (j := 6) (x := c4) rfl (congrArg some e.symm)) (by decide)) f6 s46
      | 5, _, 0, _ => exact kit_ne (fun e => absurd (L2.nd_ix nd (i := 5) (j := 0) (x := c5) rfl (congrArg some e.symm)) (by decide)) f0 s50
      | 5, _, 1, _ => exact kit_ne (fun e => absurd (L2.nd_ix nd (i := 5) (j := 1) (x := c5) rfl (congrArg some e.symm)) (by decide)) f1 s51
      | 5, _, 2, _ => exact kit_ne (fun e => absurd (L2.nd_ix nd (i := 5) (j := 2) (x := c5) rfl (congrArg some e.symm)) (by decide)) f2 s52
      | 5, _, 3, _ => exact kit_ne (fun e => absurd (L2.nd_ix nd (i := 5) (j := 3) (x := c5) rfl (congrArg some e.symm)) (by decide)) f3 s53
      | 5, _, 4, _ => exact kit_ne (fun e => absurd (L2.nd_ix nd (i := 5) (j := 4) (x := c5) rfl (congrArg some e.symm)) (by decide)) f4 s54
      | 5, _, 5, _ => exact kit_self
      | 5, _, 6, _ => exact kit_ne (fun e => absurd (L2.nd_ix nd (i := 5) (j := 6) (x := c5) rfl (congrArg some e.symm)) (by decide)) f6 s56
      | 6, _, 0, _ => exact kit_ne (fun e => absurd (L2.nd_ix nd (i := 6) (j := 0) (x := c6) rfl (congrArg some e.symm)) (by decide)) f0 s60
      | 6, _, 1, _ => exact kit_ne (fun e => absurd (L2.nd_ix nd (i := 6) (j := 1) (x := c6) rfl (congrArg some e.symm)) (by decide)) f1 s61
      | 6, _, 2, _ => exact kit_ne (fun e => absurd (L2.nd_ix nd (i := 6) (j := 2) (x := c6) rfl (congrArg some e.symm)) (by decide)) f2 s62
      | 6, _, 3, _ => exact kit_ne (fun e => absurd (L2.nd_ix nd (i := 6) (j := 3) (x := c6) rfl (congrArg some e.symm)) (by decide)) f3 s63
      | 6, _, 4, _ => exact kit_ne (fun e => absurd (L2.nd_ix nd (i := 6) (j := 4) (x := c6) rfl (congrArg some e.symm)) (by decide)) f4 s64
      | 6, _, 5, _ => exact kit_ne (fun e => absurd (L2.nd_ix nd (i := 6) (j := 5) (x := c6) rfl (congrArg some e.symm)) (by decide)) f5 s65
      | 6, _, 6, _ => exact kit_self
    · intro k hk
      match k, hk with
      | 0, _ => exact kit_ne (fun e => absurd (L2.nd_ix nd (i := 0) (j := 7) (x := c0) rfl (congrArg some e.symm)) (by decide)) fE s0E
      | 1, _ => exact kit_ne (fun e => absurd (L2.nd_ix nd (i := 1) (j := 7) (x := c1) rfl (congrArg some e.symm)) (by decide)) fE s1E
      | 2, _ => exact kit_ne (fun e => absurd (L2.nd_ix nd (i := 2) (j := 7) (x := c2) rfl (congrArg some e.symm)) (by decide)) fE s2E
      | 3, _ => exact kit_ne (fun e => absurd (L2.nd_ix nd (i := 3) (j := 7) (x := c3) rfl (congrArg some e.symm)) (by decide)) fE s3E
      | 4, _ => exact kit_ne (fun e => absurd (L2.nd_ix nd (i := 4) (j := 7) (x := c4) rfl (congrArg some e.symm)) (by decide)) fE s4E
      | 5, _ => exact kit_ne (fun e => absurd (L2.nd_ix nd (i := 5) (j := 7) (x := c5) rfl (congrArg some e.symm)) (by decide)) fE s5E
      | 6, _ => exact kit_ne (fun e => absurd (L2.nd_ix nd (i := 6) (j := 7) (x := c6) rfl (congrArg some e.symm)) (by decide)) fE s6E
    · intro e
      cases e
      · exact t0.nF
      · exact t1.nF
      · exact t2.nF
      · exact t3.nF
      · exact t4.nF
      · exact t5.nF
      · exact t6.nF
  refine ⟨fd, hb, fun base _ _ => ?_⟩
  have kWh : Cal P w K mg base 1 "is_whole" spWhole := c_whole B d0
  have kWo : Cal P w K mg base 1 "is_word" spWord := c_word B d1
  have kNo : Cal P w K mg base 2 "is_note" spNote := c_note B kWo d2
  have kCk : Cal P w K mg base 3 "check_fields" spCheck := c_check B kWh kWo kNo d3
  have S : All7 P w K mg base (c7 c0 c1 c2 c3 c4 c5 c6) := ⟨i_give (C := c7 c0 c1 c2 c3 c4 c5 c6) B kWh kCk t0, t_give (C := c7 c0 c1 c2 c3 c4 c5 c6) t0, i_hold (C := c7 c0 c1 c2 c3 c4 c5 c6) B kWh kCk t1, t_hold (C := c7 c0 c1 c2 c3 c4 c5 c6) t1, i_move (C := c7 c0 c1 c2 c3 c4 c5 c6) B kWh kCk t2, t_move (C := c7 c0 c1 c2 c3 c4 c5 c6) t2, i_spend (C := c7 c0 c1 c2 c3 c4 c5 c6) B kWh kCk t3, t_spend (C := c7 c0 c1 c2 c3 c4 c5 c6) t3, i_promise (C := c7 c0 c1 c2 c3 c4 c5 c6) B kWh kCk t4, t_promise (C := c7 c0 c1 c2 c3 c4 c5 c6) t4, i_lessen (C := c7 c0 c1 c2 c3 c4 c5 c6) B kWh kCk t5, t_lessen (C := c7 c0 c1 c2 c3 c4 c5 c6) t5, i_out (C := c7 c0 c1 c2 c3 c4 c5 c6) B kWh kCk t6, t_out (C := c7 c0 c1 c2 c3 c4 c5 c6) t6⟩
  have kRd : Cal P w K mg base 6 "read_entry" (spMade (c7 c0 c1 c2 c3 c4 c5 c6)) := c_read B S d4
  have kMd : Cal P w K mg base 6 "_law_made" (spMade (c7 c0 c1 c2 c3 c4 c5 c6)) := c_made S d11
  have kDr : Cal P w K mg base 1 "_law_draw" spDraw := c_draw d6
  have kNm : Cal P w K mg base 2 "_law_name" spName := c_name B kDr d7
  have kNs : Cal P w K mg base 3 "_law_names" spNames := c_names B kDr kNm d8
  have kCn : Cal P w K mg base 2 "_law_coins" spCoins := c_coins kDr d9
  have kTl : Cal P w K mg base 4 "_law_told" spToldT := c_told kDr kNm kNs kCn d10
  have kWl : Cal P w K mg base 1 "_law_well" spWell := c_well B d5
  have kKd : Cal P w K mg base 1 "_law_kinds" (spKinds (c7 c0 c1 c2 c3 c4 c5 c6)) := c_kinds B T d12
  have kFl : Cal P w K mg base 1 "_law_fields" (spFields (c7 c0 c1 c2 c3 c4 c5 c6)) := c_fields T d13
  have kIs : Cal P w K mg base 2 "_law_is" (spIs (c7 c0 c1 c2 c3 c4 c5 c6)) := c_is B T S kKd kFl d14
  have kitA : ∀ i < 11, PySem.W.kitOne K (.ref Cn) (.ref (c11 g0 g1 g2 g3 g4 g5 g6 g7 g8 g9 g10 i)) = some false := by
    intro i hi
    match i, hi with
    | 0, _ => exact kit_ne2 (fun e => absurd (L2.nd_ix ndE (i := 0) (j := 1) (x := Cn) rfl (congrArg some e.symm)) (by decide)) ig0 jg0 sg0
    | 1, _ => exact kit_ne2 (fun e => absurd (L2.nd_ix ndE (i := 0) (j := 2) (x := Cn) rfl (congrArg some e.symm)) (by decide)) ig1 jg1 sg1
    | 2, _ => exact kit_ne2 (fun e => absurd (L2.nd_ix ndE (i := 0) (j := 3) (x := Cn) rfl (congrArg some e.symm)) (by decide)) ig2 jg2 sg2
    | 3, _ => exact kit_ne2 (fun e => absurd (L2.nd_ix ndE (i := 0) (j := 4) (x := Cn) rfl (congrArg some e.symm)) (by decide)) ig3 jg3 sg3
    | 4, _ => exact kit_ne2 (fun e => absurd (L2.nd_ix ndE (i := 0) (j := 5) (x := Cn) rfl (congrArg some e.symm)) (by decide)) ig4 jg4 sg4
    | 5, _ => exact kit_ne2 (fun e => absurd (L2.nd_ix ndE (i := 0) (j := 6) (x := Cn) rfl (congrArg some e.symm)) (by decide)) ig5 jg5 sg5
    | 6, _ => exact kit_ne2 (fun e => absurd (L2.nd_ix ndE (i := 0) (j := 7) (x := Cn) rfl (congrArg some e.symm)) (by decide)) ig6 jg6 sg6
    | 7, _ => exact kit_ne2 (fun e => absurd (L2.nd_ix ndE (i := 0) (j := 8) (x := Cn) rfl (congrArg some e.symm)) (by decide)) ig7 jg7 sg7
    | 8, _ => exact kit_ne2 (fun e => absurd (L2.nd_ix ndE (i := 0) (j := 9) (x := Cn) rfl (congrArg some e.symm)) (by decide)) ig8 jg8 sg8
    | 9, _ => exact kit_ne2 (fun e => absurd (L2.nd_ix ndE (i := 0) (j := 10) (x := Cn) rfl (congrArg some e.symm)) (by decide)) ig9 jg9 sg9
    | 10, _ => exact kit_ne2 (fun e => absurd (L2.nd_ix ndE (i := 0) (j := 11) (x := Cn) rfl (congrArg some e.symm)) (by decide)) ig10 jg10 sg10
  have Er : ErrAll K mg Cn Cp (c11 g0 g1 g2 g3 g4 g5 g6 g7 g8 g9 g10) := ⟨PySem.W.mg_of X G eg0, PySem.W.mg_of X G eg1, PySem.W.mg_of X G eg2, PySem.W.mg_of X G eg3, PySem.W.mg_of X G eg4, PySem.W.mg_of X G eg5, PySem.W.mg_of X G eg6, PySem.W.mg_of X G eg7, PySem.W.mg_of X G eg8, PySem.W.mg_of X G eg9, PySem.W.mg_of X G eg10, kitA, kit_self, kV, xc, PySem.W.mg_of X G eP, xm, ve⟩
  have vWh : Cal P w K mg base 1 "is_whole" spWholeV := c_wholeV B d0
  have vWo : Cal P w K mg base 1 "is_word" spWordV := c_wordV B d1
  have vNo : Cal P w K mg base 2 "is_note" spNoteV := c_noteV B vWo d2
  have vCk : CalX P w K mg base 3 "check_fields" (spCheckX Cn) := c_checkX B N vWh vWo vNo d3
  have SB : Bad7 P w K mg base (c7 c0 c1 c2 c3 c4 c5 c6) Cn := ⟨ib_give (C := (c7 c0 c1 c2 c3 c4 c5 c6)) B N vWh vCk t0, ib_hold (C := (c7 c0 c1 c2 c3 c4 c5 c6)) B N vWh vCk t1, ib_move (C := (c7 c0 c1 c2 c3 c4 c5 c6)) B N vWh vCk t2, ib_spend (C := (c7 c0 c1 c2 c3 c4 c5 c6)) B N vWh vCk t3, ib_promise (C := (c7 c0 c1 c2 c3 c4 c5 c6)) B N vWh vCk t4, ib_lessen (C := (c7 c0 c1 c2 c3 c4 c5 c6)) B N vWh vCk t5, ib_out (C := (c7 c0 c1 c2 c3 c4 c5 c6)) B N vWh vCk t6⟩
  have kRb : CalX P w K mg base 6 "read_entry" (spReadB Cn) := c_readB B N SB d4
  have kMb : CalX P w K mg base 6 "_law_made" (spMadeB Cn) := c_madeB N SB d11
  have kRf : Cal P w K mg base 7 "_law_refused" spRefB := c_ref B N Er kRb kMb d15
  have kLw : Cal P w K mg base 1 "_law_word" spWordV := c_lword B d16
  have kWi : Cal P w K mg base 1 "_law_within" spWholeV := c_within B d17
  have kGd : Cal P w K mg base 2 "_law_good" spGood := c_good B kLw kWi d18
  have kSg : Cal P w K mg base 2 "_law_sign" spSign := c_sign B kDr d19
  have kTg : Cal P w K mg base 3 "_law_thing" spThing := c_thing B kDr kSg d20
  have kCg : Cal P w K mg base 4 "_law_changed" spChg := c_chg B Bl kDr kTg d21
  exact ok_law F B kWl kDr kTl kMd kRd kIs kCg kRf kGd
theorem walk {l : PySem.W.OpenLaw} {q : Program} {loose : List Str} {XP : (Str → Option Value) → Heap → Prop} {YP : World → Heap → Prop} {d : DefRec} {K : Params → PySem.W.Frag} (hn : l.most = some 63) (hdf : d.params.defaults = [])
    (hY : ∀ (w : World) (h : Heap), YP w h → (K w.params).In h)
    (F : ∀ (w : World) (mg : Str → Option Value) (fa : Addr) (h : Heap), (K w.params).In h → h.Ns mainGlobals mg → mg d.name = some (.ref fa) →
      ∃ fd : FuncData, (∀ (s : Shared) (u : Value), BindsTo s fd ⟨[u], []⟩ [("_law_script", u)]) ∧ ∀ base : Heap, (K w.params).In base → base.Ns mainGlobals mg → FnOk l.prog w (K w.params) mg base CX0 8 fa fd ["_law_script"] (spLaw (K w.params))) :
    PySem.W.WalkO q loose XP YP l.row.toRowW d [] (fun f vs => PySem.call f vs) :=
  L2.walk_of (n := 63) (k := 8) (x := "_law_script") (CX := fun _ => CX0) (sp := fun w => spLaw (K w.params)) hn (by decide) hdf ⟨rfl, by decide, by decide⟩ hY F (fun _ _ a ns hl _ hS => ⟨a, ns, rfl, hS, hl, fun _ => rfl⟩) fun _ _ _ _ _ z => z
end KP
open PySem PySem.W PyProof.Rows
set_option maxRecDepth 100000 in
set_option maxHeartbeats 0 in
theorem PySem.Challenge.cw_knotpurse_k07_whole_entries_spoilt_anywh_holds : PySem.Challenge.rw_knotpurse_k07_whole_entries_spoilt_anywh.Holds := by
  w_on; o_law; k_head; (case hw => w_witness2)
  k_fill
  refine KP.walk (l := PySem.Challenge.rw_knotpurse_k07_whole_entries_spoilt_anywh) rfl rfl (fun w h Y => PySem.W.kIn_of Y) ?F
  case F =>
    intro w mg fa h KX G hmg
    refine' KP.all_mk KX G hmg ?a0 ?a1 ?a2 ?a3 ?a4 ?a5 ?a6 ?aE ?nd ?f0 ?f1 ?f2 ?f3 ?f4 ?f5 ?f6 ?fE ?t0 ?t1 ?t2 ?t3 ?t4 ?t5 ?t6 ?hn ?htk ?s01 ?s02 ?s03 ?s04 ?s05 ?s06 ?s10 ?s12 ?s13 ?s14 ?s15 ?s16 ?s20 ?s21 ?s23 ?s24 ?s25 ?s26 ?s30 ?s31 ?s32 ?s34 ?s35 ?s36 ?s40 ?s41 ?s42 ?s43 ?s45 ?s46 ?s50 ?s51 ?s52 ?s53 ?s54 ?s56 ?s60 ?s61 ?s62 ?s63 ?s64 ?s65 ?s0E ?s1E ?s2E ?s3E ?s4E ?s5E ?s6E ?B ?L ?d0 ?d1 ?d2 ?d3 ?d4 ?d5 ?d6 ?d7 ?d8 ?d9 ?d10 ?d11 ?d12 ?d13 ?d14 ?q_N ?q_Bl ?q_eg0 ?q_ig0 ?q_jg0 ?q_sg0 ?q_eg1 ?q_ig1 ?q_jg1 ?q_sg1 ?q_eg2 ?q_ig2 ?q_jg2 ?q_sg2 ?q_eg3 ?q_ig3 ?q_jg3 ?q_sg3 ?q_eg4 ?q_ig4 ?q_jg4 ?q_sg4 ?q_eg5 ?q_ig5 ?q_jg5 ?q_sg5 ?q_eg6 ?q_ig6 ?q_jg6 ?q_sg6 ?q_eg7 ?q_ig7 ?q_jg7 ?q_sg7 ?q_eg8 ?q_ig8 ?q_jg8 ?q_sg8 ?q_eg9 ?q_ig9 ?q_jg9 ?q_sg9 ?q_eg10 ?q_ig10 ?q_jg10 ?q_sg10 ?q_ndE ?q_kV ?q_xc ?q_eP ?q_xm ?q_ve ?d15 ?d16 ?d17 ?d18 ?d19 ?d20 ?d21
    (case a0 => k_is)
    (case a1 => k_is)
    (case a2 => k_is)
    (case a3 => k_is)
    (case a4 => k_is)
    (case a5 => k_is)
    (case a6 => k_is)
    (case aE => k_is)
    (case nd => decide)
    (case f0 => exact ⟨by k_is, by k_is, by k_is, by k_is, by k_is, by k_is, by k_is, by k_is, by k_is, by k_is⟩)
    (case f1 => exact ⟨by k_is, by k_is, by k_is, by k_is, by k_is, by k_is, by k_is, by k_is, by k_is, by k_is⟩)
    (case f2 => exact ⟨by k_is, by k_is, by k_is, by k_is, by k_is, by k_is, by k_is, by k_is, by k_is, by k_is⟩)
    (case f3 => exact ⟨by k_is, by k_is, by k_is, by k_is, by k_is, by k_is, by k_is, by k_is, by k_is, by k_is⟩)
    (case f4 => exact ⟨by k_is, by k_is, by k_is, by k_is, by k_is, by k_is, by k_is, by k_is, by k_is, by k_is⟩)
    (case f5 => exact ⟨by k_is, by k_is, by k_is, by k_is, by k_is, by k_is, by k_is, by k_is, by k_is, by k_is⟩)
    (case f6 => exact ⟨by k_is, by k_is, by k_is, by k_is, by k_is, by k_is, by k_is, by k_is, by k_is, by k_is⟩)
    (case fE => exact ⟨by k_is, by k_is, by k_is, by k_is, by k_is, by k_is, by k_is, by k_is, by k_is, by k_is⟩)
    (case t0 => refine' KP.clsT KX G ⟨by k_is, by k_is, by k_is, by k_is, by k_is, by k_is, by k_is, by k_is, by k_is, by k_is⟩ ?aC ?a1 ?i1 ?l1 ?c1 ?k1 ?a2 ?i2 ?l2 ?c2 ?k2 ?nF (fun _ _ _ _ _ _ us hl => match us, hl with | [_, _, _, _], _ => rfl) (fun _ _ _ _ _ _ us hl => match us, hl with | [_], _ => rfl); (case aC => k_is); (case a1 => k_is); (case i1 => k_is); (case l1 => k_is); (case c1 => k_is); (case k1 => k_is); (case a2 => k_is); (case i2 => k_is); (case l2 => k_is); (case c2 => k_is); (case k2 => k_is); (case nF => exact KP.nf3 (by k_is) (by k_is) (by k_is)))
    (case t1 => refine' KP.clsT KX G ⟨by k_is, by k_is, by k_is, by k_is, by k_is, by k_is, by k_is, by k_is, by k_is, by k_is⟩ ?aC ?a1 ?i1 ?l1 ?c1 ?k1 ?a2 ?i2 ?l2 ?c2 ?k2 ?nF (fun _ _ _ _ _ _ us hl => match us, hl with | [_, _, _, _, _], _ => rfl) (fun _ _ _ _ _ _ us hl => match us, hl with | [_], _ => rfl); (case aC => k_is); (case a1 => k_is); (case i1 => k_is); (case l1 => k_is); (case c1 => k_is); (case k1 => k_is); (case a2 => k_is); (case i2 => k_is); (case l2 => k_is); (case c2 => k_is); (case k2 => k_is); (case nF => exact KP.nf4 (by k_is) (by k_is) (by k_is) (by k_is)))
    (case t2 => refine' KP.clsT KX G ⟨by k_is, by k_is, by k_is, by k_is, by k_is, by k_is, by k_is, by k_is, by k_is, by k_is⟩ ?aC ?a1 ?i1 ?l1 ?c1 ?k1 ?a2 ?i2 ?l2 ?c2 ?k2 ?nF (fun _ _ _ _ _ _ us hl => match us, hl with | [_, _, _, _, _], _ => rfl) (fun _ _ _ _ _ _ us hl => match us, hl with | [_], _ => rfl); (case aC => k_is); (case a1 => k_is); (case i1 => k_is); (case l1 => k_is); (case c1 => k_is); (case k1 => k_is); (case a2 => k_is); (case i2 => k_is); (case l2 => k_is); (case c2 => k_is); (case k2 => k_is); (case nF => exact KP.nf4 (by k_is) (by k_is) (by k_is) (by k_is)))
    (case t3 => refine' KP.clsT KX G ⟨by k_is, by k_is, by k_is, by k_is, by k_is, by k_is, by k_is, by k_is, by k_is, by k_is⟩ ?aC ?a1 ?i1 ?l1 ?c1 ?k1 ?a2 ?i2 ?l2 ?c2 ?k2 ?nF (fun _ _ _ _ _ _ us hl => match us, hl with | [_, _, _, _], _ => rfl) (fun _ _ _ _ _ _ us hl => match us, hl with | [_], _ => rfl); (case aC => k_is); (case a1 => k_is); (case i1 => k_is); (case l1 => k_is); (case c1 => k_is); (case k1 => k_is); (case a2 => k_is); (case i2 => k_is); (case l2 => k_is); (case c2 => k_is); (case k2 => k_is); (case nF => exact KP.nf3 (by k_is) (by k_is) (by k_is)))
    (case t4 => refine' KP.clsT KX G ⟨by k_is, by k_is, by k_is, by k_is, by k_is, by k_is, by k_is, by k_is, by k_is, by k_is⟩ ?aC ?a1 ?i1 ?l1 ?c1 ?k1 ?a2 ?i2 ?l2 ?c2 ?k2 ?nF (fun _ _ _ _ _ _ us hl => match us, hl with | [_, _, _, _, _], _ => rfl) (fun _ _ _ _ _ _ us hl => match us, hl with | [_], _ => rfl); (case aC => k_is); (case a1 => k_is); (case i1 => k_is); (case l1 => k_is); (case c1 => k_is); (case k1 => k_is); (case a2 => k_is); (case i2 => k_is); (case l2 => k_is); (case c2 => k_is); (case k2 => k_is); (case nF => exact KP.nf4 (by k_is) (by k_is) (by k_is) (by k_is)))
    (case t5 => refine' KP.clsT KX G ⟨by k_is, by k_is, by k_is, by k_is, by k_is, by k_is, by k_is, by k_is, by k_is, by k_is⟩ ?aC ?a1 ?i1 ?l1 ?c1 ?k1 ?a2 ?i2 ?l2 ?c2 ?k2 ?nF (fun _ _ _ _ _ _ us hl => match us, hl with | [_, _, _, _], _ => rfl) (fun _ _ _ _ _ _ us hl => match us, hl with | [_], _ => rfl); (case aC => k_is); (case a1 => k_is); (case i1 => k_is); (case l1 => k_is); (case c1 => k_is); (case k1 => k_is); (case a2 => k_is); (case i2 => k_is); (case l2 => k_is); (case c2 => k_is); (case k2 => k_is); (case nF => exact KP.nf3 (by k_is) (by k_is) (by k_is)))
    (case t6 => refine' KP.clsT KX G ⟨by k_is, by k_is, by k_is, by k_is, by k_is, by k_is, by k_is, by k_is, by k_is, by k_is⟩ ?aC ?a1 ?i1 ?l1 ?c1 ?k1 ?a2 ?i2 ?l2 ?c2 ?k2 ?nF (fun _ _ _ _ _ _ us hl => match us, hl with | [_, _, _, _], _ => rfl) (fun _ _ _ _ _ _ us hl => match us, hl with | [_], _ => rfl); (case aC => k_is); (case a1 => k_is); (case i1 => k_is); (case l1 => k_is); (case c1 => k_is); (case k1 => k_is); (case a2 => k_is); (case i2 => k_is); (case l2 => k_is); (case c2 => k_is); (case k2 => k_is); (case nF => exact KP.nf3 (by k_is) (by k_is) (by k_is)))
    (case hn => k_is)
    (case htk => k_is)
    (case s01 => k_is)
    (case s02 => k_is)
    (case s03 => k_is)
    (case s04 => k_is)
    (case s05 => k_is)
    (case s06 => k_is)
    (case s10 => k_is)
    (case s12 => k_is)
    (case s13 => k_is)
    (case s14 => k_is)
    (case s15 => k_is)
    (case s16 => k_is)
    (case s20 => k_is)
    (case s21 => k_is)
    (case s23 => k_is)
    (case s24 => k_is)
    (case s25 => k_is)
    (case s26 => k_is)
    (case s30 => k_is)
    (case s31 => k_is)
    (case s32 => k_is)
    (case s34 => k_is)
    (case s35 => k_is)
    (case s36 => k_is)
    (case s40 => k_is)
    (case s41 => k_is)
    (case s42 => k_is)
    (case s43 => k_is)
    (case s45 => k_is)
    (case s46 => k_is)
    (case s50 => k_is)
    (case s51 => k_is)
    (case s52 => k_is)
    (case s53 => k_is)
    (case s54 => k_is)
    (case s56 => k_is)
    (case s60 => k_is)
    (case s61 => k_is)
    (case s62 => k_is)
    (case s63 => k_is)
    (case s64 => k_is)
    (case s65 => k_is)
    (case s0E => k_is)
    (case s1E => k_is)
    (case s2E => k_is)
    (case s3E => k_is)
    (case s4E => k_is)
    (case s5E => k_is)
    (case s6E => k_is)
    (case B => exact ⟨PySem.W.mg_none_of KX G (by k_is), PySem.W.mg_none_of KX G (by k_is), PySem.W.mg_none_of KX G (by k_is), PySem.W.mg_none_of KX G (by k_is), PySem.W.mg_none_of KX G (by k_is), PySem.W.mg_none_of KX G (by k_is), PySem.W.mg_none_of KX G (by k_is), PySem.W.mg_none_of KX G (by k_is), ⟨_, PySem.W.mg_of KX G (by k_is)⟩, ⟨_, PySem.W.mg_of KX G (by k_is)⟩, ⟨_, PySem.W.mg_of KX G (by k_is)⟩, ⟨_, PySem.W.mg_of KX G (by k_is)⟩, ⟨_, PySem.W.mg_of KX G (by k_is)⟩⟩)
    (case L => refine' KP.lawT KX G ?a ?l ?c ?k; (case a => k_is); (case l => k_is); (case c => k_is); (case k => k_is))
    (case d0 => refine' KP.defT KX G ?a ?l ?c ?k (fun _ _ _ _ _ _ us hl => match us, hl with | [_, _, _], _ => rfl); (case a => k_is); (case l => k_is); (case c => k_is); (case k => k_is))
    (case d1 => refine' KP.defT KX G ?a ?l ?c ?k (fun _ _ _ _ _ _ us hl => match us, hl with | [_], _ => rfl); (case a => k_is); (case l => k_is); (case c => k_is); (case k => k_is))
    (case d2 => refine' KP.defT KX G ?a ?l ?c ?k (fun _ _ _ _ _ _ us hl => match us, hl with | [_], _ => rfl); (case a => k_is); (case l => k_is); (case c => k_is); (case k => k_is))
    (case d3 => refine' KP.defT KX G ?a ?l ?c ?k (fun _ _ _ _ _ _ us hl => match us, hl with | [_, _, _], _ => rfl); (case a => k_is); (case l => k_is); (case c => k_is); (case k => k_is))
    (case d4 => refine' KP.defT KX G ?a ?l ?c ?k (fun _ _ _ _ _ _ us hl => match us, hl with | [_], _ => rfl); (case a => k_is); (case l => k_is); (case c => k_is); (case k => k_is))
    (case d5 => refine' KP.defT KX G ?a ?l ?c ?k (fun _ _ _ _ _ _ us hl => match us, hl with | [_], _ => rfl); (case a => k_is); (case l => k_is); (case c => k_is); (case k => k_is))
    (case d6 => refine' KP.defT KX G ?a ?l ?c ?k (fun _ _ _ _ _ _ us hl => match us, hl with | [_, _], _ => rfl); (case a => k_is); (case l => k_is); (case c => k_is); (case k => k_is))
    (case d7 => refine' KP.defT KX G ?a ?l ?c ?k (fun _ _ _ _ _ _ us hl => match us, hl with | [_], _ => rfl); (case a => k_is); (case l => k_is); (case c => k_is); (case k => k_is))
    (case d8 => refine' KP.defT KX G ?a ?l ?c ?k (fun _ _ _ _ _ _ us hl => match us, hl with | [_, _], _ => rfl); (case a => k_is); (case l => k_is); (case c => k_is); (case k => k_is))
    (case d9 => refine' KP.defT KX G ?a ?l ?c ?k (fun _ _ _ _ _ _ us hl => match us, hl with | [_], _ => rfl); (case a => k_is); (case l => k_is); (case c => k_is); (case k => k_is))
    (case d10 => refine' KP.defT KX G ?a ?l ?c ?k (fun _ _ _ _ _ _ us hl => match us, hl with | [_], _ => rfl); (case a => k_is); (case l => k_is); (case c => k_is); (case k => k_is))
    (case d11 => refine' KP.defT KX G ?a ?l ?c ?k (fun _ _ _ _ _ _ us hl => match us, hl with | [_], _ => rfl); (case a => k_is); (case l => k_is); (case c => k_is); (case k => k_is))
    (case d12 => refine' KP.defT KX G ?a ?l ?c ?k (fun _ _ _ _ _ _ us hl => match us, hl with | [_], _ => rfl); (case a => k_is); (case l => k_is); (case c => k_is); (case k => k_is))
    (case d13 => refine' KP.defT KX G ?a ?l ?c ?k (fun _ _ _ _ _ _ us hl => match us, hl with | [_, _], _ => rfl); (case a => k_is); (case l => k_is); (case c => k_is); (case k => k_is))
    (case d14 => refine' KP.defT KX G ?a ?l ?c ?k (fun _ _ _ _ _ _ us hl => match us, hl with | [_, _], _ => rfl); (case a => k_is); (case l => k_is); (case c => k_is); (case k => k_is))
    (case q_N => refine' ⟨PySem.W.mg_of KX G ?z1, ?z2, ?z3, ?z4, ?z5⟩; (case z1 => k_is); (case z2 => k_exc); (case z3 => k_is); (case z4 => k_is); (case z5 => k_is))
    (case q_Bl => exact PySem.W.mg_none_of KX G (by k_is))
    (case q_eg0 => k_is)
    (case q_ig0 => k_is)
    (case q_jg0 => k_is)
    (case q_sg0 => k_is)
    (case q_eg1 => k_is)
    (case q_ig1 => k_is)
    (case q_jg1 => k_is)
    (case q_sg1 => k_is)
    (case q_eg2 => k_is)
    (case q_ig2 => k_is)
    (case q_jg2 => k_is)
    (case q_sg2 => k_is)
    (case q_eg3 => k_is)
    (case q_ig3 => k_is)
    (case q_jg3 => k_is)
    (case q_sg3 => k_is)
    (case q_eg4 => k_is)
    (case q_ig4 => k_is)
    (case q_jg4 => k_is)
    (case q_sg4 => k_is)
    (case q_eg5 => k_is)
    (case q_ig5 => k_is)
    (case q_jg5 => k_is)
    (case q_sg5 => k_is)
    (case q_eg6 => k_is)
    (case q_ig6 => k_is)
    (case q_jg6 => k_is)
    (case q_sg6 => k_is)
    (case q_eg7 => k_is)
    (case q_ig7 => k_is)
    (case q_jg7 => k_is)
    (case q_sg7 => k_is)
    (case q_eg8 => k_is)
    (case q_ig8 => k_is)
    (case q_jg8 => k_is)
    (case q_sg8 => k_is)
    (case q_eg9 => k_is)
    (case q_ig9 => k_is)
    (case q_jg9 => k_is)
    (case q_sg9 => k_is)
    (case q_eg10 => k_is)
    (case q_ig10 => k_is)
    (case q_jg10 => k_is)
    (case q_sg10 => k_is)
    (case q_ndE => decide)
    (case q_kV => refine' KP.kit_ty2 (by decide +kernel) ?z1; (case z1 => k_is))
    (case q_xc => exact ⟨by k_is, by k_is, by k_is, by k_is, by k_is, by k_is, by k_is, by k_is⟩)
    (case q_eP => k_is)
    (case q_xm => refine' PySem.W.exm_ref ?z1 ?z2 ?z3 ?z4; (case z1 => k_is); (case z2 => k_is); (case z3 => k_is); (case z4 => k_is))
    (case q_ve => exact PySem.W.mg_none_of KX G (by k_is))
    (case d15 => refine' KP.defT KX G ?a ?l ?c ?k (fun _ _ _ _ _ _ us hl => match us, hl with | [_, _], _ => rfl); (case a => k_is); (case l => k_is); (case c => k_is); (case k => k_is))
    (case d16 => refine' KP.defT KX G ?a ?l ?c ?k (fun _ _ _ _ _ _ us hl => match us, hl with | [_], _ => rfl); (case a => k_is); (case l => k_is); (case c => k_is); (case k => k_is))
    (case d17 => refine' KP.defT KX G ?a ?l ?c ?k (fun _ _ _ _ _ _ us hl => match us, hl with | [_, _, _], _ => rfl); (case a => k_is); (case l => k_is); (case c => k_is); (case k => k_is))
    (case d18 => refine' KP.defT KX G ?a ?l ?c ?k (fun _ _ _ _ _ _ us hl => match us, hl with | [_], _ => rfl); (case a => k_is); (case l => k_is); (case c => k_is); (case k => k_is))
    (case d19 => refine' KP.defT KX G ?a ?l ?c ?k (fun _ _ _ _ _ _ us hl => match us, hl with | [_], _ => rfl); (case a => k_is); (case l => k_is); (case c => k_is); (case k => k_is))
    (case d20 => refine' KP.defT KX G ?a ?l ?c ?k (fun _ _ _ _ _ _ us hl => match us, hl with | [_, _, _, _], _ => rfl); (case a => k_is); (case l => k_is); (case c => k_is); (case k => k_is))
    (case d21 => refine' KP.defT KX G ?a ?l ?c ?k (fun _ _ _ _ _ _ us hl => match us, hl with | [_, _, _], _ => rfl); (case a => k_is); (case l => k_is); (case c => k_is); (case k => k_is))
