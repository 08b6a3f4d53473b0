import PyProof.Rows.All
import Wide.All
import OpenK.AllK
import Wide.FinOn
import HandS.ForMost
import HandS.ForExc
import HandS.ExcInit
import HandS.ExcField
import HandS.Lambda
import HandS.EndTab
import HandS.Defaults
import HandS.Wide
import HandS.IsInst
import HandS.ClsMeth
import HandS.Zip
import HandS.Codes
import HandS.CallSlots
import HandS.EndOwn
import KE.KNestM
import PySem.Challenge.RW_doubtwell_k01_fractions
set_option Elab.async false
set_option linter.all false
set_option maxRecDepth 100000
set_option maxHeartbeats 4000000
set_option exponentiation.threshold 9000
namespace Dw
open PySem PySem.Spec PyProof.Rows L2
/-! ### rules of our own -/
/-- x // y of great ints, y of either sign -/
def CDivZ (_ y : Int) : Prop := y ≠ 0 ∧ y.natAbs.log2 < 9000
theorem op_fdivZ {X : Cx} : OpR X (binaryOp .FloorDiv) (rI CDivZ fun x y => .int (x.fdiv y)) :=
  opI fun _ _ _ _ _ _ _ ok want => floordiv_int ok.1 want (.inl (PyProof.noPylong_of_log2 ok.2))
theorem divZ_of {x y : Int} {n : Nat} (ne : y ≠ 0) (lt : y.natAbs < 2 ^ n) (pos : 0 < n) (le : n ≤ 9000) : CDivZ x y :=
  ⟨ne, Nat.lt_of_lt_of_le (PySem.Flt.log2_lt_of pos lt) le⟩
/-- C.m(e, ..), C a class of the text, m a def of it -/
theorem pe_clsfn {X : Cx} {CX : CXT} {k : Nat} {f C : Addr} {fd : FuncData} {ps : List Str} {sp : Sp} {dvs : List V} {ds : List Value} {E : XK} {x m : Str} {mc : Value}
    {p1 p2 pos : Pos} {e : Expr} {es : List Expr} {t : TA} {pl : Sem Bool} (G : FnOk X.prog X.w X.K X.mg X.base CX k f fd ps sp) (room : Room k X.A) (gl : Gl X x) (isC : X.mg x = some (.ref C))
    (rd : ClX.CRead X.K C mc) (fnd : PySem.W.findCls X.K (.ref C) mc m = some (.val (.ref f))) (kp : PySem.W.keepIn X.K (.ref f) = true) (bn : L2.Binds X.K fd ps ds) (dv : Vals dvs ds) (pas : Passes CX X E)
    (ha : PA X (e :: es) t) (nd : (x == ("__debug__" : Str)) = false := by decide)
    (ev : eval (.Call (.Attribute (.Name x p1) m p2) (e :: es) [] pos) X.env = (do
        let who ← eval (.Name x p1) X.env
        standAt p2.atName
        let (fn, fst) ← holding [who] (getMethod who m pl)
        callWith pos fn fst (backTo pos (starEach (e :: es) X.env)) (backToKw pos (keywordEach [] X.env))) := by rfl)
    (st : starEach (e :: es) X.env = (false, eval e X.env) :: starEach es X.env := by rfl) (ns : (backTo pos (starEach es X.env)).any (·.1) = false := by rfl) :
    PE X (.Call (.Attribute (.Name x p1) m p2) (e :: es) [] pos) (tCall sp dvs E t) := by
  refine ⟨fun pins s σ H Q J rd0 => ?_⟩
  refine PySem.W.methodCall_KW (ld_glob J gl isC ?_ nd) ev
  refine PySem.W.method_cls J.kIn rd.ga (PySem.W.cls_value J.kIn rd.rd fnd rfl ?_)
  have J1 := J.tok (s.toks + 1)
  refine PySem.W.callWith_K (h₀ := X.base) J.ok.mod.kin kp ?_ st ns
  refine thn (ha.run pos pins _ σ H _ J1 rd0) fun us s1 got => ?_
  obtain ⟨vs, H1, J2, rv, q⟩ := got
  exact ⟨J2.kIn, run_fn G room bn dv pas J2 rv q⟩
/-- err.f, the error's class told where it is read -/
theorem pe_xfE {X : Cx} {a : Addr} {oe : Obj} {cls : Value} {d : Option Addr} {pn : List (Addr × Obj)} {e : Expr} {te : TE} {pos : Pos} {n : Str} (hz : Zc cls d oe) (hf : ∃ vs, oe.data = .fields vs)
    (he : PE (X.suite a ((a, oe) :: pn)) e te) (hb : attributeBase e n X.env (eval e X.env) = eval e X.env := by rfl) :
    PE (X.suite a ((a, oe) :: pn)) (.Attribute e n pos) (fun σ H Q => ∃ C, XfC X.K C ∧ PySem.W.findIn X.K (.ref C) n = some none ∧ tXf a cls d C n te σ H Q) :=
  ⟨fun pins s σ H Q J ⟨_, xf, nf, z⟩ => (pe_xf xf nf hz hf he hb).run pins s σ H Q J z⟩
/-! ### try: .. except A as n: .. except B as n: .. -/
abbrev Suite := Addr → Value → Option Addr → TS
/-- behind the suite the name is gone -/
def endAs (i : Nat) (D : Ends) : Ends where
  nx := fun σ H => D.nx (σ.set i none) H
  rt := D.rt
  bk := fun σ H => D.bk (σ.set i none) H
  ct := fun σ H => D.ct (σ.set i none) H
def wAll (K : PySem.W.Frag) (i : Nat) (out : WX) (D : Ends) : List (Value × Suite) → WX
  | [] => out
  | (c, ts) :: more => fun cls d σ H => ∃ b, PySem.W.exmOne K cls c = some b ∧ (b = true → ∀ a, H a = none → ts a cls d (endAs i D) (σ.set i (some (.ref a))) H) ∧ (b = false → wAll K i out D more cls d σ H)
inductive Clauses (X : Cx) (n : Str) : List ExceptHandler → List (Value × Suite) → Prop
  | none : Clauses X n [] []
  | one {x : Str} {c : Value} {ts : Suite} {st : Stmt} {su : List Stmt} {q1 q2 : Pos} {more : List ExceptHandler} {l : List (Value × Suite)} (nm : Names X x c)
      (run : ∀ (a : Addr) (oe : Obj) (cls : Value) (d : Option Addr) (pn : List (Addr × Obj)), Zc cls d oe → (∃ vs, oe.data = .fields vs) → PSs (X.suite a ((a, oe) :: pn)) (st :: su) (ts a cls d))
      (rest : Clauses X n more l) : Clauses X n (.ExceptHandler (some (.Name x q1)) (some n) (st :: su) q2 :: more) ((c, ts) :: l)
section
variable {X : Cx} {n : Str} {i : Nat} {body : List Stmt} {hd : ExceptHandler} {more : List ExceptHandler} {l : List (Value × Suite)} {pos : Pos} {tb : WX → TS} {out : WX}
theorem ps_try_all (hs : X.stack = X.env :: X.outer) (hf : X.env.frame = some X.env.locals) (hN : X.N.Nodup) (hi : X.N[i]? = some n) (hln : X.env.kindOf n = some .local) (tk : Takes X out)
    (hb : ∀ (W : WX) (pn : List (Addr × Obj)) (xe : Value → Shared → Prop), Takes (X.tr pn xe) W → PassesOwn (model X.prog X.w) X.A X.env xe → PSs (X.tr pn xe) body (tb W))
    (cl : Clauses X n (hd :: more) l) : PS X (.Try body (hd :: more) [] [] pos) (fun D σ H => tb (wAll X.K i out D l) D σ H) := by
  refine ⟨fun pins s σ H D J0 h => ?_⟩
  have ok := J0.ok
  have frm : X.A.frames = some (X.env :: X.outer) := by rw [ok.frames, hs]
  have isLoc : Loc X.env.scope n := .inl hln
  refine wpAny_Try_except (wpAny_mono ((hb (wAll X.K i out D l) (X.pn ++ pins)
    (fun e s₁ => wpAny (model X.prog X.w) X.A (noteFrame e X.env) (fun _ s₂ => wpAny (model X.prog X.w) X.A (setFlight e none)
      (fun _ s₃ => wpAny (model X.prog X.w) X.A (handleBy e X.env (hd :: more)) (SP X pins D) X.xe s₃) X.xe s₂) X.xe s₁)
    (fun u s' air => ?_) PassesOwn.looking).run [] s σ H D (J0.toTry _) h) (fun f s1 sp => ?_) (fun _ _ z => z))
  · obtain ⟨a, B, sI, _, σ', H', cls, d, rfl, Jt, nb, up, sky, na, os, ag, wish⟩ := air
    have J : Inv X pins σ' H' sI := Jt.ofTry ok
    show wpAny (model X.prog X.w) X.A (noteFrame (.ref a) X.env) _ _ _
    refine Sky.land Zc.steady frm hf (by rw [← hs]; exact sky) fun h3 fl3 up3 => ?_
    have J3 : Inv X pins σ' H' { s' with heap := h3 } := J.landed nb fl3.1 (up.trans up3) os ag
    obtain ⟨oe3, vs3, at3, zc3, da3⟩ := fl3.there
    have off : a ∉ frs (X.env :: X.outer) := fun mem => by
      obtain ⟨_, o', at', no⟩ := fl3.2.2.1.mem mem
      rw [at3] at at'
      cases at'
      exact no _ da3
    have nL : a ≠ X.env.locals := fun z => off (List.mem_filterMap.mpr ⟨X.env, List.mem_cons_self, by rw [hf, z]⟩)
    have nF : a ∉ X.fs := fun mem => by
      obtain ⟨e, he, q⟩ := List.mem_filterMap.mp mem
      exact off (List.mem_filterMap.mpr ⟨e, List.mem_cons_of_mem _ he, q⟩)
    have S3 := J3.suite at3 da3 na nL nF
    have go : ∀ {hs' : List ExceptHandler} {l' : List (Value × Suite)}, Clauses X n hs' l' → wAll X.K i out D l' cls d σ' H' →
        wpAny (model X.prog X.w) X.A (handleBy (.ref a) X.env hs') (SP X pins D) X.xe { s' with heap := h3 } := by
      intro hs' l' cs
      induction cs with
      | none =>
        intro wsh
        refine wpAny_handleBy_nil ?_
        obtain ⟨_, _, _, oe, vs, T, oT, ts', he, hz, hdd, h1, hr⟩ := id fl3
        unfold PySem.passOn
        refine wpAny_bind (wpAny_field he hdd h1 ?_)
        rw [if_neg (show ¬ ((Value.ref T == Value.none) = true) from by simp)]
        have last : wpAny (model X.prog X.w) X.A (setFlight (.ref a) X.env.frame) (fun _ s4 => wpAny (model X.prog X.w) X.A (throw (.ref a) : Sem Flow) (SP X pins D) X.xe s4) X.xe { s' with heap := h3 } := by
          rw [hf]
          refine HandSPX.setFlight_upZ fl3 fun h4 held up4 => wpAny_throw (tk _ _ ⟨a, B, sI, pins, σ', H', cls, d, rfl, J, nb, (up.trans up3).trans up4, .inr (.inr (by rw [hs]; exact held)), na, os, ag, wsh⟩)
        first
          | exact wpAny_bind (wpAny_pure (wpAny_bind last))
          | exact wpAny_bind last
      | @one x c ts st su q1 q2 more2 l2 nm run rest ih =>
        intro wsh
        obtain ⟨b, is, yes, no⟩ := wsh
        refine wpAny_handleBy_cons (codeAny_handlers_test ?_) (by intro z; cases z)
        have LT : PySem.W.Looks (model X.prog X.w) h3 (typeOf (.ref a)) cls := fun A Q E s k q => wpAny_typeOf_ref (k _ _ at3) (by rw [zc3.1]; exact q)
        have LM := PySem.W.exm_one (M := model X.prog X.w) J3.kIn LT is
        have look : ∀ {Q : Value → Shared → Prop} {E : Value → Shared → Prop}, Q c { s' with heap := h3 } →
            wpAny (model X.prog X.w) (X.A.mark (some (.ref a))) (eval (.Name x q1) X.env) Q E { s' with heap := h3 } := fun {Q E} q => by
          obtain ⟨g1, g2, g3 | ⟨g3, g4, g5⟩⟩ := nm
          · exact ld_glob (X := X.suite a ((a, oe3) :: (X.pn ++ pins))) S3 g1 g3 q g2
          · exact ld_blt (X := X.suite a ((a, oe3) :: (X.pn ++ pins))) S3 g1 g3 g4 q g5 g2
        refine look (LM.here ?_)
        cases b with
        | true =>
          refine codeAny_handlers_suite_as (HandSPX.lands_againZ fl3 fun h4 fl4 up4 => ?_)
          have J4 : Inv X pins σ' H' { s' with heap := h4 } := J.landed nb fl4.1 ((up.trans up3).trans up4) os ag
          obtain ⟨oe4, vs4, at4, zc4, da4⟩ := fl4.there
          refine store_ok (X := X.suite a ((a, oe4) :: (X.pn ++ pins))) (v := .ref a) (J4.suite at4 da4 na nL nF) hN hi isLoc rfl (fun s5 S5 => ?_) (.inr hln)
          refine wpAny_mono ((run a oe4 cls d (X.pn ++ pins) zc4 ⟨_, da4⟩).run [] s5 _ H' _ S5 (yes rfl a na)) (fun f s6 sp => ?_) (fun _ _ z => z.elim)
          have fin : ∀ {σ6 : L2.St} {H6 : Hp} {Q : Shared → Prop}, Inv (X.suite a ((a, oe4) :: (X.pn ++ pins))) [] σ6 H6 s6 → (∀ s7, Inv X pins (σ6.set i none) H6 s7 → Q s7) →
              wpAny (model X.prog X.w) X.A (do bindName X.env n .none; unbindBehindTheSuite X.env n q2) (fun _ s7 => Q s7) X.xe s6 := fun {σ6 H6 Q} S6 hq => gone_ok (S6.unsuite ok) hN hi hln hq
          cases f with
          | next => exact let ⟨σ6, H6, S6, q6⟩ := sp; fin S6 fun s7 J7 => ⟨_, _, J7, q6⟩
          | brk => exact let ⟨σ6, H6, S6, q6⟩ := sp; fin S6 fun s7 J7 => ⟨_, _, J7, q6⟩
          | cont => exact let ⟨σ6, H6, S6, q6⟩ := sp; fin S6 fun s7 J7 => ⟨_, _, J7, q6⟩
          | ret u => exact let ⟨v6, σ6, H6, S6, r6, q6⟩ := sp; fin S6 fun s7 J7 => ⟨_, _, _, J7, r6, q6⟩
        | false =>
          show wpAny _ X.A (handleBy (.ref a) X.env more2) _ _ _
          exact ih (no rfl)
    exact go cl wish
  · cases f with
    | next => exact let ⟨σ', H', J', q⟩ := sp; wpAny_execs_nil ⟨σ', H', J'.ofTry ok, q⟩
    | brk => exact let ⟨σ', H', J', q⟩ := sp; ⟨σ', H', J'.ofTry ok, q⟩
    | cont => exact let ⟨σ', H', J', q⟩ := sp; ⟨σ', H', J'.ofTry ok, q⟩
    | ret u => exact let ⟨v, σ', H', J', r, q⟩ := sp; ⟨v, σ', H', J'.ofTry ok, r, q⟩
end
/-- f(k = v, ..): keywords alone -/
theorem pe_callN0 {X : Cx} {CX : CXT} {k : Nat} {f : Addr} {fd : FuncData} {ps ks : List Str} {sp : Sp} {E : XK} {x : Str} {p pos : Pos} {kws : List Keyword} {tk : TA} {g : List Value → List Value → List Value} {gV : List V → List V → List V}
    (G : FnOk X.prog X.w X.K X.mg X.base CX k f fd ps sp) (room : Room k X.A) (gl : Gl X x) (isF : X.mg x = some (.ref f)) (kp : PySem.W.keepIn X.K (.ref f) = true) (bn : KBn X.K fd ps 0 ks g gV) (pas : Passes CX X E) (kw : PK X kws tk)
    (all : (backToKw pos (keywordEach kws X.env)).all (·.1.isSome) = true := by rfl) (nms : (backToKw pos (keywordEach kws X.env)).filterMap (·.1) = ks := by rfl) (nd : (x == ("__debug__" : Str)) = false := by decide)
    (pl : ((backTo pos (starEach [] X.env)).any (·.1) || (backToKw pos (keywordEach kws X.env)).any (·.1.isNone)) = false := by rfl) : PE X (.Call (.Name x p) [] kws pos) (tCallN 0 ks.length sp gV E tNil tk) := by
  refine ⟨fun pins s σ H Q J h => ?_⟩
  refine wpAny_Call_Name_kw (ld_glob J gl isF ?_ nd)
  refine PySem.W.callWith_KW0 (h₀ := X.base) J.ok.mod.kin kp all ?_ pl
  refine thn (kw.run pos pins s σ H _ J h) fun ws s2 got => ?_
  obtain ⟨zs, H2, J2, rz, l1, l2, q⟩ := got
  refine ⟨J2.kIn, ?_⟩
  rw [nms]
  exact run_fnN (us := []) (vs := []) G room bn pas J2 .nil rz l1 l2 q
/-- a block read by a weaker word -/
theorem pss_imp {X : Cx} {b : List Stmt} {t u : TS} (h : PSs X b t) (i : ∀ D σ H, u D σ H → t D σ H) : PSs X b u := ⟨fun pins s σ H D J q => h.run pins s σ H D J (i D σ H q)⟩
theorem pe_imp {X : Cx} {e : Expr} {t u : TE} (h : PE X e t) (i : ∀ σ H Q, u σ H Q → t σ H Q) : PE X e u := ⟨fun pins s σ H Q J q => h.run pins s σ H Q J (i σ H Q q)⟩
/-- xs[i], by values, where xs[i] op= e reads it -/
def rGetL (K : PySem.W.Frag) : V → V → Hp → VK → Prop := fun o i H Q => ∃ p xs j v, o = .ref p ∧ i = .int ((j : Nat) : Int) ∧ SqL K H p xs ∧ xs[j]? = some v ∧ Q v H
theorem get_list {X : Cx} : PGet X (rGetL X.K) := by
  intro pins s σ H o i ov iv Q J ro ri h
  obtain ⟨p, xs, j, v, rfl, rfl, hq, hx, q⟩ := h
  cases ro
  obtain ⟨t, rfl⟩ := ri
  obtain ⟨its, r, pl, hz⟩ := J.list hq
  obtain ⟨u, eu, ru⟩ := r.get hx
  have hj : j < xs.length := (List.getElem?_eq_some_iff.mp hx).1
  have hn := line63
  exact wpAny_getItem_list pl.isList (by omega) (by omega) (by simpa using eu) ⟨v, H, J, ru, q⟩
end Dw
namespace Dw
/-! ### the mathematics of reduced fractions -/
theorem gcd_fmod (x y : Int) : Int.gcd y (x.fmod y) = Int.gcd x y := by
  rw [Int.fmod_def, Int.gcd_comm y, Int.mul_comm, Int.gcd_sub_mul_right_left]
theorem fmod_less (x y : Int) (h : y ≠ 0) : (x.fmod y).natAbs < y.natAbs := by
  rcases Int.lt_or_lt_of_ne h with h | h
  · have e : x.fmod y = -((-x).fmod (-y)) := by
      rw [Int.fmod_def, Int.fmod_def, Int.neg_fdiv_neg]
      simp only [Int.neg_mul]
      omega
    have h1 := Int.fmod_nonneg_of_pos (-x) (b := -y) (by omega)
    have h2 := Int.fmod_lt_of_pos (-x) (b := -y) (by omega)
    omega
  · have h1 := Int.fmod_nonneg_of_pos x h
    have h2 := Int.fmod_lt_of_pos x h
    omega
/-- the reduced fraction of n and d -/
def gd (n d : Int) : Int := if d < 0 then -(Int.gcd n d : Int) else (Int.gcd n d : Int)
def rn (n d : Int) : Int := n.fdiv (gd n d)
def rd (n d : Int) : Int := d.fdiv (gd n d)
theorem gd_dvd (n d : Int) : gd n d ∣ n ∧ gd n d ∣ d := by
  have h1 := Int.gcd_dvd_left n d
  have h2 := Int.gcd_dvd_right n d
  unfold gd
  split
  · exact ⟨(Int.neg_dvd).mpr h1, (Int.neg_dvd).mpr h2⟩
  · exact ⟨h1, h2⟩
theorem gd_ne {n d : Int} (h : d ≠ 0) : gd n d ≠ 0 := by
  have h1 : 0 < Int.gcd n d := Int.gcd_pos_of_ne_zero_right n h
  unfold gd
  split <;> omega
theorem gd_abs (n d : Int) : (gd n d).natAbs = Int.gcd n d := by
  unfold gd
  split <;> omega
theorem rn_eq {n d : Int} (h : d ≠ 0) : gd n d * rn n d = n := by
  unfold rn
  rw [Int.fdiv_eq_ediv_of_dvd (gd_dvd n d).1]
  exact Int.mul_ediv_cancel' (gd_dvd n d).1
theorem rd_eq {n d : Int} (h : d ≠ 0) : gd n d * rd n d = d := by
  unfold rd
  rw [Int.fdiv_eq_ediv_of_dvd (gd_dvd n d).2]
  exact Int.mul_ediv_cancel' (gd_dvd n d).2
theorem rd_pos {n d : Int} (h : d ≠ 0) : 0 < rd n d := by
  have e := rd_eq (n := n) h
  have g := gd_ne (n := n) h
  have hs : (d < 0 ∧ gd n d < 0) ∨ (0 < d ∧ 0 < gd n d) := by
    have h1 : 0 < Int.gcd n d := Int.gcd_pos_of_ne_zero_right n h
    unfold gd
    split <;> omega
  rcases hs with ⟨h1, h2⟩ | ⟨h1, h2⟩
  · rcases Int.lt_trichotomy (rd n d) 0 with z | z | z
    · have := Int.mul_pos_of_neg_of_neg h2 z
      omega
    · rw [z, Int.mul_zero] at e
      omega
    · exact z
  · rcases Int.lt_trichotomy (rd n d) 0 with z | z | z
    · have := Int.mul_neg_of_pos_of_neg h2 z
      omega
    · rw [z, Int.mul_zero] at e
      omega
    · exact z
theorem r_gcd {n d : Int} (h : d ≠ 0) : Int.gcd (rn n d) (rd n d) = 1 := by
  have e : Int.gcd (gd n d * rn n d) (gd n d * rd n d) = Int.gcd n d := by rw [rn_eq h, rd_eq h]
  rw [Int.gcd_mul_left, gd_abs] at e
  have h1 : 0 < Int.gcd n d := Int.gcd_pos_of_ne_zero_right n h
  exact Nat.eq_of_mul_eq_mul_left h1 (by rw [e, Nat.mul_one])
theorem r_cross {n d : Int} (h : d ≠ 0) : rn n d * d = n * rd n d := by
  have e1 := rn_eq (n := n) h
  have e2 := rd_eq (n := n) h
  calc rn n d * d = rn n d * (gd n d * rd n d) := by rw [e2]
    _ = (gd n d * rn n d) * rd n d := by rw [← Int.mul_assoc, Int.mul_comm (rn n d)]
    _ = n * rd n d := by rw [e1]
theorem cop_dvd {a b c : Int} (g : Int.gcd a b = 1) (h : b ∣ a * c) : b ∣ c := by
  have h1 : b.natAbs ∣ a.natAbs * c.natAbs := by
    rw [← Int.natAbs_mul]
    exact Int.natAbs_dvd_natAbs.mpr h
  have h2 : Nat.Coprime b.natAbs a.natAbs := by
    rw [Nat.coprime_comm]
    exact g
  exact Int.natAbs_dvd_natAbs.mp (h2.dvd_of_dvd_mul_left h1)
/-- what is reduced and equal is the same -/
theorem r_uniq {n d a b : Int} (h : d ≠ 0) (hb : 0 < b) (hg : Int.gcd a b = 1) (hx : a * d = n * b) : rn n d = a ∧ rd n d = b := by
  have p := rd_pos (n := n) h
  have c := r_cross (n := n) h
  have g := r_gcd (n := n) h
  have x : rn n d * b = a * rd n d := by
    have h3 : (rn n d * b) * d = (a * rd n d) * d := by
      calc (rn n d * b) * d = (rn n d * d) * b := by rw [Int.mul_assoc, Int.mul_comm b, ← Int.mul_assoc]
        _ = (n * rd n d) * b := by rw [c]
        _ = (n * b) * rd n d := by rw [Int.mul_assoc, Int.mul_comm (rd n d), ← Int.mul_assoc]
        _ = (a * d) * rd n d := by rw [hx]
        _ = (a * rd n d) * d := by rw [Int.mul_assoc, Int.mul_comm d, ← Int.mul_assoc]
    exact Int.eq_of_mul_eq_mul_right h h3
  have d1 : rd n d ∣ b := by
    have q : rd n d ∣ rn n d * b := ⟨a, by rw [x, Int.mul_comm]⟩
    exact cop_dvd g q
  have d2 : b ∣ rd n d := by
    have q : b ∣ a * rd n d := ⟨rn n d, by rw [← x, Int.mul_comm]⟩
    exact cop_dvd hg q
  have e : rd n d = b := Int.dvd_antisymm (by omega) (by omega) d1 d2
  refine ⟨?_, e⟩
  rw [e] at x
  exact Int.eq_of_mul_eq_mul_right (by omega) x
theorem gcd_le_abs {n d : Int} (h : d ≠ 0) : Int.gcd n d ≤ d.natAbs := Nat.le_of_dvd (by omega) (Int.natCast_dvd_natCast.mp (by
  have := Int.gcd_dvd_right n d
  rw [Int.dvd_natAbs]
  exact this))
theorem abs_if (i : Int) : (if i < 0 then -i else i) = (i.natAbs : Int) := by
  split <;> omega
end Dw
namespace Dw
open PySem PySem.Spec PyProof.Rows L2 LamX
/-! ### a lambda handed to a def, what is raised wished for at the def's own slots -/
/-- an expression read by a stronger wish -/
theorem pe_mono {X : Cx} {e : Expr} {t : TE} (h : PE X e t) : PE X e (fun σ H Q => ∃ Q0 : VK, (∀ v H', Q0 v H' → Q v H') ∧ t σ H Q0) :=
  ⟨fun pins s σ H Q J ⟨Q0, m, q⟩ => thn (h.run pins s σ H Q0 J q) fun u s1 ⟨v, H1, J1, r, q1⟩ => ⟨v, H1, J1, r, m _ _ q1⟩⟩
section
variable {X : Cx} {pins : List (Addr × Obj)} {σ : L2.St} {H : Hp} {s : Shared}
abbrev gotCx (X : Cx) (Ng : List Str) (qg : Str) (sg : Scope) (g : Addr) (cdg : Value) (s : Shared) (H : Hp) : Cx := cxOf C8.CX0 X.prog X.w X.K X.mg X.base Ng qg sg g cdg X.A X.stack s H C8.E0
/-- a() in the def that got the lambda (its context is entered at s) -/
theorem pe_actS {Ng : List Str} {qg : Str} {sg : Scope} {g f c : Addr} {cdg pm ctv : Value} {ar : Arguments} {body : Expr} {scope : Scope} {k i : Nat} {a : Str} {pn : List (Addr × Obj)} {xe : Value → Shared → Prop} {W : WX} {E : XK} {σ0 : L2.St} {tb : TE} {p1 p2 : Pos}
    (J : Inv X pins σ H s) (ls : LamS X.env.scope scope) (hf : s.heap.get? f = some (PySem.W.kla_obj "<lambda>" (X.env.qual ++ "<lambda>") ar body scope (cloFrom X.env.cells scope.names []) pm c ctv)) (nf : H f = none) (off : f ∉ frs X.stack)
    (bnd : bindArgs (PySem.W.kla_fn "<lambda>" (X.env.qual ++ "<lambda>") ar body scope (cloFrom X.env.cells scope.names []) pm (.ref c) ctv) ⟨[], []⟩ = pure [])
    (tk : Takes ((gotCx X Ng qg sg g cdg s H).tr pn xe) W) (wish : ∀ cls d H', E cls d H' → W cls d σ0 H') (room : Room (k + 1) (X.A.deeper (envOfC qg sg s.heap.objs.size g cdg)))
    (run : ∀ (A : Around) (outer : List Env) (s : Shared) (H : Hp), Room k (A.deeper (lamEnv X scope s.heap.objs.size f c)) → PE (lamCx X A outer s H E scope f c) body tb)
    (hN : Ng[i]? = some a) (hv : Vis sg a) (hd : (a == ("__debug__" : Str)) = false := by decide) (hcd : (a == ("__classdict__" : Str)) = false := by decide) :
    PE ((gotCx X Ng qg sg g cdg s H).tr pn xe) (.Call (.Name a p1) [] [] p2)
      (fun σZ HZ Q => σZ = σ0 ∧ σZ[i]? = some (some (.ref f)) ∧ HZ c = some (CodeO c (X.env.qual ++ "<lambda>")) ∧ tb σ HZ Q) := by
  refine ⟨fun pz sz σZ HZ Q JZ rd => ?_⟩
  obtain ⟨rfl, slot, code, want⟩ := rd
  refine wpAny_Call_Name_kw (thn ((pe_var (pos := p1) (i := i) hN hv hd hcd).run pz sz σZ HZ (fun v H1 => v = .ref f ∧ H1 = HZ) JZ ⟨.ref f, slot, rfl, rfl⟩) fun u s1 got => ?_)
  obtain ⟨v, H1, J1, rv, rfl, rfl⟩ := got
  obtain rfl : u = Value.ref f := rv
  have un : Un (frs X.stack) [] H H1 s.heap s1.heap := J1.base
  have there := un.keep f _ hf nf off (fun z => nomatch (show f ∈ ([] : List Addr) from z))
  refine PySem.W.callWith_F0 ⟨_, _, _, _, there⟩ ?_
  obtain ⟨⟨oc, vs, t, co1, co2, co3⟩, _, _⟩ := J1.hok c _ code
  have ran : codeAny (model X.prog X.w) (X.A.deeper (envOfC qg sg s.heap.objs.size g cdg)) (.call (.ref f) ⟨[], []⟩)
      (CR (L2.CX X.prog X.w) (envOfC qg sg s.heap.objs.size g cdg :: X.stack) X.prog X.w H1 s1 Q E) s1 := by
    refine PySem.W.kla_callFunE room.depth there rfl ls.co ls.gen rfl ⟨c, oc, vs, t, rfl, co1, co2, co3⟩ ?_
    rw [bnd]
    refine wpAny_pure (wpAny_newFunctionEnv (fun y hy => (ls.own y hy).2) (fun y hy => absurd hy (by simp)) (fun h₁ ns sb => ⟨J1.nolimit.fresh _ sb, ?_⟩) ls.kind)
    show codeAny _ _ (.expr body (lamEnv X scope s1.heap.objs.size f c)) _ _
    have keeps : ∀ b o, s1.heap.get? b = some o → h₁.get? b = some o := fun b o e => sb.extBut b o (Nat.ne_of_lt (Heap.lt_size e)) (Heap.get?_push_of_some _ e)
    have JL := lam_start2 (A := X.A.deeper (envOfC qg sg s.heap.objs.size g cdg)) (outer := envOfC qg sg s.heap.objs.size g cdg :: X.stack) (E := E) (f := f) (c' := c) (tk := s1.toks + ([] : List (Str × Value)).length) J ls J1.env0 room.hd un ns keeps
    refine PySem.W.kla_codeExpr (wpAny_mono ((run _ _ s1 H1 (room.deeper _)).run [] _ _ H1 Q JL want) (fun v s' z => ?_) fun _ _ z => z)
    obtain ⟨v', H', JE, rv', q⟩ := z
    exact ⟨v', H', JE.os, JE.bare, JE.base, JE.hok, rv', q⟩
  refine wpAny_call (codeAny_mono ran fun r s' out => ?_)
  · cases r with
    | error e => exact tk e s' (XE.of_call J1 wish out)
    | ok fl =>
      cases fl with
      | ret u => exact J1.after out
      | _ => exact out.elim
/-- the def that calls what it got -/
def GivesS (X : Cx) (Ng : List Str) (x : Str) (sg : Scope) (g : Addr) (cdg : Value) (bg : List Stmt) (a q : Str) (TT : (XK → Hp → VK → Prop) → Hp → VK → Prop) : Prop :=
  ∀ (f c : Addr) (s : Shared) (H : Hp) (Q : VK) (tl : XK → Hp → VK → Prop),
    (∀ (W : WX) (pn : List (Addr × Obj)) (xe : Value → Shared → Prop) (E : XK) (σ0 : L2.St) (p1 p2 : Pos), Takes ((gotCx X Ng x sg g cdg s H).tr pn xe) W → (∀ cls d H', E cls d H' → W cls d σ0 H') →
      PE ((gotCx X Ng x sg g cdg s H).tr pn xe) (.Call (.Name a p1) [] [] p2) (fun σZ HZ Q => σZ = σ0 ∧ σZ[0]? = some (some (.ref f)) ∧ HZ c = some (CodeO c q) ∧ tl E HZ Q)) →
    H c = some (CodeO c q) → TT tl H Q → ∃ t, PSs (gotCx X Ng x sg g cdg s H).nox bg t ∧ t { nx := fun _ H' => Q .non H', rt := Q } (L2.start Ng [.ref f]) H
/-- x(lambda: body) -/
theorem pe_lamS {T : List (Addr × Str)} {TT : (XK → Hp → VK → Prop) → Hp → VK → Prop} {x a : Str} {g c P : Addr} {k : Nat} {pg : Arguments} {bg : List Stmt} {sg : Scope} {dV kV doc pm cdv ct oc : Value} {an od : Option Addr} {osl : Array (Option Value)} {Ng : List Str}
    {ar : Arguments} {body : Expr} {scope : Scope} {t : XK → TE} {p lpos pos : Pos} (gl : Gl X x) (isG : X.mg x = some (.ref g)) (kp : PySem.W.keepIn X.K (.ref g) = true)
    (lk : X.K.lookup g = some ⟨oc, od, .func (PySem.W.fnOf x x pg bg sg dV kV doc pm an cdv ct), osl⟩) (cg : PySem.W.codeIn X.K cdv x = true) (bn : L2.Binds X.K (PySem.W.fnOf x x pg bg sg dV kV doc pm an cdv ct) [a] []) (Sg : FnScope Ng [a] sg) (hNg : Ng[0]? = some a) (hva : Vis sg a)
    (G : GivesS X Ng x sg g cdv bg a (X.env.qual ++ "<lambda>") TT) (TB : LamX.TabB X.base X.mg c P) (code : X.env.code = .ref c) (inT : (P, X.env.qual ++ "<lambda>") ∈ T) (one : ∀ p ∈ T, p.1 = P → p.2 = X.env.qual ++ "<lambda>") (room : Room (k + 2) X.A) (ls : LamS X.env.scope scope)
    (nodef : defaultsOf ar X.env = ([], [])) (bnd : ∀ (q : Str) (cl : List (Str × Addr)) (pm cv ctv : Value), bindArgs (PySem.W.kla_fn "<lambda>" q ar body scope cl pm cv ctv) ⟨[], []⟩ = pure [])
    (run : ∀ (E : XK) (f c : Addr) (A : Around) (outer : List Env) (s : Shared) (H : Hp), Room k (A.deeper (lamEnv X scope s.heap.objs.size f c)) → PE (lamCx X A outer s H E scope f c) body (t E))
    (hdb : (x == ("__debug__" : Str)) = false := by decide) (hd : (a == ("__debug__" : Str)) = false := by decide) (hcd : (a == ("__classdict__" : Str)) = false := by decide) :
    PE X (.Call (.Name x p) [.Lambda ar body scope lpos] [] pos) (tLam T TT t) := by
  refine ⟨fun pins s σ H Q J rd => ?_⟩
  obtain ⟨tabs, rd⟩ := rd
  refine wpAny_Call_Name_kw (ld_glob J gl isG ?_ hdb)
  refine PySem.W.callWith_K (h₀ := X.base) J.ok.mod.kin kp ?_ (by rfl) (by rfl)
  show wpAny _ _ (spliced ((false, eval (.Lambda ar body scope lpos) X.env) :: backTo pos (starEach [] X.env))) _ _ s
  refine Calls.spliced_cons (lam_make2 J TB code inT one tabs nodef (ls.has J.ok) fun f c' pm' ctv H1 s' J1 ext tabs1 hf nf off hco => ?_)
  refine Calls.spliced_nil ⟨J1.kIn, ?_⟩
  have ran : codeAny (model X.prog X.w) X.A (.call (.ref g) ⟨[.ref f], []⟩) (CR C8.CX0 X.stack X.prog X.w H1 s' Q C8.E0) s' := by
    refine run_ofS (N := Ng) (ps := [a]) (us := [.ref f]) (vs := [.ref f]) lk cg Sg room J1.env0 (bn s' [.ref f] J1.kIn rfl) (.cons rfl .nil) rfl fun room' => ?_
    obtain ⟨t', ht, hq⟩ := G f c' s' H1 Q (fun E H' Q' => t E σ H' Q') (fun W pn xe E σ0 p1 p2 tk wish => pe_actS (i := 0) (tb := t E) J1 ls hf nf off (bnd _ _ _ _ _) tk wish room' (fun A outer s H rm => run E f c' A outer s H rm) hNg hva hd hcd) hco (rd H1 ext tabs1)
    exact ⟨t', ht.nox, hq⟩
  refine wpAny_call (codeAny_mono ran fun r s2 out => ?_)
  · cases r with
    | error e => exact (show False from out).elim
    | ok fl =>
      cases fl with
      | ret u => exact J1.after out
      | _ => exact out.elim
end
end Dw
namespace Dw
open PySem PySem.Spec PyProof.Rows L2
def topS (i : Nat) : Stmt := PySem.Challenge.pw_doubtwell_k01_fractions.main.body.getD i (.Pass ⟨0, 0, 0, 0⟩)
abbrev sQE : Stmt := inClass (topS 1) 0
abbrev sIF : Stmt := inClass (topS 2) 0
abbrev sGD : Stmt := topS 5
abbrev sRat : Stmt := topS 6
theorem scQE : FnScope ["self", "message", "code"] ["self", "message", "code"] (defScope sQE) := ⟨rfl, rfl, rfl, by decide +kernel, rfl, by decide +kernel, by decide +kernel⟩
theorem scIF : FnScope ["self", "message"] ["self", "message"] (defScope sIF) := ⟨rfl, rfl, rfl, by decide +kernel, rfl, by decide +kernel, by decide +kernel⟩
theorem scGD : FnScope ["first", "second"] ["first", "second"] (defScope sGD) := ⟨rfl, rfl, rfl, by decide +kernel, rfl, by decide +kernel, by decide +kernel⟩
theorem scRat : FnScope ["numerator", "denominator", "divisor"] ["numerator", "denominator"] (defScope sRat) := ⟨rfl, rfl, rfl, by decide +kernel, rfl, by decide +kernel, by decide +kernel⟩
section
variable {P : Program} {w : World} {K : PySem.W.Frag} {mg : Str → Option Value} {base : Heap}
/-! ### greatest_divisor -/
def spGcd : Sp := fun vs H Q _ => ∃ a b : Int, vs = [.int a, .int b] ∧ Q (.int (Int.gcd a b)) H
theorem ok_gd {f : Addr} {fd : FuncData} {k : Nat} (F : Fun K "greatest_divisor" "greatest_divisor" sGD f fd) (mA : mg "abs" = none) : FnOk P w K mg base CX0 (k + 1) f fd ["first", "second"] spGcd := by
  refine F.ok scGD (fun vs H Q E h => ?_) (fun cdv A outer s H vs Q E hr h => ?_)
  · obtain ⟨a, b, rfl, _⟩ := h
    rfl
  · obtain ⟨a, b, rfl, q⟩ := h
    refine ⟨_, pss_cons (ps_par (i := 0) (j := 1) rfl scGD.nd rfl rfl (by decide) rfl rfl
        (pa_cons (pe_callB call_abs (by rfl) mA (by decide +kernel) (pa_cons (pv 0) pa_nil)) (pa_cons (pe_callB call_abs (by rfl) mA (by decide +kernel) (pa_cons (pv 1) pa_nil)) pa_nil)) rfl)
      (pss_cons (ps_while PassesOwn.never (pt_truth (pv 1) (fun _ => rfl)) (pss_one (ps_par (i := 0) (j := 1) rfl scGD.nd rfl rfl (by decide) rfl rfl
        (pa_cons (pv 1) (pa_cons (pe_op op_mod (pv 0) (pv 1)) pa_nil)) rfl)))
      (pss_one (ps_ret (pv 0)))), ?_⟩
    refine ⟨_, rfl, a, rfl, _, rfl, b, rfl, _, _, rfl, ?_⟩
    refine ⟨fun m σ H' => ∃ x y : Int, σ = [some (.int x), some (.int y)] ∧ H' = H ∧ 0 ≤ x ∧ 0 ≤ y ∧ Int.gcd x y = Int.gcd a b ∧ m = y.toNat, ⟨_, _, _, rfl, rfl, ?_, ?_, ?_, rfl⟩, ?_⟩
    · rw [abs_if]; omega
    · rw [abs_if]; omega
    · rw [abs_if, abs_if]
      show Nat.gcd _ _ = _
      rfl
    · rintro m σ H' ⟨x, y, rfl, rfl, hx, hy, hg, rfl⟩
      refine ⟨_, rfl, _, rfl, ?_⟩
      by_cases h0 : y = 0
      · subst h0
        refine iteF ?_
        refine ⟨_, rfl, ?_⟩
        have e : Int.gcd a b = x := by
          rw [← hg, Int.gcd_zero_right]
          omega
        rw [e] at q
        exact q
      · have e1 : (y != 0) = true := by simpa using h0
        rw [e1]
        refine iteT ?_
        refine ⟨fun σ' H'' => ∃ x' y' : Int, σ' = [some (.int x'), some (.int y')] ∧ H'' = H' ∧ 0 ≤ x' ∧ 0 ≤ y' ∧ Int.gcd x' y' = Int.gcd a b ∧ y' < y, ?_, ?_⟩
        · rintro σ' H'' ⟨x', y', rfl, rfl, h1, h2, h3, h4⟩
          exact ⟨y'.toNat, by omega, x', y', rfl, rfl, h1, h2, h3, rfl⟩
        · refine ⟨_, rfl, _, rfl, _, rfl, _, _, rfl, rfl, (by omega : (0 : Int) < y), _, _, rfl, y, x % y, rfl, rfl, hy, Int.emod_nonneg _ h0, ?_, Int.emod_lt_of_pos _ (by omega)⟩
          have e2 := gcd_fmod x y
          rw [Int.fmod_eq_emod_of_nonneg x hy] at e2
          rw [e2, hg]
end
end Dw
namespace Dw
open PySem PySem.Spec PyProof.Rows L2
section
variable {P : Program} {w : World} {K : PySem.W.Frag} {mg : Str → Option Value} {base : Heap}
/-! ### the errors -/
/-- QueryError.__init__(self, message, code), self an error of the class at C that has no field yet -/
def spQE (K : PySem.W.Frag) : Sp := fun vs H Q _ => ∃ (a C : Addr) (m c : V), vs = [.ref a, m, c] ∧ OexC K C ∧ PySem.W.findIn K (.ref C) "code" = some none ∧ H a = some (exo a C none) ∧
  ∀ dx, H dx = none → dx ≠ a → Q .non (upd (upd H dx (exd dx [("code", c)])) a (exo a C (some dx)))
abbrev FQE (K : PySem.W.Frag) (f : Addr) (fd : FuncData) : Prop := FunD K "__init__" "QueryError.__init__" (defArgs sQE) (defBody sQE) (defScope sQE) [.str "", .str ""] [] f fd
theorem ok_qe {f : Addr} {fd : FuncData} {k : Nat} (F : FQE K f fd) (mV : mg "ValueError" = none) (vV : PySem.W.findCls K (.type "ValueError") (.type "type") "__init__" = some (.val (.builtin "ValueError.__init__"))) :
    FnOk P w K mg base CX0 (k + 1) f fd ["self", "message", "code"] (spQE K) := by
  refine F.ok scQE (fun vs H Q E h => ?_) (fun cdv A outer s H vs Q E hr h => ?_)
  · obtain ⟨a, C, m, c, rfl, _⟩ := h
    rfl
  · obtain ⟨a, C, m, c, rfl, oe, nf, ha, q⟩ := h
    refine ⟨_, pss_cons (ps_expr (pe_veinit (by rfl) mV vV (pa_cons (pv 0) (pa_cons (pv 1) pa_nil)))) (pss_one (ps_ost (pv 0) (pv 2))), ?_⟩
    refine ⟨_, rfl, _, rfl, a, C, [m], rfl, Nat.le_of_ble_eq_true rfl, oe, ha, ?_⟩
    exact ⟨_, rfl, _, rfl, a, C, rfl, oe, nf, .inl ⟨ha, fun dx h1 h2 => q dx h1 h2⟩⟩
/-- InvalidFraction.__init__(self, message) -/
def spIF (K : PySem.W.Frag) (code : Str) : Sp := fun vs H Q _ => ∃ (a C : Addr) (m : V), vs = [.ref a, m] ∧ OexC K C ∧ PySem.W.findIn K (.ref C) "code" = some none ∧ H a = some (exo a C none) ∧
  ∀ dx, H dx = none → dx ≠ a → Q .non (upd (upd H dx (exd dx [("code", .str code)])) a (exo a C (some dx)))
abbrev FIF (K : PySem.W.Frag) (f : Addr) (fd : FuncData) : Prop := FunD K "__init__" "InvalidFraction.__init__" (defArgs sIF) (defBody sIF) (defScope sIF) [.str "not a reduced fraction"] [] f fd
theorem ok_if {f fQ CQ : Addr} {fd fdQ : FuncData} {k : Nat} {mc : Value} (F : FIF K f fd) (GQ : FnOk P w K mg base CX0 (k + 1) fQ fdQ ["self", "message", "code"] (spQE K))
    (gQ : mg "QueryError" = some (.ref CQ)) (rdQ : ClX.CRead K CQ mc) (fnd : PySem.W.findCls K (.ref CQ) mc "__init__" = some (.val (.ref fQ))) (kp : PySem.W.keepIn K (.ref fQ) = true) (bQ : L2.Binds K fdQ ["self", "message", "code"] []) :
    FnOk P w K mg base CX0 (k + 2) f fd ["self", "message"] (spIF K "fraction") := by
  refine F.ok scIF (fun vs H Q E h => ?_) (fun cdv A outer s H vs Q E hr h => ?_)
  · obtain ⟨a, C, m, rfl, _⟩ := h
    rfl
  · obtain ⟨a, C, m, rfl, oe, nf, ha, q⟩ := h
    refine ⟨_, pss_one (ps_expr (pe_clsfn GQ hr (by rfl) gQ rdQ fnd kp bQ .nil pass0 (pa_cons (pv 0) (pa_cons (pv 1) (pa_cons pe_str pa_nil))))), ?_⟩
    exact ⟨_, rfl, _, rfl, a, C, m, _, rfl, oe, nf, ha, fun dx h1 h2 => q dx h1 h2⟩
/-! ### rational -/
def spRat (CI : Addr) : Sp := fun vs H Q E => ∃ n d : Int, vs = [.int n, .int d] ∧ d.natAbs < 2 ^ 8000 ∧
  (d = 0 → ∀ x : Addr, H x = none → E (.ref CI) (some x) (upd H x (.xd [("code", .str "fraction")]))) ∧
  (d ≠ 0 → ∀ p, H p = none → Q (.ref p) (upd H p (.tup [.int (rn n d), .int (rd n d)])))
abbrev FRat (K : PySem.W.Frag) (f : Addr) (fd : FuncData) : Prop := FunD K "rational" "rational" (defArgs sRat) (defBody sRat) (defScope sRat) [.int 1] [] f fd
theorem ok_rat {f fI CI fG : Addr} {fd fdI fdG : FuncData} {k : Nat} (F : FRat K f fd) (GG : FnOk P w K mg base CX0 (k + 1) fG fdG ["first", "second"] spGcd) (gG : mg "greatest_divisor" = some (.ref fG)) (kG : PySem.W.keepIn K (.ref fG) = true) (bG : L2.Binds K fdG ["first", "second"] [])
    (GI : FnOk P w K mg base CX0 (k + 2) fI fdI ["self", "message"] (spIF K "fraction")) (gI : mg "InvalidFraction" = some (.ref CI)) (oe : OexC K CI) (nf : PySem.W.findIn K (.ref CI) "code" = some none)
    (iC : PySem.W.findIn K (.ref CI) "__init__" = some (some (.ref fI))) (tI : PySem.W.typeIn K (.ref fI) = some (.type "function")) (bI : L2.Binds K fdI ["self", "message"] []) :
    FnOk P w K mg base (L2.CX P w) (k + 4) f fd ["numerator", "denominator"] (spRat CI) := by
  refine F.ok scRat (fun vs H Q E h => ?_) (fun cdv A outer s H vs Q E hr h => ?_)
  · obtain ⟨n, d, rfl, _⟩ := h
    rfl
  · obtain ⟨n, d, rfl, hd, kE, kQ⟩ := h
    refine ⟨_, pss_cons (ps_if (pt_cmpR op_eq (pv 1) pe_int (nomark _)) (pss_one (ps_raise rfl (takes_of rfl rfl rfl rfl) (pmk_oex oe iC tI GI hr bI .nil pass0 (by rfl) gI (pa_cons pe_str pa_nil)))) pss_nil)
      (pss_cons (ps_set (i := 2) scRat.nd rfl (.inl rfl) (pe_call GG (hr.mono (by omega)) (by rfl) gG kG bG .nil pass0 (pa_cons (pv 0) (pa_cons (pv 1) pa_nil))))
      (C8.pss_cut (ps_if (pt_cmpR op_lt (pv 1) pe_int (nomark _)) (pss_one (ps_set (i := 2) scRat.nd rfl (.inl rfl) (pe_un un_neg (pv 2)))) pss_nil)
      (pss_one (ps_ret (pe_tup (pa_cons (pe_op op_fdivZ (pv 0) (pv 2)) (pa_cons (pe_op op_fdivZ (pv 1) (pv 2)) pa_nil))))))), ?_⟩
    refine ⟨_, rfl, rfl, _, rfl, ite2 (fun e => ?_) (fun e => ?_)⟩
    · have e0 : d = 0 := V.int.inj (of_decide_eq_true e)
      refine ⟨Nat.le_of_ble_eq_true rfl, fun a na => ⟨a, CI, _, rfl, oe, nf, upd_same, fun dx h1 h2 => ⟨rfl, dx, [("code", .str "fraction")], upd_same, ?_, ?_, ?_⟩⟩⟩
      · rw [upd_ne h2, upd_same]
      · rw [upd_ne h2] at h1
        exact h1
      · have ndx : H dx = none := by
          rw [upd_ne h2] at h1
          exact h1
        have eH : upd (del (upd (upd (upd H a (exo a CI none)) dx (exd dx [("code", .str "fraction")])) a (exo a CI (some dx))) a) dx (.xd [("code", .str "fraction")]) = upd H dx (.xd [("code", .str "fraction")]) := by
          funext b
          by_cases hb : b = dx
          · rw [hb, upd_same, upd_same]
          · rw [upd_ne hb, upd_ne hb]
            by_cases hba : b = a
            · rw [hba, del_same, na]
            · rw [del_ne hba, upd_ne hba, upd_ne hb, upd_ne hba]
        rw [eH]
        exact kE e0 dx ndx
    · have e0 : d ≠ 0 := fun z => e (by rw [z]; exact decide_eq_true rfl)
      refine ⟨_, rfl, _, rfl, n, d, rfl, ?_⟩
      refine ⟨fun σ' H' => σ' = [some (.int n), some (.int d), some (.int (gd n d))] ∧ H' = H, ?_, ?_⟩
      · refine ⟨_, rfl, _, _, rfl, rfl, _, rfl, ite2 (fun l => ?_) (fun l => ?_)⟩
        · have l0 : d < 0 := of_decide_eq_true l
          refine ⟨_, rfl, _, rfl, ?_, rfl⟩
          unfold gd
          rw [if_pos l0]
          rfl
        · have l0 : ¬ d < 0 := fun z => l (decide_eq_true z)
          refine ⟨?_, rfl⟩
          unfold gd
          rw [if_neg l0]
          rfl
      · rintro σ' H' ⟨rfl, rfl⟩
        have hz : CDivZ n (gd n d) := divZ_of (n := 8000) (gd_ne e0) (by rw [gd_abs]; exact Nat.lt_of_le_of_lt (gcd_le_abs e0) hd) (by decide) (by decide)
        refine ⟨_, rfl, _, rfl, n, gd n d, rfl, rfl, hz, _, rfl, _, rfl, d, gd n d, rfl, rfl, hz, Nat.le_of_ble_eq_true rfl, fun p np => ?_⟩
        exact kQ e0 p np
end
end Dw
namespace Dw
open PySem PySem.Spec PyProof.Rows L2
abbrev sSrc : Stmt := topS 8
abbrev sDraw : Stmt := topS 9
theorem scSrc : FnScope ["_law_script"] ["_law_script"] (defScope sSrc) := ⟨rfl, rfl, rfl, by decide +kernel, rfl, by decide +kernel, by decide +kernel⟩
theorem scDraw : FnScope ["_law_source_here", "_law_count", "_law_cell", "_law_rest", "_law_twice"] ["_law_source_here", "_law_count"] (defScope sDraw) := ⟨rfl, rfl, rfl, by decide +kernel, rfl, by decide +kernel, by decide +kernel⟩
/-- at a: the source of draws -/
structure SrcIs (H : Hp) (a l : Addr) (ms : List Int) (i r s : Int) : Prop where
  ne : l ≠ a
  at_ : H a = some (.lst [.ref l, .int i, .int r, .int s])
  cells : H l = some (.lst (ms.map V.int))
  i0 : 0 ≤ i
  r0 : 0 ≤ r
  s0 : 0 ≤ s
  s1 : s < 2147483587
def Src (H : Hp) (a : Addr) : Prop := ∃ l ms i r s, SrcIs H a l ms i r s
/-- nothing but what stands at a is another -/
def But (a : Addr) (H H' : Hp) : Prop := ∀ b, b ≠ a → H' b = H b
theorem But.refl (a : Addr) (H : Hp) : But a H H := fun _ _ => rfl
theorem But.trans {a : Addr} {H H1 H2 : Hp} (x : But a H H1) (y : But a H1 H2) : But a H H2 := fun b h => (y b h).trans (x b h)
theorem But.upd {a : Addr} {H H' : Hp} {o : HO} (x : But a H H') : But a H (L2.upd H' a o) := fun b h => (upd_ne h).trans (x b h)
theorem cut_ints (ns : List Int) (lo hi : Option Int) : ∃ ms : List Int, cutV (ns.map V.int) lo hi = ms.map V.int := by
  unfold cutV
  exact ⟨_, by rw [← List.map_drop, ← List.map_take]⟩
section
variable {P : Program} {w : World} {K : PySem.W.Frag} {mg : Str → Option Value} {base : Heap}
theorem same_new {H : Hp} {p : Addr} {o : HO} (h : H p = none) : Same H (upd H p o) := fun b x e => by
  rw [upd_ne (ne_of_none e h)]
  exact e
/-! ### _law_source -/
def spSrc (K : PySem.W.Frag) : Sp := fun vs H Q _ => ∃ (a : Addr) (ns : List Int), vs = [.ref a] ∧ SqL K H a (ns.map V.int) ∧ ∀ H' p, Same H H' → H p = none → Src H' p → Q (.ref p) H'
theorem ok_src {f : Addr} {fd : FuncData} {k : Nat} (F : Fun K "_law_source" "_law_source" sSrc f fd) (mL : mg "list" = none) : FnOk P w K mg base CX0 (k + 1) f fd ["_law_script"] (spSrc K) := by
  refine F.ok scSrc (fun vs H Q E h => ?_) (fun cdv A outer s H vs Q E hr h => ?_)
  · obtain ⟨a, ns, rfl, _⟩ := h
    rfl
  · obtain ⟨a, ns, rfl, hS, q⟩ := h
    refine ⟨_, pss_one (ps_ret (pe_lst (pa_cons (pe_callTy call_list_of (by rfl) mL (by decide +kernel) (pa_cons (pe_slice sl_list (pv 0) po_none (po_some pe_int)) pa_nil)) (pa_cons pe_int (pa_cons pe_int (pa_cons pe_int pa_nil)))))), ?_⟩
    obtain ⟨ms, hms⟩ := cut_ints ns none (some 63)
    refine ⟨_, rfl, 63, rfl, a, _, rfl, hS, fun c nc => ⟨c, _, rfl, .inl (.inl (.inl upd_same)), fun l nl => ⟨Nat.le_of_ble_eq_true rfl, fun p np => ?_⟩⟩⟩
    rw [hms] at nl np ⊢
    have s1 : Same H (upd H c (.lst (ms.map V.int))) := same_new nc
    have s2 : Same (upd H c (.lst (ms.map V.int))) (upd (upd H c (.lst (ms.map V.int))) l (.lst (ms.map V.int))) := same_new nl
    have s3 := same_new (o := .lst [.ref l, .int 0, .int 0, .int 4711]) np
    have nlp : l ≠ p := fun z => by
      rw [z, upd_same] at np
      cases np
    refine q _ p ((s1.trans s2).trans s3) ((s1.trans s2).free np) ⟨l, ms, 0, 0, 4711, nlp, upd_same, ?_, by decide, by decide, by decide, by decide⟩
    rw [upd_ne nlp, upd_same]
/-! ### _law_draw -/
def spDraw : Sp := fun vs H Q _ => ∃ (a : Addr) (c : Int), vs = [.ref a, .int c] ∧ Src H a ∧ 0 < c ∧ c.natAbs < 2 ^ 8000 ∧ ∀ H' v, But a H H' → Src H' a → 0 ≤ v → v < c → Q (.int v) H'
theorem ok_draw {f : Addr} {fd : FuncData} {k : Nat} (F : Fun K "_law_draw" "_law_draw" sDraw f fd) (mL : mg "len" = none) (mA : mg "abs" = none) : FnOk P w K mg base CX0 (k + 1) f fd ["_law_source_here", "_law_count"] spDraw := by
  refine F.ok scDraw (fun vs H Q E h => ?_) (fun cdv A outer s H vs Q E hr h => ?_)
  · obtain ⟨a, c, rfl, _⟩ := h
    rfl
  · obtain ⟨a, c, rfl, ⟨l, ms, i, r, sd, S⟩, hc, hc2, q⟩ := h
    refine ⟨_, C8.pss_cut (ps_if (PW.pt (pw_and (pt_cmpR op_eq (pe_ix ix_list (pv 0) pe_int (fun _ _ => rfl)) pe_int (nomark _))
          (pw_and1 (pt_cmpR op_lt (pe_ix ix_list (pv 0) pe_int (fun _ _ => rfl)) (pe_callB call_len_seq (by rfl) mL PySem.boot_len (pa_cons (pe_ix ix_list (pv 0) pe_int (fun _ _ => rfl)) pa_nil)) (nomark _)))))
        (pss_cons (ps_set (i := 2) scDraw.nd rfl (.inl rfl) (pe_ix ix_list (pe_ix ix_list (pv 0) pe_int (fun _ _ => rfl)) (pe_ix ix_list (pv 0) pe_int (fun _ _ => rfl)) (fun _ _ => rfl)))
        (pss_cons (ps_augS (pv 0) pe_int get_list pe_int ip_add set_list)
        (pss_one (ps_if (pt_cmpR op_ge (pe_callB call_abs (by rfl) mA (by decide +kernel) (pa_cons (pv 2) pa_nil)) (pe_op op_pow pe_int pe_int) (nomark _))
          (pss_one (ps_asg (pe_callB call_abs (by rfl) mA (by decide +kernel) (pa_cons (pv 2) pa_nil)) (pg_sub (pv 0) pe_int set_list)))
          (pss_one (ps_asg (pe_op op_mod (pe_op op_add (pe_op op_add (pe_op op_mul (pe_ix ix_list (pv 0) pe_int (fun _ _ => rfl)) pe_int) (pe_op op_mul (pe_op op_mod (pv 2) pe_int) pe_int)) pe_int) pe_int) (pg_sub (pv 0) pe_int set_list)))))))
        pss_nil)
      (C8.pss_cut (ps_if (pt_cmpR op_gt (pe_ix ix_list (pv 0) pe_int (fun _ _ => rfl)) pe_int (nomark _))
        (pss_cons (ps_set (i := 3) scDraw.nd rfl (.inl rfl) (pe_ix ix_list (pv 0) pe_int (fun _ _ => rfl)))
        (pss_cons (ps_asg (pe_op op_fdivW (pv 3) (pv 1)) (pg_sub (pv 0) pe_int set_list))
        (pss_one (ps_ret (pe_op op_mod (pv 3) (pv 1)))))) pss_nil)
      (pss_cons (ps_set (i := 4) scDraw.nd rfl (.inl rfl) (pe_op op_mod (pe_op op_mul (pe_ix ix_list (pv 0) pe_int (fun _ _ => rfl)) (pe_ix ix_list (pv 0) pe_int (fun _ _ => rfl))) pe_int))
      (pss_cons (ps_asg (pe_op op_mod (pe_op op_add (pe_op op_add (pe_op op_mul (pv 4) pe_int) (pe_op op_mul (pe_ix ix_list (pv 0) pe_int (fun _ _ => rfl)) pe_int)) pe_int) pe_int) (pg_sub (pv 0) pe_int set_list))
      (pss_one (ps_ret (pe_op op_mod (pe_op op_fdiv (pe_ix ix_list (pv 0) pe_int (fun _ _ => rfl)) pe_int) (pv 1))))))), ?_⟩
    refine ⟨fun σ' H' => ∃ y2 i' r' s', σ' = [some (.ref a), some (.int c), y2, none, none] ∧ But a H H' ∧ SrcIs H' a l ms i' r' s', ?_, ?_⟩
    · refine ⟨_, rfl, a, _, _, _, rfl, rfl, SqL.of S.at_, rfl, rfl, _, rfl, ite2 (fun e => ?_) (fun e => iteF ⟨none, i, r, sd, rfl, But.refl a H, S⟩)⟩
      refine ⟨_, rfl, a, _, _, _, rfl, rfl, SqL.of S.at_, rfl, _, rfl, a, _, _, _, rfl, rfl, SqL.of S.at_, rfl, l, _, rfl, .inl (SqL.of S.cells), _, _, rfl, rfl, _, rfl, ite2 (fun e2 => ?_) (fun e2 => ⟨none, i, r, sd, rfl, But.refl a H, S⟩)⟩
      have hi : i < ((ms.map V.int).length : Int) := of_decide_eq_true e2
      have i0 := S.i0
      rw [List.length_map] at hi
      obtain ⟨j, rfl⟩ : ∃ j : Nat, i = (j : Int) := ⟨i.toNat, by omega⟩
      have hj : j < ms.length := by omega
      have gx : (ms.map V.int)[j]? = some (.int ms[j]) := by
        rw [List.getElem?_map, List.getElem?_eq_getElem hj]
        rfl
      -- cell = src[0][src[1]]
      refine ⟨_, rfl, a, _, _, _, rfl, rfl, SqL.of S.at_, rfl, _, rfl, a, _, _, _, rfl, rfl, SqL.of S.at_, rfl, l, _, _, _, rfl, rfl, SqL.of S.cells, atI_nat gx, ?_⟩
      -- src[1] += 1
      refine ⟨_, rfl, a, _, 1, _, rfl, rfl, SqL.of S.at_, rfl, _, _, rfl, rfl, a, _, _, 1, rfl, rfl, S.at_, rfl, ?_⟩
      have S1 : SrcIs (upd H a (.lst [.ref l, .int ((j : Int) + 1), .int r, .int sd])) a l ms ((j : Int) + 1) r sd := ⟨S.ne, upd_same, by rw [upd_ne S.ne]; exact S.cells, by omega, S.r0, S.s0, S.s1⟩
      have B1 : But a H (upd H a (.lst [.ref l, .int ((j : Int) + 1), .int r, .int sd])) := (But.refl a H).upd
      -- if abs(cell) >= 10 ** 18
      refine ⟨_, rfl, _, rfl, 10, 18, rfl, rfl, ⟨by decide, by decide, by decide⟩, _, _, rfl, rfl, _, rfl, ite2 (fun e3 => ?_) (fun e3 => ?_)⟩
      · refine ⟨_, rfl, _, rfl, _, rfl, a, _, _, 2, rfl, rfl, S1.at_, rfl, _, _, _, _, rfl, B1.upd, S.ne, upd_same, ?_, ?_, ?_, S.s0, S.s1⟩
        · rw [upd_ne S.ne]; exact S1.cells
        · exact S1.i0
        · rw [abs_if]; omega
      · refine ⟨_, rfl, a, _, _, _, rfl, rfl, SqL.of S1.at_, rfl, _, _, rfl, rfl, .inr ⟨by decide, by decide⟩, _, rfl, _, _, rfl, rfl, (by show (0 : Int) < 1000033; decide), _, _, rfl, rfl, .inr ⟨by decide, by decide⟩, _, _, rfl, rfl, _, _, rfl, rfl, _, _, rfl, rfl, (by show (0 : Int) < 2147483587; decide), _, rfl, a, _, _, 3, rfl, rfl, S1.at_, rfl, _, _, _, _, rfl, B1.upd, S.ne, upd_same, ?_, ?_, ?_, ?_, ?_⟩
        · rw [upd_ne S.ne]; exact S1.cells
        · exact S1.i0
        · exact S.r0
        · exact Int.emod_nonneg _ (by decide)
        · exact Int.emod_lt_of_pos _ (by decide)
    · rintro σ' H' ⟨y2, i', r', s', rfl, B, S'⟩
      refine ⟨fun σ'' H'' => σ'' = [some (.ref a), some (.int c), y2, none, none] ∧ H'' = H', ?_, ?_⟩
      · refine ⟨_, rfl, a, _, _, _, rfl, rfl, SqL.of S'.at_, rfl, _, _, rfl, rfl, _, rfl, ite2 (fun e => ?_) (fun e => ⟨rfl, rfl⟩)⟩
        have hr0 : 0 < r' := of_decide_eq_true e
        refine ⟨_, rfl, a, _, _, _, rfl, rfl, SqL.of S'.at_, rfl, _, rfl, _, rfl, r', c, rfl, rfl, wide_div (b := 8000) hc hc2 (by decide) (by decide), _, rfl, a, _, _, 2, rfl, rfl, S'.at_, rfl, _, rfl, _, rfl, r', c, rfl, rfl, hc, ?_⟩
        refine q _ _ B.upd ⟨l, ms, i', r' / c, s', S.ne, upd_same, ?_, S'.i0, Int.ediv_nonneg S'.r0 (by omega), S'.s0, S'.s1⟩ (Int.emod_nonneg _ (by omega)) (Int.emod_lt_of_pos _ hc)
        rw [upd_ne S.ne]; exact S'.cells
      · rintro σ'' H'' ⟨rfl, rfl⟩
        have h0 := S'.s0
        have h1 := S'.s1
        refine ⟨_, rfl, a, _, _, _, rfl, rfl, SqL.of S'.at_, rfl, _, rfl, a, _, _, _, rfl, rfl, SqL.of S'.at_, rfl, _, _, rfl, rfl, .inl ⟨by omega, by omega⟩, _, _, rfl, rfl, (by show (0 : Int) < 2147483587; decide), ?_⟩
        refine ⟨_, rfl, _, _, rfl, rfl, .inr ⟨by decide, by decide⟩, _, rfl, a, _, _, _, rfl, rfl, SqL.of S'.at_, rfl, _, _, rfl, rfl, .inr ⟨by decide, by decide⟩, _, _, rfl, rfl, _, _, rfl, rfl, _, _, rfl, rfl, (by show (0 : Int) < 2147483587; decide), _, rfl, a, _, _, 3, rfl, rfl, S'.at_, rfl, ?_⟩
        refine ⟨_, rfl, a, _, _, _, rfl, rfl, SqL.of upd_same, rfl, _, _, rfl, rfl, ⟨by decide, by decide⟩, _, rfl, _, c, rfl, rfl, hc, ?_⟩
        refine q _ _ B.upd ⟨l, ms, i', r', _, S.ne, upd_same, ?_, S'.i0, S'.r0, Int.emod_nonneg _ (by decide), Int.emod_lt_of_pos _ (by decide)⟩ (Int.emod_nonneg _ (by omega)) (Int.emod_lt_of_pos _ hc)
        rw [upd_ne S.ne]; exact S'.cells
end
end Dw
namespace Dw
open PySem PySem.Spec PyProof.Rows L2
abbrev sCho : Stmt := topS 10
abbrev sLG : Stmt := topS 13
abbrev sIsF : Stmt := topS 14
abbrev sWh : Stmt := topS 15
theorem scCho : FnScope ["_law_source_here", "_law_chosen"] ["_law_source_here", "_law_chosen"] (defScope sCho) := ⟨rfl, rfl, rfl, by decide +kernel, rfl, by decide +kernel, by decide +kernel⟩
theorem scLG : FnScope ["_law_one", "_law_two", "_law_rest"] ["_law_one", "_law_two"] (defScope sLG) := ⟨rfl, rfl, rfl, by decide +kernel, rfl, by decide +kernel, by decide +kernel⟩
theorem scIsF : FnScope ["_law_x", "_law_k"] ["_law_x"] (defScope sIsF) := ⟨rfl, rfl, rfl, by decide +kernel, rfl, by decide +kernel, by decide +kernel⟩
theorem scWh : FnScope ["_law_source_here", "_law_found"] ["_law_source_here"] (defScope sWh) := ⟨rfl, rfl, rfl, by decide +kernel, rfl, by decide +kernel, by decide +kernel⟩
/-- all but what stands at a stays; new things may come -/
def Keep (a : Addr) (H H' : Hp) : Prop := ∀ b o, b ≠ a → H b = some o → H' b = some o
theorem Keep.refl (a : Addr) (H : Hp) : Keep a H H := fun _ _ _ h => h
theorem Keep.trans {a : Addr} {H H1 H2 : Hp} (x : Keep a H H1) (y : Keep a H1 H2) : Keep a H H2 := fun b o n h => y b o n (x b o n h)
theorem But.keep {a : Addr} {H H' : Hp} (x : But a H H') : Keep a H H' := fun b o n h => (x b n).trans h
theorem Keep.of {a : Addr} {H H' : Hp} (x : Same H H') : Keep a H H' := fun b o _ h => x b o h
theorem Keep.seq {K : PySem.W.Frag} {a c : Addr} {H H' : Hp} {xs : List V} (x : Keep a H H') (n : c ≠ a) (h : SqL K H c xs) : SqL K H' c xs := by
  rcases h with (h | ⟨o, h⟩) | h
  · exact .inl (.inl (x _ _ n h))
  · exact .inl (.inr ⟨o, x _ _ n h⟩)
  · exact .inr h
theorem Src.upd_new {H : Hp} {a p : Addr} {o : HO} (h : Src H a) (n : H p = none) : Src (upd H p o) a := by
  obtain ⟨l, ms, i, r, s, S⟩ := h
  exact ⟨l, ms, i, r, s, S.ne, by rw [upd_ne (ne_of_none S.at_ n)]; exact S.at_, by rw [upd_ne (ne_of_none S.cells n)]; exact S.cells, S.i0, S.r0, S.s0, S.s1⟩
theorem Src.ne_new {H : Hp} {a p : Addr} (h : Src H a) (n : H p = none) : p ≠ a := by
  obtain ⟨l, ms, i, r, s, S⟩ := h
  exact (ne_of_none S.at_ n).symm
section
variable {P : Program} {w : World} {K : PySem.W.Frag} {mg : Str → Option Value} {base : Heap}
theorem same_upd {H H' : Hp} {p : Addr} {o : HO} (s : Same H H') (h : H p = none) : Same H (upd H' p o) := fun b x e => by
  rw [upd_ne (ne_of_none e h)]
  exact s b x e
/-! ### _law_choice -/
def spCho (K : PySem.W.Frag) : Sp := fun vs H Q _ => ∃ (a c : Addr) (xs : List V), vs = [.ref a, .ref c] ∧ Src H a ∧ c ≠ a ∧ SqL K H c xs ∧ xs ≠ [] ∧ xs.length ≤ 1000 ∧ ∀ H' v, But a H H' → Src H' a → v ∈ xs → Q v H'
theorem ok_cho {f fD : Addr} {fd fdD : FuncData} {k : Nat} (F : Fun K "_law_choice" "_law_choice" sCho f fd) (GD : FnOk P w K mg base CX0 (k + 1) fD fdD ["_law_source_here", "_law_count"] spDraw) (gD : mg "_law_draw" = some (.ref fD)) (kD : PySem.W.keepIn K (.ref fD) = true)
    (bD : L2.Binds K fdD ["_law_source_here", "_law_count"] []) (mL : mg "len" = none) : FnOk P w K mg base CX0 (k + 2) f fd ["_law_source_here", "_law_chosen"] (spCho K) := by
  refine F.ok scCho (fun vs H Q E h => ?_) (fun cdv A outer s H vs Q E hr h => ?_)
  · obtain ⟨a, c, xs, rfl, _⟩ := h
    rfl
  · obtain ⟨a, c, xs, rfl, S, n, hS, ne, hl, q⟩ := h
    refine ⟨_, pss_one (ps_ret (pe_ix ix_list (pv 1) (pe_call GD hr (by rfl) gD kD bD .nil pass0 (pa_cons (pv 0) (pa_cons (pe_callB call_len_seq (by rfl) mL PySem.boot_len (pa_cons (pv 1) pa_nil)) pa_nil))) (fun _ _ => rfl))), ?_⟩
    have l0 : 0 < xs.length := List.length_pos_iff.mpr ne
    refine ⟨_, rfl, _, rfl, _, rfl, c, xs, rfl, .inl hS, a, _, rfl, S, by omega, ?_, fun H' v B S' v0 v1 => ?_⟩
    · exact Nat.lt_of_le_of_lt (by omega : _ ≤ 1000) (Nat.lt_of_lt_of_le (by decide : 1000 < 2 ^ 10) (Nat.pow_le_pow_right (by decide) (by decide)))
    · obtain ⟨j, rfl⟩ : ∃ j : Nat, v = (j : Int) := ⟨v.toNat, by omega⟩
      have hj : j < xs.length := by omega
      exact ⟨c, xs, _, xs[j], rfl, rfl, B.keep.seq n hS, atI_nat (List.getElem?_eq_getElem hj), q _ _ B S' (List.getElem_mem hj)⟩
/-! ### _law_gcd -/
theorem ok_lg {f : Addr} {fd : FuncData} {k : Nat} (F : Fun K "_law_gcd" "_law_gcd" sLG f fd) (mA : mg "abs" = none) : FnOk P w K mg base CX0 (k + 1) f fd ["_law_one", "_law_two"] spGcd := by
  refine F.ok scLG (fun vs H Q E h => ?_) (fun cdv A outer s H vs Q E hr h => ?_)
  · obtain ⟨a, b, rfl, _⟩ := h
    rfl
  · obtain ⟨a, b, rfl, q⟩ := h
    refine ⟨_, pss_cons (ps_while PassesOwn.never (pt_cmpR op_ne (pv 1) pe_int (nomark _)) (pss_cons (ps_set (i := 2) scLG.nd rfl (.inl rfl) (pe_op op_modN (pv 0) (pv 1)))
        (pss_cons (ps_set (i := 0) scLG.nd rfl (.inl rfl) (pv 1)) (pss_one (ps_set (i := 1) scLG.nd rfl (.inl rfl) (pv 2))))))
      (pss_one (ps_ret (pe_callB call_abs (by rfl) mA (by decide +kernel) (pa_cons (pv 0) pa_nil)))), ?_⟩
    refine ⟨fun m σ H' => ∃ (x y : Int) (z : Option V), σ = [some (.int x), some (.int y), z] ∧ H' = H ∧ Int.gcd x y = Int.gcd a b ∧ m = y.natAbs, ⟨_, a, b, none, rfl, rfl, rfl, rfl⟩, ?_⟩
    rintro m σ H' ⟨x, y, z, rfl, rfl, hg, rfl⟩
    refine ⟨_, rfl, rfl, _, rfl, ?_⟩
    by_cases h0 : y = 0
    · subst h0
      refine iteNS rfl ?_
      refine ⟨_, rfl, _, rfl, ?_⟩
      rw [abs_if]
      rw [Int.gcd_zero_right] at hg
      rw [← hg] at q
      exact q
    · have e1 : (!decide (V.int y = V.int 0)) = true := by
        rw [decide_eq_false (fun z => h0 (V.int.inj z))]
        rfl
      rw [e1]
      refine iteT ?_
      refine ⟨fun σ' H'' => ∃ (x' y' : Int) (z' : Option V), σ' = [some (.int x'), some (.int y'), z'] ∧ H'' = H' ∧ Int.gcd x' y' = Int.gcd a b ∧ y'.natAbs < y.natAbs, ?_, ?_⟩
      · rintro σ' H'' ⟨x', y', z', rfl, rfl, h3, h4⟩
        exact ⟨y'.natAbs, h4, x', y', z', rfl, rfl, h3, rfl⟩
      · exact ⟨_, rfl, _, rfl, x, y, rfl, rfl, h0, _, rfl, _, rfl, _, _, _, rfl, rfl, (gcd_fmod x y).trans hg, fmod_less x y h0⟩
/-! ### _law_is_fraction -/
def spIsF (K : PySem.W.Frag) : Sp := fun vs H Q _ => ∃ (p : Addr) (n d : Int), vs = [.ref p] ∧ H p = some (.tup [.int n, .int d]) ∧ ∀ H', Same H H' → Q (.bl (decide (1 ≤ d) && decide (Int.gcd n d = 1))) H'
theorem ok_isf {f fG : Addr} {fd fdG : FuncData} {k : Nat} (F : Fun K "_law_is_fraction" "_law_is_fraction" sIsF f fd) (GG : FnOk P w K mg base CX0 (k + 1) fG fdG ["_law_one", "_law_two"] spGcd) (gG : mg "_law_gcd" = some (.ref fG)) (kG : PySem.W.keepIn K (.ref fG) = true)
    (bG : L2.Binds K fdG ["_law_one", "_law_two"] []) (mI : mg "isinstance" = none) (mT : mg "tuple" = none) (mL : mg "len" = none) (mAl : mg "all" = none) (mN : mg "int" = none) : FnOk P w K mg base CX0 (k + 2) f fd ["_law_x"] (spIsF K) := by
  refine F.ok scIsF (fun vs H Q E h => ?_) (fun cdv A outer s H vs Q E hr h => ?_)
  · obtain ⟨p, n, d, rfl, _⟩ := h
    rfl
  · obtain ⟨p, n, d, rfl, hp, q⟩ := h
    refine ⟨_, pss_cons (ps_if (PW.pt (pw_or (pt_not (pt_val (pe_callB call_isi (by rfl) mI (by decide +kernel) (pa_cons (pv 0) (pa_cons (pe_bltn (v := .ty "tuple") (by rfl) mT (by decide +kernel) rfl) pa_nil)))))
        (pw_or (pt_cmpR op_ne (pe_callB call_len_seq (by rfl) mL PySem.boot_len (pa_cons (pv 0) pa_nil)) pe_int (nomark _))
        (pw_or1 (pt_not (pt_val (pe_callB (cr_all rfl) (by rfl) mAl (by decide +kernel) (pa_cons (pe_lc (own := [("_law_k", 1)]) (g := gName 1) (tt := tYes) (te := tCB (rIsi K) (tCons (tVar 1) (tCons (tC (.ty "int")) tNil))) rfl scIsF.nd (pi_tup (pv 0)) (blkOk_by (N := ["_law_x", "_law_k"]) (sc := defScope sIsF) (by decide +kernel))
            (fun _ _ _ _ _ => pg_name (i := 1) scIsF.nd rfl (Or.inl rfl)) (fun _ _ _ _ _ => pts_nil)
            (fun _ _ _ _ _ => pe_callB call_isi (by rfl) mI (by decide +kernel) (pa_cons (pv 1) (pa_cons (pe_bltn (v := .ty "int") (by rfl) mN (by decide +kernel) rfl) pa_nil)))) pa_nil))))))))
        (pss_one (ps_ret pe_bl)) pss_nil)
      (pss_one (ps_ret (pe_and (pe_cmpR op_ge (pe_ix ix_tup (pv 0) pe_int (fun _ _ => rfl)) pe_int (nomark _)) (pe_one (pe_cmpR op_eq (pe_call GG hr (by rfl) gG kG bG .nil pass0 (pa_cons (pe_ix ix_tup (pv 0) pe_int (fun _ _ => rfl)) (pa_cons (pe_ix ix_tup (pv 0) pe_int (fun _ _ => rfl)) pa_nil))) pe_int (nomark _)))))), ?_⟩
    have hS : SqT K H p [.int n, .int d] := SqT.of hp
    refine ⟨_, rfl, _, _, _, _, true, rfl, .ty "tuple", .base (.tup hp), kit_ty (by decide +kernel), true, rfl, iteF ?_⟩
    refine ⟨_, rfl, p, _, rfl, .inr hS, rfl, _, rfl, iteNS rfl ?_⟩
    refine ⟨_, rfl, p, rfl, ⟨_, hS⟩, fun D nD => lc_tup (K := K) (a := p) (xs := [.int n, .int d]) (fun i H' => Same H H' ∧ H' D = some (.lst (List.replicate i (.bl true)))) ⟨same_new nD, upd_same⟩ (fun i H' _ h => SqT.of (h.1 _ _ hp)) (fun i x H' hx h => ?_) (fun H' h => ?_)⟩
    · obtain ⟨z, rfl⟩ : ∃ z : Int, x = .int z := by
        match i, hx with
        | 0, hx => exact ⟨n, (Option.some.inj hx).symm⟩
        | 1, hx => exact ⟨d, (Option.some.inj hx).symm⟩
      have hi : i < 2 := (List.getElem?_eq_some_iff.mp hx).1
      refine ⟨rfl, _, rfl, _, _, _, _, true, rfl, .ty "int", .base (.int z), kit_ty (by decide +kernel), _, h.2, ?_, ?_, ?_⟩
      · rw [List.length_replicate]
        exact small1000 (by omega)
      · exact same_upd h.1 nD
      · rw [upd_same, List.replicate_succ']
    · refine ⟨D, [true, true], rfl, SqL.of h.2, true, rfl, iteF ?_⟩
      have hp' := h.1 _ _ hp
      refine ⟨_, rfl, p, _, _, _, rfl, rfl, SqT.of hp', rfl, _, _, rfl, rfl, _, rfl, ite2 (fun e => ?_) (fun e => ?_)⟩
      · have h1 : 1 ≤ d := of_decide_eq_true e
        refine ⟨_, rfl, p, _, _, _, rfl, rfl, SqT.of hp', rfl, _, rfl, p, _, _, _, rfl, rfl, SqT.of hp', rfl, n, d, rfl, rfl, ?_⟩
        have e2 := q _ h.1
        rw [decide_eq_true h1, Bool.true_and] at e2
        have e3 : decide (V.int (Int.gcd n d : Int) = V.int 1) = decide (Int.gcd n d = 1) := by
          by_cases hg : Int.gcd n d = 1
          · rw [decide_eq_true hg, hg]
            exact decide_eq_true rfl
          · rw [decide_eq_false hg]
            exact decide_eq_false fun z => hg (by have := V.int.inj z; omega)
        rw [e3]
        exact e2
      · have h1 : ¬ 1 ≤ d := fun z => e (decide_eq_true z)
        have e2 := q _ h.1
        rw [decide_eq_false h1, Bool.false_and] at e2
        exact e2
/-! ### _law_whole_of -/
def spWh : Sp := fun vs H Q _ => ∃ a : Addr, vs = [.ref a] ∧ Src H a ∧ ∀ H' (v : Int), Keep a H H' → Src H' a → v.natAbs < 10 ^ 30 → Q (.int v) H'
theorem ok_wh {f fD fC : Addr} {fd fdD fdC : FuncData} {k : Nat} (F : Fun K "_law_whole_of" "_law_whole_of" sWh f fd) (GD : FnOk P w K mg base CX0 (k + 1) fD fdD ["_law_source_here", "_law_count"] spDraw) (gD : mg "_law_draw" = some (.ref fD)) (kD : PySem.W.keepIn K (.ref fD) = true)
    (bD : L2.Binds K fdD ["_law_source_here", "_law_count"] []) (GC : FnOk P w K mg base CX0 (k + 2) fC fdC ["_law_source_here", "_law_chosen"] (spCho K)) (gC : mg "_law_choice" = some (.ref fC)) (kC : PySem.W.keepIn K (.ref fC) = true)
    (bC : L2.Binds K fdC ["_law_source_here", "_law_chosen"] []) : FnOk P w K mg base CX0 (k + 3) f fd ["_law_source_here"] spWh := by
  refine F.ok scWh (fun vs H Q E h => ?_) (fun cdv A outer s H vs Q E hr h => ?_)
  · obtain ⟨a, rfl, _⟩ := h
    rfl
  · obtain ⟨a, rfl, S, q⟩ := h
    have hr1 : Room (k + 1) _ := hr.mono (by omega)
    refine ⟨_, pss_cons (ps_set (i := 1) scWh.nd rfl (.inl rfl) (pe_call GC hr (by rfl) gC kC bC .nil pass0 (pa_cons (pv 0) (pa_cons (pe_lst (pa_cons (pe_call GD hr1 (by rfl) gD kD bD .nil pass0 (pa_cons (pv 0) (pa_cons pe_int pa_nil)))
        (pa_cons (pe_call GD hr1 (by rfl) gD kD bD .nil pass0 (pa_cons (pv 0) (pa_cons pe_int pa_nil))) (pa_cons (pe_call GD hr1 (by rfl) gD kD bD .nil pass0 (pa_cons (pv 0) (pa_cons (pe_op op_pow pe_int pe_int) pa_nil))) pa_nil)))) pa_nil))))
      (pss_one (ps_ret (pe_op op_sub (pv 1) (pe_op op_mul (pe_op op_mul pe_int (pv 1)) (pe_call GD hr1 (by rfl) gD kD bD .nil pass0 (pa_cons (pv 0) (pa_cons pe_int pa_nil))))))), ?_⟩
    have big : ∀ c : Int, 0 < c → c ≤ 10 ^ 30 → c.natAbs < 2 ^ 8000 := fun c h1 h2 => Nat.lt_of_lt_of_le (show c.natAbs < 2 ^ 100 by omega) (Nat.pow_le_pow_right (by decide) (by decide))
    refine ⟨_, rfl, _, rfl, a, 7, rfl, S, by decide, big 7 (by decide) (by decide), fun H1 v1 B1 S1 a1 b1 => ?_⟩
    refine ⟨_, rfl, a, 300, rfl, S1, by decide, big 300 (by decide) (by decide), fun H2 v2 B2 S2 a2 b2 => ?_⟩
    refine ⟨_, rfl, 10, 30, rfl, rfl, ⟨by decide, by decide, by decide⟩, a, 10 ^ 30, rfl, S2, by decide, big _ (by decide) (by decide), fun H3 v3 B3 S3 a3 b3 => ?_⟩
    refine ⟨Nat.le_of_ble_eq_true rfl, fun c nc => ?_⟩
    refine ⟨a, c, _, rfl, S3.upd_new nc, S3.ne_new nc, SqL.of upd_same, by simp, by simp, fun H4 v B4 S4 hv => ?_⟩
    have k4 : Keep a H H4 := (((B1.keep.trans B2.keep).trans B3.keep).trans (Keep.of (same_new nc))).trans B4.keep
    obtain ⟨u, rfl, u0, u1⟩ : ∃ u : Int, v = .int u ∧ 0 ≤ u ∧ u < 10 ^ 30 := by
      simp only [List.mem_cons, List.not_mem_nil, or_false] at hv
      rcases hv with e | e | e
      · exact ⟨v1, e, a1, by omega⟩
      · exact ⟨v2, e, a2, by omega⟩
      · exact ⟨v3, e, a3, by omega⟩
    refine ⟨_, rfl, _, rfl, _, _, rfl, rfl, .inl ⟨by decide, by decide⟩, _, rfl, a, 2, rfl, S4, by decide, big 2 (by decide) (by decide), fun H5 z B5 S5 z0 z1 => ?_⟩
    refine ⟨_, _, rfl, rfl, .inr ⟨by omega, by omega⟩, _, _, rfl, rfl, q _ _ (k4.trans B5.keep) S5 ?_⟩
    rcases (show z = 0 ∨ z = 1 by omega) with rfl | rfl <;> omega
end
end Dw
namespace Dw
open PySem PySem.Spec PyProof.Rows L2
/-! ### data as _law_same compares it -/
def tyName : PyData → String
  | .none => "NoneType" | .bool _ => "bool" | .int _ => "int" | .str _ => "str" | .list _ => "list" | .tuple _ => "tuple" | .dict _ => "dict"
def isL : PyData → Bool | .list _ => true | _ => false
def isT : PyData → Bool | .tuple _ => true | _ => false
def isN : PyData → Bool | .none => true | _ => false
def isB : PyData → Bool | .bool _ => true | _ => false
def isI : PyData → Bool | .int _ => true | .bool _ => true | _ => false
def isM : PyData → Bool | .dict _ => true | _ => false
def isS : PyData → Bool | .str _ => true | _ => false
theorem kitL (d : PyData) : kitB (tyName d) "list" = some (isL d) := by
  cases d <;> (dsimp only [tyName, isL]; decide +kernel)
theorem kitT (d : PyData) : kitB (tyName d) "tuple" = some (isT d) := by
  cases d <;> (dsimp only [tyName, isT]; decide +kernel)
theorem kitBo (d : PyData) : kitB (tyName d) "bool" = some (isB d) := by
  cases d <;> (dsimp only [tyName, isB]; decide +kernel)
theorem kitI (d : PyData) : kitB (tyName d) "int" = some (isI d) := by
  cases d <;> (dsimp only [tyName, isI]; decide +kernel)
theorem kitM (d : PyData) : kitB (tyName d) "dict" = some (isM d) := by
  cases d <;> (dsimp only [tyName, isM]; decide +kernel)
theorem kitS (d : PyData) : kitB (tyName d) "str" = some (isS d) := by
  cases d <;> (dsimp only [tyName, isS]; decide +kernel)
def sameS : PyData → PyData → Bool
  | .none, .none => true
  | .bool a, .bool b => a == b
  | .int a, .int b => a == b
  | .str a, .str b => a == b
  | _, _ => false
def sameD : Nat → PyData → PyData → Bool
  | 0, d, e => sameS d e
  | n + 1, .list ds, .list es => decide (ds.length = es.length) && (List.zipWith (sameD n) ds es).all id
  | n + 1, .tuple ds, .tuple es => decide (ds.length = es.length) && (List.zipWith (sameD n) ds es).all id
  | _ + 1, d, e => sameS d e
/-- at most n deep, no list in it longer than a thousand, no dict -/
def fits : Nat → PyData → Prop
  | 0, d => isL d = false ∧ isT d = false ∧ isM d = false
  | n + 1, .list ds => ds.length ≤ 1000 ∧ ∀ x ∈ ds, fits n x
  | n + 1, .tuple ds => ds.length ≤ 1000 ∧ ∀ x ∈ ds, fits n x
  | _ + 1, d => isM d = false
theorem SqT.same {K : PySem.W.Frag} {H H' : Hp} {a : Addr} {xs : List V} (e : Same H H') (h : SqT K H a xs) : SqT K H' a xs := by
  rcases h with (h | ⟨o, h⟩) | h
  · exact .inl (.inl (e _ _ h))
  · exact .inl (.inr ⟨o, e _ _ h⟩)
  · exact .inr h
mutual
theorem dp_same {K : PySem.W.Frag} {H H' : Hp} (e : Same H H') : ∀ {d : PyData} {v : V}, Dp K H v d → Dp K H' v d
  | .none, _, h => by cases h; exact .non
  | .bool b, _, h => by cases h; exact .bl b
  | .int i, _, h => by cases h; exact .int i
  | .str x, _, h => by cases h; exact .str x
  | .list ds, _, h => by
    cases h with
    | lst hs ha => exact .lst (e.seq hs) (dps_same e ha)
  | .tuple ds, _, h => by
    cases h with
    | tup hs ha => exact .tup (SqT.same e hs) (dps_same e ha)
  | .dict _, _, h => by cases h
theorem dps_same {K : PySem.W.Frag} {H H' : Hp} (e : Same H H') : ∀ {ds : List PyData} {vs : List V}, DpAll K H vs ds → DpAll K H' vs ds
  | [], _, h => by cases h; exact .nil
  | d :: ds, _, h => by
    cases h with
    | cons h1 h2 => exact .cons (dp_same e h1) (dps_same e h2)
end
theorem dps_len {K : PySem.W.Frag} {H : Hp} : ∀ {ds : List PyData} {vs : List V}, DpAll K H vs ds → vs.length = ds.length
  | [], _, h => by cases h; rfl
  | d :: ds, _, h => by
    cases h with
    | cons h1 h2 => exact congrArg Nat.succ (dps_len h2)
theorem dps_get {K : PySem.W.Frag} {H : Hp} : ∀ {ds : List PyData} {vs : List V} {i : Nat} {v : V}, DpAll K H vs ds → vs[i]? = some v → ∃ d, ds[i]? = some d ∧ Dp K H v d
  | [], _, i, v, h, e => by cases h; simp at e
  | d :: ds, _, 0, v, h, e => by
    cases h with
    | cons h1 h2 =>
      have e' := Option.some.inj e
      subst e'
      exact ⟨d, rfl, h1⟩
  | d :: ds, _, i + 1, v, h, e => by
    cases h with
    | cons h1 h2 => exact dps_get (i := i) h2 (by simpa using e)
theorem dp_ty {K : PySem.W.Frag} {H : Hp} {v : V} {d : PyData} (h : Dp K H v d) : TyX K H v (.type (tyName d)) := by
  cases h with
  | non => exact .base .non
  | bl b => exact .base (.bl b)
  | int i => exact .base (.int i)
  | str x => exact .base (.str x)
  | lst hs ha =>
    rcases hs with (h | ⟨o, h⟩) | ⟨o, its, n, h1, h2, _⟩
    · exact .base (.lst h)
    · exact .base (.frz h)
    · exact .kList h1 h2
  | tup hs ha =>
    rcases hs with (h | ⟨o, h⟩) | ⟨o, its, n, h1, h2, _⟩
    · exact .base (.tup h)
    · exact .fTuple h
    · exact .kTuple h1 h2
theorem dp_non {K : PySem.W.Frag} {H : Hp} {v : V} {d : PyData} (h : Dp K H v d) : decide (v = .non) = isN d := by
  cases h with
  | non => exact decide_eq_true rfl
  | _ => exact decide_eq_false fun z => nomatch z
/-- a comprehension over pairs: J yields a new pair each turn -/
theorem lc_pairs {J : It} {xs ys : List V} {g : TG} {tt : TT} {te : TE} {vs : List Nat} {σ : L2.St} {H1 : Hp} {D : Addr} {Qd : Hp → Prop} (hl : xs.length = ys.length) (Pv : Nat → Hp → Prop) (h0 : Pv 0 (upd H1 D (.lst [])))
    (go : ∀ i H, Pv i H → i < xs.length → J.go i H) (stop : ∀ H, Pv xs.length H → J.stop xs.length H)
    (yl : ∀ i H v H', Pv i H → J.yld i H v H' → ∃ T x y, v = .ref T ∧ H T = none ∧ H' = upd H T (.tup [x, y]) ∧ xs[i]? = some x ∧ ys[i]? = some y)
    (hs : ∀ (i : Nat) (x y : V) (T : Addr) (H : Hp), xs[i]? = some x → ys[i]? = some y → Pv i H → H T = none → g (.ref T) (wipe σ vs) (upd H T (.tup [x, y])) fun σ2 H2 => wipe σ2 vs = wipe σ vs ∧ tt σ2 H2 fun b H3 =>
      if b = true then te σ2 H3 fun y H4 => ∃ acc, H4 D = some (.lst acc) ∧ acc.length < sizeLine ∧ Pv (i + 1) (upd H4 D (.lst (acc ++ [y]))) else Pv (i + 1) H3) (hd : ∀ H, Pv xs.length H → Qd H) :
    ∃ W : Nat → Nat → Hp → Prop, (∃ m, W 0 m (upd H1 D (.lst []))) ∧ ∀ i m H, W i m H →
      (J.stop i H ∧ Qd H) ∨ (J.go i H ∧ ∃ Nx : Hp → Prop, (∀ H', Nx H' → ∃ m', m' < m ∧ W (i + 1) m' H') ∧ ∀ x H', J.yld i H x H' → g x (wipe σ vs) H' fun σ2 H2 => wipe σ2 vs = wipe σ vs ∧ tt σ2 H2 fun b H3 =>
        if b = true then te σ2 H3 fun y H4 => ∃ acc, H4 D = some (.lst acc) ∧ acc.length < sizeLine ∧ Nx (upd H4 D (.lst (acc ++ [y]))) else Nx H3) := by
  refine ⟨fun i m H => m + i = xs.length ∧ Pv i H, ⟨xs.length, rfl, h0⟩, ?_⟩
  rintro i m H ⟨hm, p⟩
  by_cases lt : i < xs.length
  · refine .inr ⟨go i H p lt, Pv (i + 1), fun H' p' => ⟨m - 1, by omega, by omega, p'⟩, fun v H' y => ?_⟩
    obtain ⟨T, a, b, rfl, nT, rfl, ex, ey⟩ := yl i H v H' p y
    exact hs i a b T H ex ey p nT
  · obtain rfl : i = xs.length := by omega
    exact .inl ⟨stop H p, hd H p⟩
abbrev sSame : Stmt := topS 11
abbrev nSame : List Str := ["_law_found", "_law_expected", "_law_x", "_law_y"]
theorem scSame : FnScope nSame ["_law_found", "_law_expected"] (defScope sSame) := ⟨rfl, rfl, rfl, by decide +kernel, rfl, by decide +kernel, by decide +kernel⟩
structure BltS (mg : Str → Option Value) : Prop where
  isi : mg "isinstance" = none
  lst : mg "list" = none
  tup : mg "tuple" = none
  len : mg "len" = none
  all : mg "all" = none
  zip : mg "zip" = none
  bl : mg "bool" = none
  int : mg "int" = none
  dict : mg "dict" = none
  str : mg "str" = none
section
variable {P : Program} {w : World} {K : PySem.W.Frag} {mg : Str → Option Value} {base : Heap}
def spSame (K : PySem.W.Frag) (n : Nat) : Sp := fun vs H Q _ => ∃ (x y : V) (d e : PyData), vs = [x, y] ∧ Dp K H x d ∧ Dp K H y e ∧ fits n e ∧ ∀ H', Same H H' → Q (.bl (sameD n d e)) H'
def spPrev (K : PySem.W.Frag) : Nat → Sp
  | 0 => fun _ _ _ _ => False
  | n + 1 => spSame K n
theorem kitLT {K : PySem.W.Frag} (d : PyData) : PySem.W.kitAny K (.type (tyName d)) [.type "list", .type "tuple"] = some (isL d || isT d) := by
  refine kitAny_cons (kit_ty (kitL d)) (fun h => kitAny_cons (kit_ty (kitT d)) (fun h2 => ?_) (fun h2 => ?_)) (fun h => ?_)
  · rw [h, h2]
    exact kitAny_nil
  · rw [h2, Bool.or_true]
  · rw [h, Bool.true_or]
theorem same_tags {n : Nat} {d e : PyData} (h : sameD n d e = true) : isL d = isL e ∧ isT d = isT e ∧ isN d = isN e ∧ isB d = isB e ∧ isI d = isI e ∧ isM d = isM e ∧ isS d = isS e := by
  cases n <;> cases d <;> cases e <;> first | exact ⟨rfl, rfl, rfl, rfl, rfl, rfl, rfl⟩ | (exact absurd h (by simp [sameD, sameS]))
theorem same_scal {n : Nat} {d e : PyData} (nL : isL e = false) (nT : isT e = false) : sameD n d e = sameS d e := by
  cases n <;> cases e <;> first | rfl | (cases d <;> rfl) | exact Bool.noConfusion (show true = false from nL) | exact Bool.noConfusion (show true = false from nT)
theorem tag_ne {n : Nat} {d e : PyData} {a b : Bool} (hp : sameD n d e = true → a = b) (c : (!decide (V.bl a = V.bl b)) = true) : sameD n d e = false := by
  cases z : sameD n d e with
  | false => rfl
  | true =>
    rw [hp z, decide_eq_true rfl] at c
    cases c
theorem tag_eq {a b : Bool} (c : ¬ (!decide (V.bl a = V.bl b)) = true) : a = b := by
  cases a <;> cases b <;> first | rfl | exact absurd rfl c
theorem zip_get {α β γ : Type} {f : α → β → γ} {as : List α} {bs : List β} {i : Nat} {a : α} {b : β} (h1 : as[i]? = some a) (h2 : bs[i]? = some b) : (List.zipWith f as bs)[i]? = some (f a b) := by
  rw [List.getElem?_zipWith, h1, h2]
theorem same_turns {J : It} {n : Nat} {xs ys : List V} {ds es : List PyData} {H H1 : Hp} {D : Addr} {Qd : Hp → Prop} {σ : L2.St} (h1 : Same H H1) (hx : DpAll K H xs ds) (hy : DpAll K H ys es) (hl : ds.length = es.length) (sh : ds.length ≤ 1000) (fit : ∀ e ∈ es, fits n e) (nD : H1 D = none)
    (sσ : σ.length = 4)
    (go : ∀ i H', Same H1 H' → i < xs.length → J.go i H') (stop : ∀ H', Same H1 H' → J.stop xs.length H')
    (yl : ∀ i H' v H'', Same H1 H' → J.yld i H' v H'' → ∃ T x y, v = .ref T ∧ H' T = none ∧ H'' = upd H' T (.tup [x, y]) ∧ xs[i]? = some x ∧ ys[i]? = some y)
    (hd : ∀ H', Same H1 H' → H' D = some (.lst ((List.zipWith (sameD n) ds es).map V.bl)) → Qd H') :
    ∃ W : Nat → Nat → Hp → Prop, (∃ m, W 0 m (upd H1 D (.lst []))) ∧ ∀ i m H, W i m H →
      (J.stop i H ∧ Qd H) ∨ (J.go i H ∧ ∃ Nx : Hp → Prop, (∀ H', Nx H' → ∃ m', m' < m ∧ W (i + 1) m' H') ∧ ∀ x H', J.yld i H x H' → gTup K 2 (gCons (gName 2) (gCons (gName 3) gNil)) x (wipe σ [2, 3]) H' fun σ2 H2 => wipe σ2 [2, 3] = wipe σ [2, 3] ∧ tYes σ2 H2 fun b H3 =>
        if b = true then tCall (spSame K n) [] E0 (tCons (tVar 2) (tCons (tVar 3) tNil)) σ2 H3 fun y H4 => ∃ acc, H4 D = some (.lst acc) ∧ acc.length < sizeLine ∧ Nx (upd H4 D (.lst (acc ++ [y]))) else Nx H3) := by
  have lx := dps_len hx
  have ly := dps_len hy
  obtain ⟨s0, s1, s2, s3, rfl⟩ : ∃ s0 s1 s2 s3, σ = [s0, s1, s2, s3] := by
    match σ, sσ with
    | [a, b, c, d], _ => exact ⟨a, b, c, d, rfl⟩
  refine lc_pairs (xs := xs) (ys := ys) (by omega) (fun i H' => Same H1 H' ∧ H' D = some (.lst (((List.zipWith (sameD n) ds es).take i).map V.bl))) ⟨same_new nD, upd_same⟩ (fun i H' p => go i H' p.1) (fun H' p => stop H' p.1) (fun i H' v H'' p y => yl i H' v H'' p.1 y) ?_ ?_
  · rintro i x y T H' ex ey ⟨sm, eD⟩ nT
    have sT : Same H' (upd H' T (.tup [x, y])) := same_new nT
    have sA : Same H (upd H' T (.tup [x, y])) := (h1.trans sm).trans sT
    obtain ⟨d, ed, dd⟩ := dps_get hx ex
    obtain ⟨e, ee, de⟩ := dps_get hy ey
    refine ⟨T, [x, y], rfl, SqT.of upd_same, rfl, x, [y], rfl, y, [], rfl, rfl, rfl, ?_⟩
    refine ⟨x, rfl, y, rfl, x, y, d, e, rfl, dp_same sA dd, dp_same sA de, fit e (List.mem_of_getElem? ee), fun H4 s4 => ?_⟩
    have zg : (List.zipWith (sameD n) ds es)[i]? = some (sameD n d e) := zip_get ed ee
    refine ⟨_, s4 _ _ (sT _ _ eD), ?_, same_upd ((sm.trans sT).trans s4) nD, ?_⟩
    · rw [List.length_map, List.length_take, List.length_zipWith]
      exact small1000 (by omega)
    · rw [upd_same, List.take_add_one, zg, List.map_append]
      rfl
  · rintro H' ⟨sm, eD⟩
    rw [List.take_of_length_le (by rw [List.length_zipWith]; omega)] at eD
    exact hd H' sm eD
theorem same_step {f : Addr} {fd : FuncData} {n : Nat} (F : Fun K "_law_same" "_law_same" sSame f fd) (g : mg "_law_same" = some (.ref f)) (bn : L2.Binds K fd ["_law_found", "_law_expected"] []) (B : BltS mg)
    (ih : FnOk P w K mg base CX0 (n + 1) f fd ["_law_found", "_law_expected"] (spPrev K n)) : FnOk P w K mg base CX0 (n + 2) f fd ["_law_found", "_law_expected"] (spSame K n) := by
  refine F.ok scSame (fun vs H Q E h => ?_) (fun cdv A outer s H vs Q E hr h => ?_)
  · obtain ⟨x, y, d, e, rfl, _⟩ := h
    rfl
  · obtain ⟨x, y, d, e, rfl, hd, he, hf, q⟩ := h
    refine ⟨_, pss_cons (ps_if (pt_val (pe_callB call_isiT (by rfl) B.isi (by decide +kernel) (pa_cons (pv 1) (pa_cons (pe_tup (pa_cons (pe_bltn (v := .ty "list") (by rfl) B.lst (by decide +kernel) rfl) (pa_cons (pe_bltn (v := .ty "tuple") (by rfl) B.tup (by decide +kernel) rfl) pa_nil))) pa_nil))))
        (pss_cons (ps_if (PW.pt (pw_or (pt_cmpR op_ne (pe_callB call_isi (by rfl) B.isi (by decide +kernel) (pa_cons (pv 0) (pa_cons (pe_bltn (v := .ty "list") (by rfl) B.lst (by decide +kernel) rfl) pa_nil)))
              (pe_callB call_isi (by rfl) B.isi (by decide +kernel) (pa_cons (pv 1) (pa_cons (pe_bltn (v := .ty "list") (by rfl) B.lst (by decide +kernel) rfl) pa_nil))) (nomark _))
            (pw_or1 (pt_cmpR op_ne (pe_callB call_isi (by rfl) B.isi (by decide +kernel) (pa_cons (pv 0) (pa_cons (pe_bltn (v := .ty "tuple") (by rfl) B.tup (by decide +kernel) rfl) pa_nil)))
              (pe_callB call_isi (by rfl) B.isi (by decide +kernel) (pa_cons (pv 1) (pa_cons (pe_bltn (v := .ty "tuple") (by rfl) B.tup (by decide +kernel) rfl) pa_nil))) (nomark _)))))
            (pss_one (ps_ret pe_bl)) pss_nil)
          (pss_one (ps_ret (pe_and (pe_cmpR op_eq (pe_callB call_len_seq (by rfl) B.len PySem.boot_len (pa_cons (pv 0) pa_nil)) (pe_callB call_len_seq (by rfl) B.len PySem.boot_len (pa_cons (pv 1) pa_nil)) (nomark _))
            (pe_one (pe_callB (cr_all rfl) (by rfl) B.all (by decide +kernel) (pa_cons (pe_lc (own := [("_law_x", 2), ("_law_y", 3)]) (g := gTup K 2 (gCons (gName 2) (gCons (gName 3) gNil))) (tt := tYes) (te := tCall (spPrev K n) [] E0 (tCons (tVar 2) (tCons (tVar 3) tNil))) rfl scSame.nd
                (RZ.pi_zipA (by rfl) B.zip (pa_cons (pv 0) (pa_cons (pv 1) pa_nil))) (blkOk_by (N := nSame) (sc := defScope sSame) (by decide +kernel))
                (fun _ _ _ _ _ => pg_tup rfl (pgs_cons (pg_name (i := 2) scSame.nd rfl (Or.inl rfl)) (pgs_cons (pg_name (i := 3) scSame.nd rfl (Or.inl rfl)) pgs_nil))) (fun _ _ _ _ _ => pts_nil)
                (fun _ _ _ _ _ => pe_call ih hr (by rfl) g F.kp bn .nil pass0 (pa_cons (pv 2) (pa_cons (pv 3) pa_nil)))) pa_nil)))))))
        pss_nil)
      (pss_cons (ps_if (PW.pt (pw_or (pt_cmpR op_ne (pe_cmp (pc_isN (pv 0))) (pe_cmp (pc_isN (pv 1))) (nomark _))
            (pw_or1 (pt_cmpR op_ne (pe_callB call_isi (by rfl) B.isi (by decide +kernel) (pa_cons (pv 0) (pa_cons (pe_bltn (v := .ty "bool") (by rfl) B.bl (by decide +kernel) rfl) pa_nil)))
              (pe_callB call_isi (by rfl) B.isi (by decide +kernel) (pa_cons (pv 1) (pa_cons (pe_bltn (v := .ty "bool") (by rfl) B.bl (by decide +kernel) rfl) pa_nil))) (nomark _)))))
            (pss_one (ps_ret pe_bl)) pss_nil)
      (pss_cons (ps_if (PW.pt (pw_or (pt_cmpR op_ne (pe_callB call_isi (by rfl) B.isi (by decide +kernel) (pa_cons (pv 0) (pa_cons (pe_bltn (v := .ty "int") (by rfl) B.int (by decide +kernel) rfl) pa_nil)))
              (pe_callB call_isi (by rfl) B.isi (by decide +kernel) (pa_cons (pv 1) (pa_cons (pe_bltn (v := .ty "int") (by rfl) B.int (by decide +kernel) rfl) pa_nil))) (nomark _))
            (pw_or1 (pt_cmpR op_ne (pe_callB call_isi (by rfl) B.isi (by decide +kernel) (pa_cons (pv 0) (pa_cons (pe_bltn (v := .ty "dict") (by rfl) B.dict (by decide +kernel) rfl) pa_nil)))
              (pe_callB call_isi (by rfl) B.isi (by decide +kernel) (pa_cons (pv 1) (pa_cons (pe_bltn (v := .ty "dict") (by rfl) B.dict (by decide +kernel) rfl) pa_nil))) (nomark _)))))
            (pss_one (ps_ret pe_bl)) pss_nil)
      (pss_one (ps_ret (pe_and (pe_cmpR op_eq (pe_callB call_isi (by rfl) B.isi (by decide +kernel) (pa_cons (pv 0) (pa_cons (pe_bltn (v := .ty "str") (by rfl) B.str (by decide +kernel) rfl) pa_nil)))
              (pe_callB call_isi (by rfl) B.isi (by decide +kernel) (pa_cons (pv 1) (pa_cons (pe_bltn (v := .ty "str") (by rfl) B.str (by decide +kernel) rfl) pa_nil))) (nomark _))
            (pe_one (pe_cmpR op_eq (pv 0) (pv 1) (nomark _)))))))), ?_⟩
    refine ⟨y, rfl, Nat.le_of_ble_eq_true rfl, fun tp ntp => ?_⟩
    have s1 : Same H (upd H tp (.tup [.ty "list", .ty "tuple"])) := same_new ntp
    have tpe : (upd H tp (.tup [.ty "list", .ty "tuple"])) tp = some (.tup [.ty "list", .ty "tuple"]) := upd_same
    generalize (upd H tp (.tup [.ty "list", .ty "tuple"])) = H1 at s1 tpe
    have hd1 := dp_same s1 hd
    have he1 := dp_same s1 he
    have tags := @same_tags n d e
    refine ⟨y, tp, _, _, _, isL e || isT e, rfl, tpe, .cons (.ty "list") (.cons (.ty "tuple") .nil), dp_ty he1, kitLT e, _, rfl, ite2 (fun c => ?_) (fun c => ?_)⟩
    · refine ⟨x, rfl, _, _, _, _, isL d, rfl, .ty "list", dp_ty hd1, kit_ty (kitL d), y, rfl, _, _, _, _, isL e, rfl, .ty "list", dp_ty he1, kit_ty (kitL e), rfl, _, rfl, ite2 (fun c1 => ?_) (fun c1 => ?_)⟩
      · have z := q _ s1
        rw [tag_ne (fun t => (tags t).1) c1] at z
        exact z
      · refine ⟨x, rfl, _, _, _, _, isT d, rfl, .ty "tuple", dp_ty hd1, kit_ty (kitT d), y, rfl, _, _, _, _, isT e, rfl, .ty "tuple", dp_ty he1, kit_ty (kitT e), rfl, _, rfl, ite2 (fun c2 => ?_) (fun c2 => ?_)⟩
        · have z := q _ s1
          rw [tag_ne (fun t => (tags t).2.1) c2] at z
          exact z
        · have eL := tag_eq c1
          have eT := tag_eq c2
          cases he1 with
          | @lst b ys es hb hes =>
            cases hd1 with
            | @lst a xs ds ha hds =>
              cases n with
              | zero => exact absurd hf.1 (by simp [isL])
              | succ m =>
                obtain ⟨f1, f2⟩ := hf
                have lx := dps_len hds
                have ly := dps_len hes
                refine ⟨_, rfl, a, xs, rfl, .inl ha, _, rfl, b, ys, rfl, .inl hb, rfl, _, rfl, ite2 (fun c3 => ?_) (fun c3 => ?_)⟩
                · have l3 : ds.length = es.length := by
                    have := V.int.inj (of_decide_eq_true c3)
                    omega
                  refine ⟨_, rfl, _, rfl, a, b, xs, ys, rfl, .inl ⟨ha, hb, fun D nD => same_turns (Same.refl H1) hds hes l3 (by omega) f2 nD rfl (fun i H' sm lt => ⟨xs, ys, xs[i], ys[i]'(by omega), sm.seq ha, sm.seq hb, List.getElem?_eq_getElem lt, List.getElem?_eq_getElem (by omega)⟩)
                    (fun H' sm => ⟨xs, ys, sm.seq ha, sm.seq hb, .inl (Nat.le_refl _)⟩) (fun i H' v H'' sm y => ?_) (fun H' sm eD => ?_)⟩⟩
                  · obtain ⟨T, x', y', e1, e2, e3, g1, g2⟩ := y
                    exact ⟨T, x', y', e1, e2, e3, g1 _ (sm.seq ha), g2 _ (sm.seq hb)⟩
                  · refine ⟨D, _, rfl, SqL.of eD, ?_⟩
                    have z := q _ (s1.trans sm)
                    have e4 : sameD (m + 1) (.list ds) (.list es) = (List.zipWith (sameD m) ds es).all id := by
                      show (decide (ds.length = es.length) && _) = _
                      rw [decide_eq_true l3, Bool.true_and]
                    rw [e4] at z
                    exact z
                · have z := q _ s1
                  have e4 : sameD (m + 1) (.list ds) (.list es) = false := by
                    show (decide (ds.length = es.length) && _) = false
                    rw [decide_eq_false (fun l3 => c3 (decide_eq_true (by rw [lx, ly, l3]))), Bool.false_and]
                  rw [e4] at z
                  exact z
            | _ => exact absurd eL (by simp [isL])
          | @tup b ys es hb hes =>
            cases hd1 with
            | @tup a xs ds ha hds =>
              cases n with
              | zero => exact absurd hf.2.1 (by simp [isT])
              | succ m =>
                obtain ⟨f1, f2⟩ := hf
                have lx := dps_len hds
                have ly := dps_len hes
                refine ⟨_, rfl, a, xs, rfl, .inr ha, _, rfl, b, ys, rfl, .inr hb, rfl, _, rfl, ite2 (fun c3 => ?_) (fun c3 => ?_)⟩
                · have l3 : ds.length = es.length := by
                    have := V.int.inj (of_decide_eq_true c3)
                    omega
                  refine ⟨_, rfl, _, rfl, a, b, xs, ys, rfl, .inr ⟨ha, hb, fun D nD => same_turns (Same.refl H1) hds hes l3 (by omega) f2 nD rfl (fun i H' sm lt => ⟨xs, ys, xs[i], ys[i]'(by omega), SqT.same sm ha, SqT.same sm hb, List.getElem?_eq_getElem lt, List.getElem?_eq_getElem (by omega)⟩)
                    (fun H' sm => ⟨xs, ys, SqT.same sm ha, SqT.same sm hb, .inl (Nat.le_refl _)⟩) (fun i H' v H'' sm y => ?_) (fun H' sm eD => ?_)⟩⟩
                  · obtain ⟨T, x', y', e1, e2, e3, g1, g2⟩ := y
                    exact ⟨T, x', y', e1, e2, e3, g1 _ (SqT.same sm ha), g2 _ (SqT.same sm hb)⟩
                  · refine ⟨D, _, rfl, SqL.of eD, ?_⟩
                    have z := q _ (s1.trans sm)
                    have e4 : sameD (m + 1) (.tuple ds) (.tuple es) = (List.zipWith (sameD m) ds es).all id := by
                      show (decide (ds.length = es.length) && _) = _
                      rw [decide_eq_true l3, Bool.true_and]
                    rw [e4] at z
                    exact z
                · have z := q _ s1
                  have e4 : sameD (m + 1) (.tuple ds) (.tuple es) = false := by
                    show (decide (ds.length = es.length) && _) = false
                    rw [decide_eq_false (fun l3 => c3 (decide_eq_true (by rw [lx, ly, l3]))), Bool.false_and]
                  rw [e4] at z
                  exact z
            | _ => exact absurd eT (by simp [isT])
          | _ => exact absurd c (by simp [isL, isT])
    · have nL : isL e = false := by
        cases z : isL e with
        | false => rfl
        | true => exact absurd (by rw [z, Bool.true_or]) c
      have nT : isT e = false := by
        cases z : isT e with
        | false => rfl
        | true => exact absurd (by rw [z, Bool.or_true]) c
      refine ⟨x, rfl, y, rfl, rfl, _, rfl, ite2 (fun c1 => ?_) (fun c1 => ?_)⟩
      · rw [dp_non hd1, dp_non he1] at c1
        have z := q _ s1
        rw [tag_ne (fun t => (tags t).2.2.1) c1] at z
        exact z
      rw [dp_non hd1, dp_non he1] at c1
      refine ⟨x, rfl, _, _, _, _, isB d, rfl, .ty "bool", dp_ty hd1, kit_ty (kitBo d), y, rfl, _, _, _, _, isB e, rfl, .ty "bool", dp_ty he1, kit_ty (kitBo e), rfl, _, rfl, ite2 (fun c2 => ?_) (fun c2 => ?_)⟩
      · have z := q _ s1
        rw [tag_ne (fun t => (tags t).2.2.2.1) c2] at z
        exact z
      refine ⟨x, rfl, _, _, _, _, isI d, rfl, .ty "int", dp_ty hd1, kit_ty (kitI d), y, rfl, _, _, _, _, isI e, rfl, .ty "int", dp_ty he1, kit_ty (kitI e), rfl, _, rfl, ite2 (fun c3 => ?_) (fun c3 => ?_)⟩
      · have z := q _ s1
        rw [tag_ne (fun t => (tags t).2.2.2.2.1) c3] at z
        exact z
      refine ⟨x, rfl, _, _, _, _, isM d, rfl, .ty "dict", dp_ty hd1, kit_ty (kitM d), y, rfl, _, _, _, _, isM e, rfl, .ty "dict", dp_ty he1, kit_ty (kitM e), rfl, _, rfl, ite2 (fun c4 => ?_) (fun c4 => ?_)⟩
      · have z := q _ s1
        rw [tag_ne (fun t => (tags t).2.2.2.2.2.1) c4] at z
        exact z
      refine ⟨x, rfl, _, _, _, _, isS d, rfl, .ty "str", dp_ty hd1, kit_ty (kitS d), y, rfl, _, _, _, _, isS e, rfl, .ty "str", dp_ty he1, kit_ty (kitS e), rfl, _, rfl, ite2 (fun c5 => ?_) (fun c5 => ?_)⟩
      · have eN := tag_eq c1
        have eB := tag_eq c2
        have eI := tag_eq c3
        have eS : isS d = isS e := V.bl.inj (of_decide_eq_true c5)
        have z := q _ s1
        have e0 : sameD n d e = sameS d e := same_scal nL nT
        rw [e0] at z
        cases he1 with
        | non =>
          cases hd1 with
          | non => exact ⟨_, rfl, _, rfl, rfl, z⟩
          | _ => exact absurd eN (by simp [isN])
        | bl b =>
          cases hd1 with
          | bl a => exact ⟨_, rfl, _, rfl, rfl, by rw [dec_bl]; exact z⟩
          | _ => exact absurd eB (by simp [isB])
        | int b =>
          cases hd1 with
          | int a => exact ⟨_, rfl, _, rfl, rfl, by rw [dec_int]; exact z⟩
          | bl a => exact absurd eB (by simp [isB])
          | _ => exact absurd eI (by simp [isI])
        | str b =>
          cases hd1 with
          | str a => exact ⟨_, rfl, _, rfl, rfl, by rw [dec_str]; exact z⟩
          | _ => exact absurd eS (by simp [isS])
        | lst _ _ => exact absurd nL (by simp [isL])
        | tup _ _ => exact absurd nT (by simp [isT])
      · have z := q _ s1
        have c5' : (!decide (V.bl (isS d) = V.bl (isS e))) = true := by
          cases zz : decide (V.bl (isS d) = V.bl (isS e)) with
          | false => rfl
          | true => exact absurd zz c5
        rw [tag_ne (fun t => (tags t).2.2.2.2.2.2) c5'] at z
        exact z
theorem ok_same {f : Addr} {fd : FuncData} (F : Fun K "_law_same" "_law_same" sSame f fd) (g : mg "_law_same" = some (.ref f)) (bn : L2.Binds K fd ["_law_found", "_law_expected"] []) (B : BltS mg) :
    ∀ n, FnOk P w K mg base CX0 (n + 2) f fd ["_law_found", "_law_expected"] (spSame K n)
  | 0 => same_step F g bn B ⟨fun _ _ _ _ h => h.elim, fun _ _ _ _ _ _ _ _ _ _ _ _ _ h => h.elim⟩
  | n + 1 => same_step F g bn B (ok_same F g bn B n)
end
end Dw
namespace Dw
open PySem PySem.Spec PyProof.Rows L2 LamX
/-! ### _law_outcome -/
abbrev sOut : Stmt := topS 12
abbrev nOut : List Str := ["_law_call", "_law_result", "_law_code", "e"]
theorem scOut : FnScope nOut ["_law_call"] (defScope sOut) := ⟨rfl, rfl, rfl, by decide +kernel, rfl, by decide +kernel, by decide +kernel⟩
/-- what is wanted of an error that the call lets out: one of ours, with a code -/
def EOut (K : PySem.W.Frag) (CQ CN : Addr) (Q : VK) : XK := fun cls d H => ∃ (C dd : Addr) (fs : List (Str × V)) (code : V), cls = .ref C ∧ d = some dd ∧ H dd = some (.xd fs) ∧ fs.lookup ("code" : Str) = some code ∧ XfC K C ∧ PySem.W.findIn K (.ref C) "code" = some none ∧
  (PySem.W.exmOne K (.ref C) (.ref CQ) = some true ∨ (PySem.W.exmOne K (.ref C) (.ref CQ) = some false ∧ PySem.W.exmOne K (.ref C) (.ref CN) = some true)) ∧ ∀ p, H p = none → Q (.ref p) (upd H p (.tup [.non, code]))
def TOut (K : PySem.W.Frag) (CQ CN : Addr) : (XK → Hp → VK → Prop) → Hp → VK → Prop := fun tl H Q => tl (EOut K CQ CN Q) H (fun v H' => ∀ p, H' p = none → Q (.ref p) (upd H' p (.tup [v, .str ""])))
theorem out_gives {X : Cx} {g CQ CN : Addr} {cdg : Value} {q : Str} (gQ : X.mg "QueryError" = some (.ref CQ)) (gN : X.mg "NotFound" = some (.ref CN)) :
    GivesS X nOut "_law_outcome" (defScope sOut) g cdg (defBody sOut) "_law_call" q (TOut X.K CQ CN) := by
  intro f c s H Q tl act hc h
  refine ⟨_, pss_cons (ps_set (i := 1) scOut.nd rfl (.inl rfl) pe_non) (pss_cons (ps_set (i := 2) scOut.nd rfl (.inl rfl) pe_str)
    (pss_cons (ps_try_all (i := 3) (n := "e")
        (tb := fun W D σ H => ∃ (E : XK) (Q0 : VK), (∀ cls d H', E cls d H' → W cls d σ H') ∧ (∀ v H', Q0 v H' → D.nx (σ.set 1 (some v)) H') ∧ σ[0]? = some (some (.ref f)) ∧ H c = some (CodeO c q) ∧ tl E H Q0)
        (out := fun _ _ _ _ => False) rfl rfl scOut.nd rfl rfl L2.takes0 (fun W pn xe tk _ => ?_)
        (.one (c := .ref CQ) ⟨by rfl, by decide, .inl gQ⟩ (fun a oe cls d pn hz hf => pss_one (ps_set (i := 2) scOut.nd rfl (.inl rfl) (pe_xfE hz hf (pv 3))))
        (.one (c := .ref CN) ⟨by rfl, by decide, .inl gN⟩ (fun a oe cls d pn hz hf => pss_one (ps_set (i := 2) scOut.nd rfl (.inl rfl) (pe_xfE hz hf (pv 3)))) .none)))
    (pss_one (ps_ret (pe_tup (pa_cons (pv 1) (pa_cons (pv 2) pa_nil))))))), ?_⟩
  · refine ⟨fun pins s' σ H' D J rd => ?_⟩
    obtain ⟨E, Q0, w1, w2, h1, h2, h3⟩ := rd
    exact (pss_one (ps_set (i := 1) scOut.nd rfl (.inl rfl) (pe_mono (act W pn xe E σ _ _ tk w1)))).run pins s' σ H' D J ⟨Q0, w2, rfl, h1, h2, h3⟩
  · refine ⟨_, _, fun cls d H' e => ?_, fun v H' z => ⟨_, rfl, _, rfl, Nat.le_of_ble_eq_true rfl, fun p np => z p np⟩, rfl, hc, h⟩
    obtain ⟨C, dd, fs, code, rfl, rfl, e3, e4, xf, nf, hm, z⟩ := e
    rcases hm with m1 | ⟨m1, m2⟩
    · refine ⟨true, m1, fun _ a na => ?_, fun y => Bool.noConfusion y⟩
      exact ⟨C, xf, nf, _, rfl, rfl, rfl, dd, fs, code, rfl, e3, e4, _, rfl, _, rfl, Nat.le_of_ble_eq_true rfl, fun p np => z p np⟩
    · refine ⟨false, m1, fun y => Bool.noConfusion y, fun _ => ⟨true, m2, fun _ a na => ?_, fun y => Bool.noConfusion y⟩⟩
      exact ⟨C, xf, nf, _, rfl, rfl, rfl, dd, fs, code, rfl, e3, e4, _, rfl, _, rfl, Nat.le_of_ble_eq_true rfl, fun p np => z p np⟩
end Dw
namespace Dw
open PySem PySem.Spec PyProof.Rows L2 LamX
abbrev sLaw : Stmt := topS 16
abbrev nLaw : List Str := ["_law_script", "_law_source_here", "_law_k", "_law_found", "_law_code", "_law_denominator_z", "_law_numerator_z"]
theorem scLaw : FnScope nLaw ["_law_script"] (defScope sLaw) := ⟨rfl, rfl, rfl, by decide +kernel, rfl, by decide +kernel, by decide +kernel⟩
abbrev qLam : Str := (envOfC "law" (defScope sLaw) 0 0 .none).qual ++ "<lambda>"
/-! ### tables and sources through the steps -/
theorem Src.extN {H H1 : Hp} {a : Addr} (h : Src H a) (e : ExtN H H1) : Src H1 a := by
  obtain ⟨l, ms, i, r, s, S⟩ := h
  exact ⟨l, ms, i, r, s, S.ne, e _ _ S.at_ (fun _ z => nomatch z), e _ _ S.cells (fun _ z => nomatch z), S.i0, S.r0, S.s0, S.s1⟩
theorem Src.same {H H1 : Hp} {a : Addr} (h : Src H a) (e : Same H H1) : Src H1 a := h.extN (ExtN.of e)
theorem tabs_keep {T : List (Addr × Str)} {H H1 : Hp} {a : Addr} (t : Tabs T H) (S : Src H a) (k : Keep a H H1) : Tabs T H1 := by
  obtain ⟨l, ms, i, r, s, S⟩ := S
  intro p hp
  obtain ⟨ps, h1, h2, h3⟩ := t p hp
  refine ⟨ps, k _ _ (fun z => ?_) h1, h2, fun pos cv hc => ?_⟩
  · rw [z, S.at_] at h1
    cases h1
  · obtain ⟨c, e1, e2⟩ := h3 pos cv hc
    refine ⟨c, e1, k _ _ (fun z => ?_) e2⟩
    rw [z, S.at_] at e2
    have e2' := Option.some.inj e2
    unfold CodeO at e2'
    cases e2'
theorem vals_rev : ∀ {xs : List V} {us : List Value}, Vals xs us → Vals xs.reverse us.reverse
  | _, _, .nil => .nil
  | _, _, .cons r t => by
    rw [List.reverse_cons, List.reverse_cons]
    exact (vals_rev t).append (.cons r .nil)
/-- rational, called with both keywords -/
theorem kb_rat {K : PySem.W.Frag} {f : Addr} {fd : FuncData} (F : FRat K f fd) : KBn K fd ["numerator", "denominator"] 0 ["denominator", "numerator"] (fun _ ws => ws.reverse) (fun _ zs => zs.reverse) := by
  obtain ⟨oc, od, dV, kV, doc, pm, an, cdv, ct, osl, rfl, lk, hcd, hD, hK⟩ := F.ex
  rcases hD with ⟨e, _⟩ | ⟨_, T, o, its, m, rfl, lT, oT, rT⟩
  · cases e
  · refine ⟨fun s us ws X l1 l2 => ?_, fun {vs us zs ws} r1 r2 => ?_⟩
    · match us, l1, ws, l2, its, rT.length, oT with
      | [], _, [u, v], _, [z], _, oT =>
        have hb : ∃ k, bindArgs (PySem.W.fnOf "rational" "rational" (defArgs sRat) (defBody sRat) (defScope sRat) (.ref T) kV doc pm an cdv ct) ⟨[], [(("denominator" : Str), u), (("numerator" : Str), v)]⟩ = seqItems? (.ref T) >>= k ∧ k (some [z].toArray) = (pure [(("numerator" : Str), v), (("denominator" : Str), u)] : Sem (List (Str × Value))) := ⟨_, rfl, rfl⟩
        obtain ⟨k, e1, e2⟩ := hb
        refine BindsTo.of_looks fun M => ?_
        show PySem.W.Looks M s.heap (bindArgs (PySem.W.fnOf "rational" "rational" (defArgs sRat) (defBody sRat) (defScope sRat) (.ref T) kV doc pm an cdv ct) ⟨[], [(("denominator" : Str), u), (("numerator" : Str), v)]⟩) [(("numerator" : Str), v), (("denominator" : Str), u)]
        rw [e1]
        exact looks_items X lT oT (.of_pure e2)
    · exact vals_rev r2
theorem pow_big {d : Int} (h : d.natAbs < 10 ^ 30) : d.natAbs < 2 ^ 8000 := Nat.lt_of_lt_of_le (show d.natAbs < 2 ^ 100 by omega) (Nat.pow_le_pow_right (by decide) (by decide))
theorem pair_fits (a b : Int) : fits 1 (.tuple [.int a, .int b]) := by
  refine ⟨Nat.le_of_ble_eq_true rfl, fun x hx => ?_⟩
  simp only [List.mem_cons, List.not_mem_nil, or_false] at hx
  rcases hx with rfl | rfl <;> exact ⟨rfl, rfl, rfl⟩
theorem pair_same (a b : Int) : sameD 1 (.tuple [.int a, .int b]) (.tuple [.int a, .int b]) = true := by
  show (decide (2 = 2) && ([a == a, b == b].all id)) = true
  simp
theorem rn_le {n d : Int} (h : d ≠ 0) : (rn n d).natAbs ≤ n.natAbs := by
  have e := congrArg Int.natAbs (rn_eq (n := n) h)
  rw [Int.natAbs_mul] at e
  have g : 0 < (gd n d).natAbs := Int.natAbs_pos.mpr (gd_ne h)
  rw [← e]
  exact Nat.le_mul_of_pos_left _ g
theorem rd_le {n d : Int} (h : d ≠ 0) : (rd n d).natAbs ≤ d.natAbs := by
  have e := congrArg Int.natAbs (rd_eq (n := n) h)
  rw [Int.natAbs_mul] at e
  have g : 0 < (gd n d).natAbs := Int.natAbs_pos.mpr (gd_ne h)
  have z := Nat.le_mul_of_pos_left (rd n d).natAbs g
  omega
/-! ### law -/
section
variable {P : Program} {w : World} {K : PySem.W.Frag} {mg : Str → Option Value} {base : Heap}
/-- what the top has left -/
structure Txt (P : Program) (w : World) (K : PySem.W.Frag) (mg : Str → Option Value) (base : Heap) (CQ CN CI fS fW fO fF fM fR : Addr) (fdS fdW fdF fdM fdR : FuncData) : Prop where
  gS : mg "_law_source" = some (.ref fS)
  kS : PySem.W.keepIn K (.ref fS) = true
  bS : L2.Binds K fdS ["_law_script"] []
  GS : FnOk P w K mg base CX0 1 fS fdS ["_law_script"] (spSrc K)
  gW : mg "_law_whole_of" = some (.ref fW)
  kW : PySem.W.keepIn K (.ref fW) = true
  bW : L2.Binds K fdW ["_law_source_here"] []
  GW : FnOk P w K mg base CX0 3 fW fdW ["_law_source_here"] spWh
  gF : mg "_law_is_fraction" = some (.ref fF)
  kF : PySem.W.keepIn K (.ref fF) = true
  bF : L2.Binds K fdF ["_law_x"] []
  GF : FnOk P w K mg base CX0 2 fF fdF ["_law_x"] (spIsF K)
  gM : mg "_law_same" = some (.ref fM)
  kM : PySem.W.keepIn K (.ref fM) = true
  bM : L2.Binds K fdM ["_law_found", "_law_expected"] []
  GM : FnOk P w K mg base CX0 3 fM fdM ["_law_found", "_law_expected"] (spSame K 1)
  gR : mg "rational" = some (.ref fR)
  kR : PySem.W.keepIn K (.ref fR) = true
  FR : FRat K fR fdR
  GR : FnOk P w K mg base (L2.CX P w) 4 fR fdR ["numerator", "denominator"] (spRat CI)
  gQ : mg "QueryError" = some (.ref CQ)
  gN : mg "NotFound" = some (.ref CN)
  xf : XfC K CI
  nf : PySem.W.findIn K (.ref CI) "code" = some none
  ex : PySem.W.exmOne K (.ref CI) (.ref CQ) = some true
  mR : mg "range" = none
  mI : mg "int" = none
/-- _law_outcome as it stands -/
def OutAt (K : PySem.W.Frag) (mg : Str → Option Value) (g : Addr) : Prop := ∃ (oc : Value) (od : Option Addr) (kV doc pm : Value) (an : Option Addr) (cdv ct : Value) (osl : Array (Option Value)),
  mg "_law_outcome" = some (.ref g) ∧ PySem.W.keepIn K (.ref g) = true ∧ K.lookup g = some ⟨oc, od, .func (PySem.W.fnOf "_law_outcome" "_law_outcome" (defArgs sOut) (defBody sOut) (defScope sOut) .none kV doc pm an cdv ct), osl⟩ ∧ PySem.W.codeIn K cdv "_law_outcome" = true ∧
    L2.Binds K (PySem.W.fnOf "_law_outcome" "_law_outcome" (defArgs sOut) (defBody sOut) (defScope sOut) .none kV doc pm an cdv ct) ["_law_call"] []
def spLaw (K : PySem.W.Frag) (tab : Addr) : Sp := fun vs H Q _ => ∃ (a : Addr) (ns : List Int), vs = [.ref a] ∧ SqL K H a (ns.map V.int) ∧ Tabs [(tab, qLam)] H ∧ ∀ H', Q (.bl true) H'
theorem ok_law {CQ CN CI fS fW fO fF fM fR fL c tab : Addr} {fdS fdW fdF fdM fdR : FuncData} {oc : Value} {od : Option Addr} {kV doc pm ct : Value} {an : Option Addr} {osl : Array (Option Value)} (T : Txt P w K mg base CQ CN CI fS fW fO fF fM fR fdS fdW fdF fdM fdR) (O : OutAt K mg fO)
    (lk : K.lookup fL = some ⟨oc, od, .func (PySem.W.fnOf "law" "law" (defArgs sLaw) (defBody sLaw) (defScope sLaw) .none kV doc pm an (.ref c) ct), osl⟩) (hcd : PySem.W.codeIn K (.ref c) "law" = true) (TB : LamX.TabB base mg c tab) :
    FnOk P w K mg base CX0 7 fL (PySem.W.fnOf "law" "law" (defArgs sLaw) (defBody sLaw) (defScope sLaw) .none kV doc pm an (.ref c) ct) ["_law_script"] (spLaw K tab) := by
  obtain ⟨oc', od', kV', doc', pm', an', cdv', ct', osl', gO, kO, lkO, cO, bO⟩ := O
  obtain ⟨dsR2, vR2, bR2⟩ := T.FR.binds1 (ps := ["numerator", "denominator"]) 2 1 (by simp) rfl (fun T kV doc pm an cdv ct us its h1 h2 => match us, h1, its, h2 with | [_, _], _, [_], _ => ⟨_, rfl, rfl⟩)
  cases vR2
  obtain ⟨dsR1, vR1, bR1⟩ := T.FR.binds1 (ps := ["numerator", "denominator"]) 1 0 (by simp) rfl (fun T kV doc pm an cdv ct us its h1 h2 => match us, h1, its, h2 with | [_], _, [_], _ => ⟨_, rfl, rfl⟩)
  have kbR := kb_rat T.FR
  refine fn_of lk hcd scLaw (fun vs H Q E h => ?_) (fun A outer s H vs Q E hr h => ?_)
  · obtain ⟨a, ns, rfl, _⟩ := h
    rfl
  · obtain ⟨a, ns, rfl, hS, tabs, q⟩ := h
    have hr4 : Room 4 _ := hr.mono (by decide)
    have hr3 : Room 3 _ := hr.mono (by decide)
    have hr2 : Room 2 _ := hr.mono (by decide)
    have hr1 : Room 1 _ := hr.mono (by decide)
    refine ⟨_, PSs.nox (pss_cons (ps_set (i := 1) scLaw.nd rfl (.inl rfl) (pe_call T.GS hr1 (by rfl) T.gS T.kS T.bS .nil pass0 (pa_cons (pv 0) pa_nil)))
      (pss_cons (ps_for PassesOwn.never rfl (pi_range1 (by rfl) T.mR (pa_cons pe_int pa_nil)) (pg_name (i := 2) scLaw.nd rfl (Or.inl rfl))
        (pss_cons (ps_set (i := 6) scLaw.nd rfl (.inr rfl) (pe_call T.GW hr3 (by rfl) T.gW T.kW T.bW .nil pass0 (pa_cons (pv 1) pa_nil)))
        (pss_cons (ps_set (i := 5) scLaw.nd rfl (.inr rfl) (pe_call T.GW hr3 (by rfl) T.gW T.kW T.bW .nil pass0 (pa_cons (pv 1) pa_nil)))
        (C8.pss_cut (ps_asg (pe_lamS (T := [(tab, qLam)]) (k := 4) (t := fun E => tCall (spRat CI) [] E (tCons (tVar 6) (tCons (tVar 5) tNil))) (by rfl) gO kO lkO cO bO scOut rfl (.inl rfl) (out_gives T.gQ T.gN) TB rfl (.head _) (fun p hp _ => by rw [List.mem_singleton.mp hp]; rfl) hr (lamS_by (sc := defScope sLaw) (by decide +kernel)) rfl (fun _ _ _ _ _ => rfl)
            (fun E f c A outer s H rm => pe_call T.GR rm (by rfl) T.gR T.kR bR2 .nil (passes_call (takes_of rfl rfl rfl rfl) (fun _ _ _ _ h => h)) (pa_cons (pv 6) (pa_cons (pv 5) pa_nil))))
          (pg_tup rfl (pgs_cons (pg_name (i := 3) scLaw.nd rfl (Or.inl rfl)) (pgs_cons (pg_name (i := 4) scLaw.nd rfl (Or.inl rfl)) pgs_nil))))
        (pss_cons (ps_if (pt_cmpR op_ne (pv 4) (pe_ix ix_list (pe_lst (pa_cons pe_str (pa_cons pe_str pa_nil))) (pe_callTy call_int1 (by rfl) T.mI (by decide +kernel) (pa_cons (pe_cmpR op_eq (pv 5) pe_int (nomark _)) pa_nil)) (fun _ _ => rfl)) (nomark _)) (pss_one (ps_ret pe_bl)) pss_nil)
        (pss_cons (ps_if (PW.pt (pw_and (pt_cmpR op_ne (pv 5) pe_int (nomark _)) (pw_and1 (PW.pt (pw_or (pt_not (pt_val (pe_call T.GF hr2 (by rfl) T.gF T.kF T.bF .nil pass0 (pa_cons (pv 3) pa_nil))))
            (pw_or1 (pt_cmpR op_ne (pe_op op_mulW (pe_ix ix_tup (pv 3) pe_int (fun _ _ => rfl)) (pv 5)) (pe_op op_mulW (pv 6) (pe_ix ix_tup (pv 3) pe_int (fun _ _ => rfl))) (nomark _)))))))) (pss_one (ps_ret pe_bl)) pss_nil)
        (pss_one (ps_if (pt_not (pt_val (pe_call T.GM hr3 (by rfl) T.gM T.kM T.bM .nil pass0 (pa_cons (pe_callN0 T.GR hr4 (by rfl) T.gR T.kR kbR passL (pk_cons (pe_op op_sub pe_int pe_int) (pk_cons (pe_op op_mul pe_int (pv 6)) pk_nil)))
            (pa_cons (pe_tup (pa_cons (pe_op op_sub pe_int (pv 6)) (pa_cons pe_int pa_nil))) pa_nil))))) (pss_one (ps_ret pe_bl)) pss_nil))))))))
      (pss_one (ps_ret (pe_call T.GM hr3 (by rfl) T.gM T.kM T.bM .nil pass0 (pa_cons (pe_call T.GR hr4 (by rfl) T.gR T.kR bR1 vR1 passL (pa_cons (pv 6) pa_nil)) (pa_cons (pe_tup (pa_cons (pv 6) (pa_cons pe_int pa_nil))) pa_nil))))))), ?_⟩
    refine ⟨_, rfl, a, ns, rfl, hS, fun H1 p sm np S1 => ?_⟩
    have tabs1 : Tabs [(tab, qLam)] H1 := tabs.ext sm
    refine ⟨4, rfl, by decide, by decide, for_range (lo := 0) (n := 4) (fun i σ' H' => ∃ y2 y3 y4 y5 y6 : Option V, σ' = [some (.ref a), some (.ref p), y2, y3, y4, y5, y6] ∧ Src H' p ∧ Tabs [(tab, qLam)] H' ∧ (i = 0 ∨ ∃ n : Int, y6 = some (.int n) ∧ n.natAbs < 10 ^ 30))
      ⟨none, none, none, none, none, rfl, S1, tabs1, .inl rfl⟩ ?_ ?_⟩
    · rintro i σ' H' hi ⟨y2, y3, y4, y5, y6, rfl, S, tb, _⟩
      refine ⟨_, rfl, p, rfl, S, fun H2 n k2 S2 bn => ⟨_, rfl, p, rfl, S2, fun H3 d k3 S3 bd => ?_⟩⟩
      have tb3 : Tabs [(tab, qLam)] H3 := tabs_keep (tabs_keep tb S k2) S2 k3
      refine ⟨fun σ'' H'' => ∃ (fnd : V) (code : Str), σ'' = [some (.ref a), some (.ref p), some (.int (0 + (i : Int))), some fnd, some (.str code), some (.int d), some (.int n)] ∧ Src H'' p ∧ Tabs [(tab, qLam)] H'' ∧
        ((d = 0 ∧ code = "fraction") ∨ (d ≠ 0 ∧ code = "" ∧ ∃ t, fnd = .ref t ∧ H'' t = some (.tup [.int (rn n d), .int (rd n d)]))), ?_, ?_⟩
      · refine ⟨tb3, fun H4 ext tb4 => ?_⟩
        have S4 := S3.extN ext
        refine ⟨_, rfl, _, rfl, n, d, rfl, pow_big bd, fun d0 x nx => ⟨CI, x, _, _, rfl, rfl, upd_same, rfl, T.xf, T.nf, .inl T.ex, fun t nt => ?_⟩, fun dne t nt t2 nt2 => ?_⟩
        · refine ⟨t, _, rfl, SqT.of upd_same, rfl, _, _, rfl, _, _, rfl, rfl, .non, "fraction", rfl, (S4.upd_new nx).upd_new nt, (tb4.ext (same_new nx)).ext (same_new nt), .inl ⟨d0, rfl⟩⟩
        · refine ⟨t2, _, rfl, SqT.of upd_same, rfl, _, _, rfl, _, _, rfl, rfl, .ref t, "", rfl, (S4.upd_new nt).upd_new nt2, (tb4.ext (same_new nt)).ext (same_new nt2), .inr ⟨dne, rfl, t, rfl, ?_⟩⟩
          exact same_new nt2 _ _ upd_same
      · rintro σ'' H'' ⟨fnd, code, rfl, S5, tb5, cs⟩
        have last : ∀ (σ6 : L2.St) (H6 : Hp), σ6 = [some (.ref a), some (.ref p), some (.int (0 + (i : Int))), some fnd, some (.str code), some (.int d), some (.int n)] → Src H6 p → Tabs [(tab, qLam)] H6 →
            tIfS (tNot (tB (tCall (spSame K 1) [] E0 (tCons (tCallN 0 2 (spRat CI) (fun _ zs => zs.reverse) E0 tNil (tCons (tOp (rI0 fun i j => .int (i - j)) (tC (.int 0)) (tC (.int 3))) (tCons (tOp (rI CMul fun i j => .int (i * j)) (tC (.int 3)) (tVar 6)) tNil)))
              (tCons (tTup (tCons (tOp (rI0 fun i j => .int (i - j)) (tC (.int 0)) (tVar 6)) (tCons (tC (.int 1)) tNil))) tNil))))) (tRet (tC (.bl false))) tNext
            { nx := fun σ' H' => ∃ y2 y3 y4 y5 y6 : Option V, σ' = [some (.ref a), some (.ref p), y2, y3, y4, y5, y6] ∧ Src H' p ∧ Tabs [(tab, qLam)] H' ∧ (i + 1 = 0 ∨ ∃ n : Int, y6 = some (.int n) ∧ n.natAbs < 10 ^ 30), rt := Q } σ6 H6 := by
          rintro σ6 H6 rfl S6 tb6
          obtain ⟨u1, u2⟩ := r_uniq (n := 3 * n) (d := 0 - 3) (a := 0 - n) (b := 1) (by decide) (by decide) (Int.gcd_one_right _) (by omega)
          refine ⟨_, _, rfl, rfl, _, rfl, _, _, rfl, rfl, .inl ⟨by decide, by decide⟩, rfl, rfl, 3 * n, 0 - 3, rfl, pow_big (by decide), fun z => absurd z (by decide), fun _ t nt => ?_⟩
          rw [u1, u2]
          refine ⟨_, rfl, _, _, rfl, rfl, Nat.le_of_ble_eq_true rfl, fun t2 nt2 => ?_⟩
          refine ⟨.ref t, .ref t2, .tuple [.int (0 - n), .int 1], .tuple [.int (0 - n), .int 1], rfl, .tup (SqT.of (same_new nt2 _ _ upd_same)) (.cons (.int _) (.cons (.int _) .nil)), .tup (SqT.of upd_same) (.cons (.int _) (.cons (.int _) .nil)), pair_fits _ _, fun H8 s8 => ⟨_, rfl, ?_⟩⟩
          rw [pair_same]
          exact iteF ⟨_, _, _, _, _, rfl, ((S6.upd_new nt).upd_new nt2).same s8, ((tb6.ext (same_new nt)).ext (same_new nt2)).ext s8, .inr ⟨n, rfl, bn⟩⟩
        rcases cs with ⟨d0, rfl⟩ | ⟨dne, rfl, t, rfl, ht⟩
        · subst d0
          refine ⟨_, rfl, Nat.le_of_ble_eq_true rfl, fun l nl => ⟨_, rfl, rfl, .inr ⟨_, rfl, l, _, _, _, rfl, rfl, SqL.of upd_same, rfl, rfl, _, rfl, iteNS rfl ?_⟩⟩⟩
          refine ⟨_, rfl, rfl, _, rfl, iteNS rfl ?_⟩
          exact iteF (last _ _ rfl (S5.upd_new nl) (tb5.ext (same_new nl)))
        · have dd : decide (V.int d = V.int 0) = false := decide_eq_false fun z => dne (V.int.inj z)
          refine ⟨_, rfl, Nat.le_of_ble_eq_true rfl, fun l nl => ⟨_, rfl, rfl, .inr ⟨_, rfl, l, _, _, .str "", rfl, rfl, SqL.of upd_same, by rw [dd]; rfl, rfl, _, rfl, iteNS rfl ?_⟩⟩⟩
          have ht1 := same_new (o := .lst [.str "", .str "fraction"]) nl _ _ ht
          refine ⟨_, rfl, rfl, _, rfl, ?_⟩
          rw [dd]
          refine iteT ?_
          refine ⟨_, rfl, t, rn n d, rd n d, rfl, ht1, fun H6 s6 => ⟨_, rfl, ?_⟩⟩
          have p1 := rd_pos (n := n) dne
          rw [decide_eq_true (by omega : 1 ≤ rd n d), decide_eq_true (r_gcd dne)]
          refine iteF ?_
          have ht2 := s6 _ _ ht1
          have w1 : (rn n d).natAbs < 2 ^ 100 := Nat.lt_of_le_of_lt (rn_le dne) (by omega)
          have w2 : (rd n d).natAbs < 2 ^ 100 := Nat.lt_of_le_of_lt (rd_le dne) (by omega)
          have w3 : d.natAbs < 2 ^ 100 := by omega
          have w4 : n.natAbs < 2 ^ 100 := by omega
          refine ⟨_, rfl, t, _, _, _, rfl, rfl, SqT.of ht2, rfl, _, rfl, _, _, rfl, rfl, wide_mul w1 w3 (by decide) (by decide) (by decide), _, rfl, _, rfl, t, _, _, _, rfl, rfl, SqT.of ht2, rfl, _, _, rfl, rfl, wide_mul w4 w2 (by decide) (by decide) (by decide), rfl, _, rfl, ?_⟩
          refine iteNS (congrArg V.int (r_cross dne)) ?_
          exact last _ _ rfl ((S5.upd_new nl).same s6) ((tb5.ext (same_new nl)).ext s6)
    · rintro σ' H' ⟨y2, y3, y4, y5, y6, rfl, S, tb, z | ⟨n, rfl, bn⟩⟩
      · cases z
      · obtain ⟨u1, u2⟩ := r_uniq (n := n) (d := 1) (a := n) (b := 1) (by decide) (by decide) (Int.gcd_one_right _) rfl
        refine ⟨_, rfl, n, 1, rfl, pow_big (by decide), fun z => absurd z (by decide), fun _ t nt => ?_⟩
        rw [u1, u2]
        refine ⟨_, rfl, Nat.le_of_ble_eq_true rfl, fun t2 nt2 => ?_⟩
        refine ⟨.ref t, .ref t2, .tuple [.int n, .int 1], .tuple [.int n, .int 1], rfl, .tup (SqT.of (same_new nt2 _ _ upd_same)) (.cons (.int _) (.cons (.int _) .nil)), .tup (SqT.of upd_same) (.cons (.int _) (.cons (.int _) .nil)), pair_fits _ _, fun H8 s8 => ?_⟩
        rw [pair_same]
        exact q _
end
end Dw
namespace Dw
open PySem PySem.Spec PyProof.Rows L2 LamX
/-! ### what the top has left, and the end -/
/-- an error of the class at C is what «except S» names, S a class above C -/
theorem exm_in {K : PySem.W.Frag} {C S : Addr} (b : PySem.W.subIn K (.ref S) (.type "BaseException") = some true) (i : PySem.W.isClsIn K S = true) (t : PySem.W.typeIn K (.ref S) = some (.type "type")) (s : PySem.W.subIn K (.ref C) (.ref S) = some true) :
    PySem.W.exmOne K (.ref C) (.ref S) = some true := by
  have i' : (PySem.W.clsIn K S).isSome = true := i
  show (if (PySem.W.subIn K (.ref S) (.type "BaseException") == some true) = true then
    (if ((PySem.W.clsIn K S).isSome && PySem.W.typeIn K (.ref S) == some (.type "type")) = true then PySem.W.subIn K (.ref C) (.ref S) else none) else none) = _
  rw [b, i', t, s]
  rfl
theorem all_mk {l : PySem.W.OpenLaw} {w : World} {K : PySem.W.Frag} {h : Heap} {mg : Str → Option Value} {fa fG fS fD fC fM fO fL fF fW fR TR fQ TQ fI TI CQ CN CI fX cX PX : Addr} (X : K.In h) (G : h.Ns mainGlobals mg) (hfa : mg "law" = some (.ref fa)) (own : OwnTab K fa h)
    {odG anG : Option Addr} {slG : Array (Option Value)} {ocG kVG dcG pmG cdG ctG : Value}
    {odS anS : Option Addr} {slS : Array (Option Value)} {ocS kVS dcS pmS cdS ctS : Value}
    {odD anD : Option Addr} {slD : Array (Option Value)} {ocD kVD dcD pmD cdD ctD : Value}
    {odC anC : Option Addr} {slC : Array (Option Value)} {ocC kVC dcC pmC cdC ctC : Value}
    {odM anM : Option Addr} {slM : Array (Option Value)} {ocM kVM dcM pmM cdM ctM : Value}
    {odO anO : Option Addr} {slO : Array (Option Value)} {ocO kVO dcO pmO cdO ctO : Value}
    {odL anL : Option Addr} {slL : Array (Option Value)} {ocL kVL dcL pmL cdL ctL : Value}
    {odF anF : Option Addr} {slF : Array (Option Value)} {ocF kVF dcF pmF cdF ctF : Value}
    {odW anW : Option Addr} {slW : Array (Option Value)} {ocW kVW dcW pmW cdW ctW : Value}
    {odR anR oDR : Option Addr} {slR sDR : Array (Option Value)} {ocR kVR dcR pmR cdR ctR oCR : Value} {nR : Nat} {tR : Tok}
    {odQ anQ oDQ : Option Addr} {slQ sDQ : Array (Option Value)} {ocQ kVQ dcQ pmQ cdQ ctQ oCQ : Value} {nQ : Nat} {tQ uQ : Tok}
    {odI anI oDI : Option Addr} {slI sDI : Array (Option Value)} {ocI kVI dcI pmI cdI ctI oCI : Value} {nI : Nat} {tI : Tok}
    {nmI qI : Str} {NI : Addr} {bsI bmI : List Value} {snI : List Str} {suI : List Value} {abI : Bool} {coI : Option Bool} {ddI : Option Addr} {m0 m1 m2 m3 m5 : Option Value}
    {odX anX oDX : Option Addr} {slX sDX : Array (Option Value)} {ocX kVX dcX pmX ctX oCX : Value} {vX : Array Value}
    (aG : PySem.W.nsIn K mainGlobals "greatest_divisor" = some (some (.ref fG))) (lG : K.lookup fG = some ⟨ocG, odG, .func (PySem.W.fnOf "greatest_divisor" "greatest_divisor" (defArgs sGD) (defBody sGD) (defScope sGD) .none kVG dcG pmG anG cdG ctG), slG⟩) (cG : PySem.W.codeIn K cdG "greatest_divisor" = true) (kG : PySem.W.keepIn K (.ref fG) = true)
    (aS : PySem.W.nsIn K mainGlobals "_law_source" = some (some (.ref fS))) (lS : K.lookup fS = some ⟨ocS, odS, .func (PySem.W.fnOf "_law_source" "_law_source" (defArgs sSrc) (defBody sSrc) (defScope sSrc) .none kVS dcS pmS anS cdS ctS), slS⟩) (cS : PySem.W.codeIn K cdS "_law_source" = true) (kS : PySem.W.keepIn K (.ref fS) = true)
    (aD : PySem.W.nsIn K mainGlobals "_law_draw" = some (some (.ref fD))) (lD : K.lookup fD = some ⟨ocD, odD, .func (PySem.W.fnOf "_law_draw" "_law_draw" (defArgs sDraw) (defBody sDraw) (defScope sDraw) .none kVD dcD pmD anD cdD ctD), slD⟩) (cD : PySem.W.codeIn K cdD "_law_draw" = true) (kD : PySem.W.keepIn K (.ref fD) = true)
    (aC : PySem.W.nsIn K mainGlobals "_law_choice" = some (some (.ref fC))) (lC : K.lookup fC = some ⟨ocC, odC, .func (PySem.W.fnOf "_law_choice" "_law_choice" (defArgs sCho) (defBody sCho) (defScope sCho) .none kVC dcC pmC anC cdC ctC), slC⟩) (cC : PySem.W.codeIn K cdC "_law_choice" = true) (kC : PySem.W.keepIn K (.ref fC) = true)
    (aM : PySem.W.nsIn K mainGlobals "_law_same" = some (some (.ref fM))) (lM : K.lookup fM = some ⟨ocM, odM, .func (PySem.W.fnOf "_law_same" "_law_same" (defArgs sSame) (defBody sSame) (defScope sSame) .none kVM dcM pmM anM cdM ctM), slM⟩) (cM : PySem.W.codeIn K cdM "_law_same" = true) (kM : PySem.W.keepIn K (.ref fM) = true)
    (aO : PySem.W.nsIn K mainGlobals "_law_outcome" = some (some (.ref fO))) (lO : K.lookup fO = some ⟨ocO, odO, .func (PySem.W.fnOf "_law_outcome" "_law_outcome" (defArgs sOut) (defBody sOut) (defScope sOut) .none kVO dcO pmO anO cdO ctO), slO⟩) (cO : PySem.W.codeIn K cdO "_law_outcome" = true) (kO : PySem.W.keepIn K (.ref fO) = true)
    (aL : PySem.W.nsIn K mainGlobals "_law_gcd" = some (some (.ref fL))) (lL : K.lookup fL = some ⟨ocL, odL, .func (PySem.W.fnOf "_law_gcd" "_law_gcd" (defArgs sLG) (defBody sLG) (defScope sLG) .none kVL dcL pmL anL cdL ctL), slL⟩) (cL : PySem.W.codeIn K cdL "_law_gcd" = true) (kL : PySem.W.keepIn K (.ref fL) = true)
    (aF : PySem.W.nsIn K mainGlobals "_law_is_fraction" = some (some (.ref fF))) (lF : K.lookup fF = some ⟨ocF, odF, .func (PySem.W.fnOf "_law_is_fraction" "_law_is_fraction" (defArgs sIsF) (defBody sIsF) (defScope sIsF) .none kVF dcF pmF anF cdF ctF), slF⟩) (cF : PySem.W.codeIn K cdF "_law_is_fraction" = true) (kF : PySem.W.keepIn K (.ref fF) = true)
    (aW : PySem.W.nsIn K mainGlobals "_law_whole_of" = some (some (.ref fW))) (lW : K.lookup fW = some ⟨ocW, odW, .func (PySem.W.fnOf "_law_whole_of" "_law_whole_of" (defArgs sWh) (defBody sWh) (defScope sWh) .none kVW dcW pmW anW cdW ctW), slW⟩) (cW : PySem.W.codeIn K cdW "_law_whole_of" = true) (kW : PySem.W.keepIn K (.ref fW) = true)
    (aR : PySem.W.nsIn K mainGlobals "rational" = some (some (.ref fR))) (lR : K.lookup fR = some ⟨ocR, odR, .func (PySem.W.fnOf "rational" "rational" (defArgs sRat) (defBody sRat) (defScope sRat) (.ref TR) kVR dcR pmR anR cdR ctR), slR⟩) (cR : PySem.W.codeIn K cdR "rational" = true) (kR : PySem.W.keepIn K (.ref fR) = true) (dR : K.lookup TR = some ⟨oCR, oDR, .seq #[.int 1 tR] nR, sDR⟩)
    (lQ : K.lookup fQ = some ⟨ocQ, odQ, .func (PySem.W.fnOf "__init__" "QueryError.__init__" (defArgs sQE) (defBody sQE) (defScope sQE) (.ref TQ) kVQ dcQ pmQ anQ cdQ ctQ), slQ⟩) (cQ : PySem.W.codeIn K cdQ "QueryError.__init__" = true) (kQ : PySem.W.keepIn K (.ref fQ) = true) (dQ : K.lookup TQ = some ⟨oCQ, oDQ, .seq #[.str "" tQ, .str "" uQ] nQ, sDQ⟩)
    (lI : K.lookup fI = some ⟨ocI, odI, .func (PySem.W.fnOf "__init__" "InvalidFraction.__init__" (defArgs sIF) (defBody sIF) (defScope sIF) (.ref TI) kVI dcI pmI anI cdI ctI), slI⟩) (cI : PySem.W.codeIn K cdI "InvalidFraction.__init__" = true) (kI : PySem.W.keepIn K (.ref fI) = true) (dI : K.lookup TI = some ⟨oCI, oDI, .seq #[.str "not a reduced fraction" tI] nI, sDI⟩)
    (aQ : PySem.W.nsIn K mainGlobals "QueryError" = some (some (.ref CQ))) (aN : PySem.W.nsIn K mainGlobals "NotFound" = some (some (.ref CN))) (aI : PySem.W.nsIn K mainGlobals "InvalidFraction" = some (some (.ref CI)))
    (fQi : PySem.W.findCls K (.ref CQ) (.type "type") "__init__" = some (.val (.ref fQ))) (rQ : PySem.W.readsIn K CQ (.type "type") = true) (gQ : PySem.W.specialIn K (.ref CQ) "__getattribute__" = some (some (.builtin "type.__getattribute__")))
    (xI : K.lookup CI = some (excClassObj nmI qI CI NI bsI bmI true snI suI abI coI ddI m0 m1 m2 m3 m5 "ValueError.__new__")) (rI : PySem.HandSPX.refsVE bmI = true) (sI : PySem.W.findIn K (.ref CI) "__setattr__" = some (some (.builtin "object.__setattr__"))) (eI : PySem.W.subIn K (.ref CI) (.type "BaseException") = some true) (yI : PySem.W.typeIn K (.ref CI) = some (.type "type")) (pI : PySem.W.keepIn K (.ref CI) = true)
    (iI : PySem.W.findIn K (.ref CI) "__init__" = some (some (.ref fI))) (uI : PySem.W.typeIn K (.ref fI) = some (.type "function")) (nI0 : PySem.W.findIn K (.ref CI) "code" = some none) (wg : PySem.W.findIn K (.ref CI) "__getattribute__" = some (some (.builtin "BaseException.__getattribute__"))) (wh : PySem.W.findIn K (.ref CI) "__getattr__" = some none) (we : PySem.W.hasDictIn K CI = true) (zb : PySem.W.subIn K (.ref CQ) (.type "BaseException") = some true) (zi : PySem.W.isClsIn K CQ = true) (zt : PySem.W.typeIn K (.ref CQ) = some (.type "type")) (zs : PySem.W.subIn K (.ref CI) (.ref CQ) = some true)
    (vV : PySem.W.findCls K (.type "ValueError") (.type "type") "__init__" = some (.val (.builtin "ValueError.__init__")))
    (aX : PySem.W.nsIn K mainGlobals "law" = some (some (.ref fX))) (lX : K.lookup fX = some ⟨ocX, odX, .func (PySem.W.fnOf "law" "law" (defArgs sLaw) (defBody sLaw) (defScope sLaw) .none kVX dcX pmX anX (.ref cX) ctX), slX⟩) (cXc : PySem.W.codeIn K (.ref cX) "law" = true) (oX : K.lookup cX = some ⟨oCX, oDX, .fields vX, sDX⟩) (tX : vX[11]? = some (.ref PX)) (hX : PySem.W.codeHdIn K cX PX = true) (nX : K.lookup PX = none)
    (b0 : PySem.W.nsIn K mainGlobals "abs" = some none)
    (b1 : PySem.W.nsIn K mainGlobals "list" = some none)
    (b2 : PySem.W.nsIn K mainGlobals "len" = some none)
    (b3 : PySem.W.nsIn K mainGlobals "isinstance" = some none)
    (b4 : PySem.W.nsIn K mainGlobals "tuple" = some none)
    (b5 : PySem.W.nsIn K mainGlobals "all" = some none)
    (b6 : PySem.W.nsIn K mainGlobals "int" = some none)
    (b7 : PySem.W.nsIn K mainGlobals "zip" = some none)
    (b8 : PySem.W.nsIn K mainGlobals "bool" = some none)
    (b9 : PySem.W.nsIn K mainGlobals "dict" = some none)
    (b10 : PySem.W.nsIn K mainGlobals "str" = some none)
    (b11 : PySem.W.nsIn K mainGlobals "range" = some none)
    (b12 : PySem.W.nsIn K mainGlobals "ValueError" = some none) :
    LawAtS l w K CX0 7 63 "_law_script" mg fa h := by
  have e := hfa.symm.trans (PySem.W.mg_of X G aX)
  cases e
  have FG := fun_mk (st := sGD) lG cG kG
  have BG := FG.binds (ps := ["first", "second"]) fun _ _ _ _ _ _ us hl => match us, hl with | [_, _], _ => rfl
  have FS := fun_mk (st := sSrc) lS cS kS
  have BS := FS.binds (ps := ["_law_script"]) fun _ _ _ _ _ _ us hl => match us, hl with | [_], _ => rfl
  have FD := fun_mk (st := sDraw) lD cD kD
  have BD := FD.binds (ps := ["_law_source_here", "_law_count"]) fun _ _ _ _ _ _ us hl => match us, hl with | [_, _], _ => rfl
  have FC := fun_mk (st := sCho) lC cC kC
  have BC := FC.binds (ps := ["_law_source_here", "_law_chosen"]) fun _ _ _ _ _ _ us hl => match us, hl with | [_, _], _ => rfl
  have FM := fun_mk (st := sSame) lM cM kM
  have BM := FM.binds (ps := ["_law_found", "_law_expected"]) fun _ _ _ _ _ _ us hl => match us, hl with | [_, _], _ => rfl
  have FO := fun_mk (st := sOut) lO cO kO
  have BO := FO.binds (ps := ["_law_call"]) fun _ _ _ _ _ _ us hl => match us, hl with | [_], _ => rfl
  have FL := fun_mk (st := sLG) lL cL kL
  have BL := FL.binds (ps := ["_law_one", "_law_two"]) fun _ _ _ _ _ _ us hl => match us, hl with | [_, _], _ => rfl
  have FF := fun_mk (st := sIsF) lF cF kF
  have BF := FF.binds (ps := ["_law_x"]) fun _ _ _ _ _ _ us hl => match us, hl with | [_], _ => rfl
  have FW := fun_mk (st := sWh) lW cW kW
  have BW := FW.binds (ps := ["_law_source_here"]) fun _ _ _ _ _ _ us hl => match us, hl with | [_], _ => rfl
  have FR : FRat K fR _ := ⟨⟨_, _, _, _, _, _, _, _, _, _, rfl, lR, cR, .inr ⟨by simp, TR, _, [.int 1 tR], _, rfl, dR, rfl, .cons ⟨_, rfl⟩ .nil⟩, .inl rfl⟩, kR⟩
  have FQ : FQE K fQ _ := ⟨⟨_, _, _, _, _, _, _, _, _, _, rfl, lQ, cQ, .inr ⟨by simp, TQ, _, [.str "" tQ, .str "" uQ], _, rfl, dQ, rfl, .cons ⟨_, rfl⟩ (.cons ⟨_, rfl⟩ .nil)⟩, .inl rfl⟩, kQ⟩
  have FI : FIF K fI _ := ⟨⟨_, _, _, _, _, _, _, _, _, _, rfl, lI, cI, .inr ⟨by simp, TI, _, [.str "not a reduced fraction" tI], _, rfl, dI, rfl, .cons ⟨_, rfl⟩ .nil⟩, .inl rfl⟩, kI⟩
  obtain ⟨dsQ, vQ, BQ⟩ := FQ.binds1 (ps := ["self", "message", "code"]) 3 2 (by simp) rfl (fun T kV doc pm an cdv ct us its h1 h2 => match us, h1, its, h2 with | [_, _, _], _, [_, _], _ => ⟨_, rfl, rfl⟩)
  cases vQ
  obtain ⟨dsI, vI, BI⟩ := FI.binds1 (ps := ["self", "message"]) 2 1 (by simp) rfl (fun T kV doc pm an cdv ct us its h1 h2 => match us, h1, its, h2 with | [_, _], _, [_], _ => ⟨_, rfl, rfl⟩)
  cases vI
  have oe : OexC K CI := ⟨⟨_, _, _, _, _, _, _, _, _, _, _, _, _, _, _, xI, rI⟩, sI, eI, yI, pI⟩
  have hP : h.get? PX = some { cls := .none, data := .fields #[] } := own cX PX _ _ _ _ _ _ lX rfl rfl oX tX
  refine ⟨PySem.W.fnOf "law" "law" (defArgs sLaw) (defBody sLaw) (defScope sLaw) .none kVX dcX pmX anX (.ref cX) ctX, [(cX, PX)], spLaw K PX, fun p hp => ?_, fun p hp => ?_, fun p hp => ?_, fun s u => .of_eq rfl, fun H a ns hl _ ht hS => ?_, fun base hK hN TB => ?_⟩
  · rw [List.mem_singleton.mp hp]
    exact hP
  · rw [List.mem_singleton.mp hp]
    exact nX
  · rw [List.mem_singleton.mp hp]
    exact PySem.W.codeHd_of_K X hX
  · refine ⟨a, ns, rfl, hS, fun p hp => ?_, fun _ => rfl⟩
    rw [List.mem_singleton.mp hp]
    exact TabS.nil (ht (cX, PX) (.head _))
  · have GG : FnOk l.prog w K mg base CX0 1 fG _ ["first", "second"] spGcd := ok_gd FG (PySem.W.mg_none_of X G b0)
    have GQ : FnOk l.prog w K mg base CX0 1 fQ _ ["self", "message", "code"] (spQE K) := ok_qe FQ (PySem.W.mg_none_of X G b12) vV
    have GI : FnOk l.prog w K mg base CX0 2 fI _ ["self", "message"] (spIF K "fraction") := ok_if FI GQ (PySem.W.mg_of X G aQ) ⟨rQ, gQ⟩ fQi kQ BQ
    have GR : FnOk l.prog w K mg base (L2.CX l.prog w) 4 fR _ ["numerator", "denominator"] (spRat CI) := ok_rat FR GG (PySem.W.mg_of X G aG) kG BG GI (PySem.W.mg_of X G aI) oe nI0 iI uI BI
    have GD : FnOk l.prog w K mg base CX0 1 fD _ ["_law_source_here", "_law_count"] spDraw := ok_draw FD (PySem.W.mg_none_of X G b2) (PySem.W.mg_none_of X G b0)
    have GC : FnOk l.prog w K mg base CX0 2 fC _ ["_law_source_here", "_law_chosen"] (spCho K) := ok_cho FC GD (PySem.W.mg_of X G aD) kD BD (PySem.W.mg_none_of X G b2)
    have GL : FnOk l.prog w K mg base CX0 1 fL _ ["_law_one", "_law_two"] spGcd := ok_lg FL (PySem.W.mg_none_of X G b0)
    refine ok_law (CI := CI) ⟨PySem.W.mg_of X G aS, kS, BS, ok_src FS (PySem.W.mg_none_of X G b1), PySem.W.mg_of X G aW, kW, BW, ok_wh FW GD (PySem.W.mg_of X G aD) kD BD GC (PySem.W.mg_of X G aC) kC BC,
      PySem.W.mg_of X G aF, kF, BF, ok_isf FF GL (PySem.W.mg_of X G aL) kL BL (PySem.W.mg_none_of X G b3) (PySem.W.mg_none_of X G b4) (PySem.W.mg_none_of X G b2) (PySem.W.mg_none_of X G b5) (PySem.W.mg_none_of X G b6),
      PySem.W.mg_of X G aM, kM, BM, ok_same FM (PySem.W.mg_of X G aM) BM ⟨(PySem.W.mg_none_of X G b3), (PySem.W.mg_none_of X G b1), (PySem.W.mg_none_of X G b4), (PySem.W.mg_none_of X G b2), (PySem.W.mg_none_of X G b5), (PySem.W.mg_none_of X G b7), (PySem.W.mg_none_of X G b8), (PySem.W.mg_none_of X G b6), (PySem.W.mg_none_of X G b9), (PySem.W.mg_none_of X G b10)⟩ 1,
      PySem.W.mg_of X G aR, kR, FR, GR, PySem.W.mg_of X G aQ, PySem.W.mg_of X G aN, ⟨wg, wh, eI, we⟩, nI0, exm_in zb zi zt zs, (PySem.W.mg_none_of X G b11), (PySem.W.mg_none_of X G b6)⟩
      ⟨_, _, _, _, _, _, _, _, _, PySem.W.mg_of X G aO, kO, lO, cO, BO⟩ lX cXc (TB (cX, PX) (.head _))
end Dw
open PySem PySem.W PyProof.Rows
set_option maxRecDepth 100000 in
set_option maxHeartbeats 0 in
theorem PySem.Challenge.cw_doubtwell_k01_fractions_holds : PySem.Challenge.rw_doubtwell_k01_fractions.Holds := by
  w_on; o_law; k_head; (case hw => w_witness2)
  k_fill
  refine LamX.walk_ofOwn (l := PySem.Challenge.rw_doubtwell_k01_fractions) (n := 63) (k := 7) (x := "_law_script") (CX := fun _ => L2.CX0) rfl (by decide) rfl ⟨rfl, by decide, by decide⟩ (by decide +kernel) (fun w h Y => PySem.W.km_in_of Y) ?F (fun _ _ _ _ _ h => h)
  case F =>
    intro w mg fa h Y KX G hmg own
    refine' Dw.all_mk KX G hmg own ?aG ?lG ?cG ?kG ?aS ?lS ?cS ?kS ?aD ?lD ?cD ?kD ?aC ?lC ?cC ?kC ?aM ?lM ?cM ?kM ?aO ?lO ?cO ?kO ?aL ?lL ?cL ?kL ?aF ?lF ?cF ?kF ?aW ?lW ?cW ?kW ?aR ?lR ?cR ?kR ?dR ?lQ ?cQ ?kQ ?dQ ?lI ?cI ?kI ?dI ?aQ ?aN ?aI ?fQi ?rQ ?gQ ?xI ?rI ?sI ?eI ?yI ?pI ?iI ?uI ?nI0 ?wg ?wh ?we ?zb ?zi ?zt ?zs ?vV ?aX ?lX ?cXc ?oX ?tX ?hX ?nX ?b0 ?b1 ?b2 ?b3 ?b4 ?b5 ?b6 ?b7 ?b8 ?b9 ?b10 ?b11 ?b12
    (case aG => k_is)
    (case lG => k_is)
    (case cG => k_is)
    (case kG => k_is)
    (case aS => k_is)
    (case lS => k_is)
    (case cS => k_is)
    (case kS => k_is)
    (case aD => k_is)
    (case lD => k_is)
    (case cD => k_is)
    (case kD => k_is)
    (case aC => k_is)
    (case lC => k_is)
    (case cC => k_is)
    (case kC => k_is)
    (case aM => k_is)
    (case lM => k_is)
    (case cM => k_is)
    (case kM => k_is)
    (case aO => k_is)
    (case lO => k_is)
    (case cO => k_is)
    (case kO => k_is)
    (case aL => k_is)
    (case lL => k_is)
    (case cL => k_is)
    (case kL => k_is)
    (case aF => k_is)
    (case lF => k_is)
    (case cF => k_is)
    (case kF => k_is)
    (case aW => k_is)
    (case lW => k_is)
    (case cW => k_is)
    (case kW => k_is)
    (case aR => k_is)
    (case lR => k_is)
    (case cR => k_is)
    (case kR => k_is)
    (case dR => k_is)
    (case aQ => k_is)
    (case aN => k_is)
    (case aI => k_is)
    (case fQi => k_is)
    (case rQ => k_is)
    (case gQ => k_is)
    (case xI => k_is)
    (case rI => first | k_is | rfl | kernel_rfl)
    (case sI => k_is)
    (case eI => k_is)
    (case yI => k_is)
    (case pI => k_is)
    (case iI => k_is)
    (case uI => k_is)
    (case nI0 => k_is)
    (case wg => k_is)
    (case wh => k_is)
    (case we => k_is)
    (case zb => k_is)
    (case zi => k_is)
    (case zt => k_is)
    (case zs => k_is)
    (case vV => first | k_is | rfl | kernel_rfl)
    (case aX => k_is)
    (case lX => k_is)
    (case cXc => k_is)
    (case oX => k_is)
    (case tX => first | rfl | k_is)
    (case hX => first | k_is | rfl | kernel_rfl)
    (case nX => first | k_is | rfl | kernel_rfl)
    (case b0 => k_is)
    (case b1 => k_is)
    (case b2 => k_is)
    (case b3 => k_is)
    (case b4 => k_is)
    (case b5 => k_is)
    (case b6 => k_is)
    (case b7 => k_is)
    (case b8 => k_is)
    (case b9 => k_is)
    (case b10 => k_is)
    (case b11 => k_is)
    (case b12 => k_is)
    (case lQ => k_is)
    (case cQ => k_is)
    (case kQ => k_is)
    (case dQ => k_is)
    (case lI => k_is)
    (case cI => k_is)
    (case kI => k_is)
    (case dI => k_is)
