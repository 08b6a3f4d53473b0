import PyProof.Rows.All
import Wide.All
import OpenK.AllK
import Wide.FinOn
import HandS.ForMost
import HandS.ForExc
import HandS.ExcInit
import HandS.ExcField
import HandS.Lambda
import HandS.EndTab
import HandS.Defaults
import HandS.Wide
import HandS.IsInst
import HandS.ClsMeth
import HandS.Zip
import HandS.Codes
import HandS.CallSlots
import HandS.FStr
import HandS.FStrTup
import HandS.DictComp
import HandS.More
import HandS.Strs
import HandS.SortInts
import KE.SortData
import HandS.TupSets
import HandS.EndOwn
import HandS.Style
import KE.KNestM
import PySem.Challenge.RW_doubtwell_k03_interval_lists_are_validat
set_option Elab.async false
set_option linter.all false
set_option maxRecDepth 100000
set_option maxHeartbeats 4000000
set_option exponentiation.threshold 9000
namespace Dw
open PySem PySem.Spec PyProof.Rows L2
/-! ### rules of our own -/
/-- x // y of great ints, y of either sign -/
def CDivZ (_ y : Int) : Prop := y ≠ 0 ∧ y.natAbs.log2 < 9000
theorem op_fdivZ {X : Cx} : OpR X (binaryOp .FloorDiv) (rI CDivZ fun x y => .int (x.fdiv y)) :=
  opI fun _ _ _ _ _ _ _ ok want => floordiv_int ok.1 want (.inl (PyProof.noPylong_of_log2 ok.2))
theorem divZ_of {x y : Int} {n : Nat} (ne : y ≠ 0) (lt : y.natAbs < 2 ^ n) (pos : 0 < n) (le : n ≤ 9000) : CDivZ x y :=
  ⟨ne, Nat.lt_of_lt_of_le (PySem.Flt.log2_lt_of pos lt) le⟩
/-- C.m(e, ..), C a class of the text, m a def of it -/
theorem pe_clsfn {X : Cx} {CX : CXT} {k : Nat} {f C : Addr} {fd : FuncData} {ps : List Str} {sp : Sp} {dvs : List V} {ds : List Value} {E : XK} {x m : Str} {mc : Value}
    {p1 p2 pos : Pos} {e : Expr} {es : List Expr} {t : TA} {pl : Sem Bool} (G : FnOk X.prog X.w X.K X.mg X.base CX k f fd ps sp) (room : Room k X.A) (gl : Gl X x) (isC : X.mg x = some (.ref C))
    (rd : ClX.CRead X.K C mc) (fnd : PySem.W.findCls X.K (.ref C) mc m = some (.val (.ref f))) (kp : PySem.W.keepIn X.K (.ref f) = true) (bn : L2.Binds X.K fd ps ds) (dv : Vals dvs ds) (pas : Passes CX X E)
    (ha : PA X (e :: es) t) (nd : (x == ("__debug__" : Str)) = false := by decide)
    (ev : eval (.Call (.Attribute (.Name x p1) m p2) (e :: es) [] pos) X.env = (do
        let who ← eval (.Name x p1) X.env
        standAt p2.atName
        let (fn, fst) ← holding [who] (getMethod who m pl)
        callWith pos fn fst (backTo pos (starEach (e :: es) X.env)) (backToKw pos (keywordEach [] X.env))) := by rfl)
    (st : starEach (e :: es) X.env = (false, eval e X.env) :: starEach es X.env := by rfl) (ns : (backTo pos (starEach es X.env)).any (·.1) = false := by rfl) :
    PE X (.Call (.Attribute (.Name x p1) m p2) (e :: es) [] pos) (tCall sp dvs E t) := by
  refine ⟨fun pins s σ H Q J rd0 => ?_⟩
  refine PySem.W.methodCall_KW (ld_glob J gl isC ?_ nd) ev
  refine PySem.W.method_cls J.kIn rd.ga (PySem.W.cls_value J.kIn rd.rd fnd rfl ?_)
  have J1 := J.tok (s.toks + 1)
  refine PySem.W.callWith_K (h₀ := X.base) J.ok.mod.kin kp ?_ st ns
  refine thn (ha.run pos pins _ σ H _ J1 rd0) fun us s1 got => ?_
  obtain ⟨vs, H1, J2, rv, q⟩ := got
  exact ⟨J2.kIn, run_fn G room bn dv pas J2 rv q⟩
/-- err.f, the error's class told where it is read -/
theorem pe_xfE {X : Cx} {a : Addr} {oe : Obj} {cls : Value} {d : Option Addr} {pn : List (Addr × Obj)} {e : Expr} {te : TE} {pos : Pos} {n : Str} (hz : Zc cls d oe) (hf : ∃ vs, oe.data = .fields vs)
    (he : PE (X.suite a ((a, oe) :: pn)) e te) (hb : attributeBase e n X.env (eval e X.env) = eval e X.env := by rfl) :
    PE (X.suite a ((a, oe) :: pn)) (.Attribute e n pos) (fun σ H Q => ∃ C, XfC X.K C ∧ PySem.W.findIn X.K (.ref C) n = some none ∧ tXf a cls d C n te σ H Q) :=
  ⟨fun pins s σ H Q J ⟨_, xf, nf, z⟩ => (pe_xf xf nf hz hf he hb).run pins s σ H Q J z⟩
/-! ### try: .. except A as n: .. except B as n: .. -/
abbrev Suite := Addr → Value → Option Addr → TS
/-- behind the suite the name is gone -/
def endAs (i : Nat) (D : Ends) : Ends where
  nx := fun σ H => D.nx (σ.set i none) H
  rt := D.rt
  bk := fun σ H => D.bk (σ.set i none) H
  ct := fun σ H => D.ct (σ.set i none) H
def wAll (K : PySem.W.Frag) (i : Nat) (out : WX) (D : Ends) : List (Value × Suite) → WX
  | [] => out
  | (c, ts) :: more => fun cls d σ H => ∃ b, PySem.W.exmOne K cls c = some b ∧ (b = true → ∀ a, H a = none → ts a cls d (endAs i D) (σ.set i (some (.ref a))) H) ∧ (b = false → wAll K i out D more cls d σ H)
inductive Clauses (X : Cx) (n : Str) : List ExceptHandler → List (Value × Suite) → Prop
  | none : Clauses X n [] []
  | one {x : Str} {c : Value} {ts : Suite} {st : Stmt} {su : List Stmt} {q1 q2 : Pos} {more : List ExceptHandler} {l : List (Value × Suite)} (nm : Names X x c)
      (run : ∀ (a : Addr) (oe : Obj) (cls : Value) (d : Option Addr) (pn : List (Addr × Obj)), Zc cls d oe → (∃ vs, oe.data = .fields vs) → PSs (X.suite a ((a, oe) :: pn)) (st :: su) (ts a cls d))
      (rest : Clauses X n more l) : Clauses X n (.ExceptHandler (some (.Name x q1)) (some n) (st :: su) q2 :: more) ((c, ts) :: l)
section
variable {X : Cx} {n : Str} {i : Nat} {body : List Stmt} {hd : ExceptHandler} {more : List ExceptHandler} {l : List (Value × Suite)} {pos : Pos} {tb : WX → TS} {out : WX}
theorem ps_try_all (hs : X.stack = X.env :: X.outer) (hf : X.env.frame = some X.env.locals) (hN : X.N.Nodup) (hi : X.N[i]? = some n) (hln : X.env.kindOf n = some .local) (tk : Takes X out)
    (hb : ∀ (W : WX) (pn : List (Addr × Obj)) (xe : Value → Shared → Prop), Takes (X.tr pn xe) W → PassesOwn (model X.prog X.w) X.A X.env xe → PSs (X.tr pn xe) body (tb W))
    (cl : Clauses X n (hd :: more) l) : PS X (.Try body (hd :: more) [] [] pos) (fun D σ H => tb (wAll X.K i out D l) D σ H) := by
  refine ⟨fun pins s σ H D J0 h => ?_⟩
  have ok := J0.ok
  have frm : X.A.frames = some (X.env :: X.outer) := by rw [ok.frames, hs]
  have isLoc : Loc X.env.scope n := .inl hln
  refine wpAny_Try_except (wpAny_mono ((hb (wAll X.K i out D l) (X.pn ++ pins)
    (fun e s₁ => wpAny (model X.prog X.w) X.A (noteFrame e X.env) (fun _ s₂ => wpAny (model X.prog X.w) X.A (setFlight e none)
      (fun _ s₃ => wpAny (model X.prog X.w) X.A (handleBy e X.env (hd :: more)) (SP X pins D) X.xe s₃) X.xe s₂) X.xe s₁)
    (fun u s' air => ?_) PassesOwn.looking).run [] s σ H D (J0.toTry _) h) (fun f s1 sp => ?_) (fun _ _ z => z))
  · obtain ⟨a, B, sI, _, σ', H', cls, d, rfl, Jt, nb, up, sky, na, os, ag, wish⟩ := air
    have J : Inv X pins σ' H' sI := Jt.ofTry ok
    show wpAny (model X.prog X.w) X.A (noteFrame (.ref a) X.env) _ _ _
    refine Sky.land Zc.steady frm hf (by rw [← hs]; exact sky) fun h3 fl3 up3 => ?_
    have J3 : Inv X pins σ' H' { s' with heap := h3 } := J.landed nb fl3.1 (up.trans up3) os ag
    obtain ⟨oe3, vs3, at3, zc3, da3⟩ := fl3.there
    have off : a ∉ frs (X.env :: X.outer) := fun mem => by
      obtain ⟨_, o', at', no⟩ := fl3.2.2.1.mem mem
      rw [at3] at at'
      cases at'
      exact no _ da3
    have nL : a ≠ X.env.locals := fun z => off (List.mem_filterMap.mpr ⟨X.env, List.mem_cons_self, by rw [hf, z]⟩)
    have nF : a ∉ X.fs := fun mem => by
      obtain ⟨e, he, q⟩ := List.mem_filterMap.mp mem
      exact off (List.mem_filterMap.mpr ⟨e, List.mem_cons_of_mem _ he, q⟩)
    have S3 := J3.suite at3 da3 na nL nF
    have go : ∀ {hs' : List ExceptHandler} {l' : List (Value × Suite)}, Clauses X n hs' l' → wAll X.K i out D l' cls d σ' H' →
        wpAny (model X.prog X.w) X.A (handleBy (.ref a) X.env hs') (SP X pins D) X.xe { s' with heap := h3 } := by
      intro hs' l' cs
      induction cs with
      | none =>
        intro wsh
        refine wpAny_handleBy_nil ?_
        obtain ⟨_, _, _, oe, vs, T, oT, ts', he, hz, hdd, h1, hr⟩ := id fl3
        unfold PySem.passOn
        refine wpAny_bind (wpAny_field he hdd h1 ?_)
        rw [if_neg (show ¬ ((Value.ref T == Value.none) = true) from by simp)]
        have last : wpAny (model X.prog X.w) X.A (setFlight (.ref a) X.env.frame) (fun _ s4 => wpAny (model X.prog X.w) X.A (throw (.ref a) : Sem Flow) (SP X pins D) X.xe s4) X.xe { s' with heap := h3 } := by
          rw [hf]
          refine HandSPX.setFlight_upZ fl3 fun h4 held up4 => wpAny_throw (tk _ _ ⟨a, B, sI, pins, σ', H', cls, d, rfl, J, nb, (up.trans up3).trans up4, .inr (.inr (by rw [hs]; exact held)), na, os, ag, wsh⟩)
        first
          | exact wpAny_bind (wpAny_pure (wpAny_bind last))
          | exact wpAny_bind last
      | @one x c ts st su q1 q2 more2 l2 nm run rest ih =>
        intro wsh
        obtain ⟨b, is, yes, no⟩ := wsh
        refine wpAny_handleBy_cons (codeAny_handlers_test ?_) (by intro z; cases z)
        have LT : PySem.W.Looks (model X.prog X.w) h3 (typeOf (.ref a)) cls := fun A Q E s k q => wpAny_typeOf_ref (k _ _ at3) (by rw [zc3.1]; exact q)
        have LM := PySem.W.exm_one (M := model X.prog X.w) J3.kIn LT is
        have look : ∀ {Q : Value → Shared → Prop} {E : Value → Shared → Prop}, Q c { s' with heap := h3 } →
            wpAny (model X.prog X.w) (X.A.mark (some (.ref a))) (eval (.Name x q1) X.env) Q E { s' with heap := h3 } := fun {Q E} q => by
          obtain ⟨g1, g2, g3 | ⟨g3, g4, g5⟩⟩ := nm
          · exact ld_glob (X := X.suite a ((a, oe3) :: (X.pn ++ pins))) S3 g1 g3 q g2
          · exact ld_blt (X := X.suite a ((a, oe3) :: (X.pn ++ pins))) S3 g1 g3 g4 q g5 g2
        refine look (LM.here ?_)
        cases b with
        | true =>
          refine codeAny_handlers_suite_as (HandSPX.lands_againZ fl3 fun h4 fl4 up4 => ?_)
          have J4 : Inv X pins σ' H' { s' with heap := h4 } := J.landed nb fl4.1 ((up.trans up3).trans up4) os ag
          obtain ⟨oe4, vs4, at4, zc4, da4⟩ := fl4.there
          refine store_ok (X := X.suite a ((a, oe4) :: (X.pn ++ pins))) (v := .ref a) (J4.suite at4 da4 na nL nF) hN hi isLoc rfl (fun s5 S5 => ?_) (.inr hln)
          refine wpAny_mono ((run a oe4 cls d (X.pn ++ pins) zc4 ⟨_, da4⟩).run [] s5 _ H' _ S5 (yes rfl a na)) (fun f s6 sp => ?_) (fun _ _ z => z.elim)
          have fin : ∀ {σ6 : L2.St} {H6 : Hp} {Q : Shared → Prop}, Inv (X.suite a ((a, oe4) :: (X.pn ++ pins))) [] σ6 H6 s6 → (∀ s7, Inv X pins (σ6.set i none) H6 s7 → Q s7) →
              wpAny (model X.prog X.w) X.A (do bindName X.env n .none; unbindBehindTheSuite X.env n q2) (fun _ s7 => Q s7) X.xe s6 := fun {σ6 H6 Q} S6 hq => gone_ok (S6.unsuite ok) hN hi hln hq
          cases f with
          | next => exact let ⟨σ6, H6, S6, q6⟩ := sp; fin S6 fun s7 J7 => ⟨_, _, J7, q6⟩
          | brk => exact let ⟨σ6, H6, S6, q6⟩ := sp; fin S6 fun s7 J7 => ⟨_, _, J7, q6⟩
          | cont => exact let ⟨σ6, H6, S6, q6⟩ := sp; fin S6 fun s7 J7 => ⟨_, _, J7, q6⟩
          | ret u => exact let ⟨v6, σ6, H6, S6, r6, q6⟩ := sp; fin S6 fun s7 J7 => ⟨_, _, _, J7, r6, q6⟩
        | false =>
          show wpAny _ X.A (handleBy (.ref a) X.env more2) _ _ _
          exact ih (no rfl)
    exact go cl wish
  · cases f with
    | next => exact let ⟨σ', H', J', q⟩ := sp; wpAny_execs_nil ⟨σ', H', J'.ofTry ok, q⟩
    | brk => exact let ⟨σ', H', J', q⟩ := sp; ⟨σ', H', J'.ofTry ok, q⟩
    | cont => exact let ⟨σ', H', J', q⟩ := sp; ⟨σ', H', J'.ofTry ok, q⟩
    | ret u => exact let ⟨v, σ', H', J', r, q⟩ := sp; ⟨v, σ', H', J'.ofTry ok, r, q⟩
end
/-- f(k = v, ..): keywords alone -/
theorem pe_callN0 {X : Cx} {CX : CXT} {k : Nat} {f : Addr} {fd : FuncData} {ps ks : List Str} {sp : Sp} {E : XK} {x : Str} {p pos : Pos} {kws : List Keyword} {tk : TA} {g : List Value → List Value → List Value} {gV : List V → List V → List V}
    (G : FnOk X.prog X.w X.K X.mg X.base CX k f fd ps sp) (room : Room k X.A) (gl : Gl X x) (isF : X.mg x = some (.ref f)) (kp : PySem.W.keepIn X.K (.ref f) = true) (bn : KBn X.K fd ps 0 ks g gV) (pas : Passes CX X E) (kw : PK X kws tk)
    (all : (backToKw pos (keywordEach kws X.env)).all (·.1.isSome) = true := by rfl) (nms : (backToKw pos (keywordEach kws X.env)).filterMap (·.1) = ks := by rfl) (nd : (x == ("__debug__" : Str)) = false := by decide)
    (pl : ((backTo pos (starEach [] X.env)).any (·.1) || (backToKw pos (keywordEach kws X.env)).any (·.1.isNone)) = false := by rfl) : PE X (.Call (.Name x p) [] kws pos) (tCallN 0 ks.length sp gV E tNil tk) := by
  refine ⟨fun pins s σ H Q J h => ?_⟩
  refine wpAny_Call_Name_kw (ld_glob J gl isF ?_ nd)
  refine PySem.W.callWith_KW0 (h₀ := X.base) J.ok.mod.kin kp all ?_ pl
  refine thn (kw.run pos pins s σ H _ J h) fun ws s2 got => ?_
  obtain ⟨zs, H2, J2, rz, l1, l2, q⟩ := got
  refine ⟨J2.kIn, ?_⟩
  rw [nms]
  exact run_fnN (us := []) (vs := []) G room bn pas J2 .nil rz l1 l2 q
/-- a block read by a weaker word -/
theorem pss_imp {X : Cx} {b : List Stmt} {t u : TS} (h : PSs X b t) (i : ∀ D σ H, u D σ H → t D σ H) : PSs X b u := ⟨fun pins s σ H D J q => h.run pins s σ H D J (i D σ H q)⟩
theorem pe_imp {X : Cx} {e : Expr} {t u : TE} (h : PE X e t) (i : ∀ σ H Q, u σ H Q → t σ H Q) : PE X e u := ⟨fun pins s σ H Q J q => h.run pins s σ H Q J (i σ H Q q)⟩
/-- xs[i], by values, where xs[i] op= e reads it -/
def rGetL (K : PySem.W.Frag) : V → V → Hp → VK → Prop := fun o i H Q => ∃ p xs j v, o = .ref p ∧ i = .int ((j : Nat) : Int) ∧ SqL K H p xs ∧ xs[j]? = some v ∧ Q v H
theorem get_list {X : Cx} : PGet X (rGetL X.K) := by
  intro pins s σ H o i ov iv Q J ro ri h
  obtain ⟨p, xs, j, v, rfl, rfl, hq, hx, q⟩ := h
  cases ro
  obtain ⟨t, rfl⟩ := ri
  obtain ⟨its, r, pl, hz⟩ := J.list hq
  obtain ⟨u, eu, ru⟩ := r.get hx
  have hj : j < xs.length := (List.getElem?_eq_some_iff.mp hx).1
  have hn := line63
  exact wpAny_getItem_list pl.isList (by omega) (by omega) (by simpa using eu) ⟨v, H, J, ru, q⟩
end Dw
namespace Dw
/-! ### the mathematics of reduced fractions -/
theorem gcd_fmod (x y : Int) : Int.gcd y (x.fmod y) = Int.gcd x y := by
  rw [Int.fmod_def, Int.gcd_comm y, Int.mul_comm, Int.gcd_sub_mul_right_left]
theorem fmod_less (x y : Int) (h : y ≠ 0) : (x.fmod y).natAbs < y.natAbs := by
  rcases Int.lt_or_lt_of_ne h with h | h
  · have e : x.fmod y = -((-x).fmod (-y)) := by
      rw [Int.fmod_def, Int.fmod_def, Int.neg_fdiv_neg]
      simp only [Int.neg_mul]
      omega
    have h1 := Int.fmod_nonneg_of_pos (-x) (b := -y) (by omega)
    have h2 := Int.fmod_lt_of_pos (-x) (b := -y) (by omega)
    omega
  · have h1 := Int.fmod_nonneg_of_pos x h
    have h2 := Int.fmod_lt_of_pos x h
    omega
/-- the reduced fraction of n and d -/
def gd (n d : Int) : Int := if d < 0 then -(Int.gcd n d : Int) else (Int.gcd n d : Int)
def rn (n d : Int) : Int := n.fdiv (gd n d)
def rd (n d : Int) : Int := d.fdiv (gd n d)
theorem gd_dvd (n d : Int) : gd n d ∣ n ∧ gd n d ∣ d := by
  have h1 := Int.gcd_dvd_left n d
  have h2 := Int.gcd_dvd_right n d
  unfold gd
  split
  · exact ⟨(Int.neg_dvd).mpr h1, (Int.neg_dvd).mpr h2⟩
  · exact ⟨h1, h2⟩
theorem gd_ne {n d : Int} (h : d ≠ 0) : gd n d ≠ 0 := by
  have h1 : 0 < Int.gcd n d := Int.gcd_pos_of_ne_zero_right n h
  unfold gd
  split <;> omega
theorem gd_abs (n d : Int) : (gd n d).natAbs = Int.gcd n d := by
  unfold gd
  split <;> omega
theorem rn_eq {n d : Int} (h : d ≠ 0) : gd n d * rn n d = n := by
  unfold rn
  rw [Int.fdiv_eq_ediv_of_dvd (gd_dvd n d).1]
  exact Int.mul_ediv_cancel' (gd_dvd n d).1
theorem rd_eq {n d : Int} (h : d ≠ 0) : gd n d * rd n d = d := by
  unfold rd
  rw [Int.fdiv_eq_ediv_of_dvd (gd_dvd n d).2]
  exact Int.mul_ediv_cancel' (gd_dvd n d).2
theorem rd_pos {n d : Int} (h : d ≠ 0) : 0 < rd n d := by
  have e := rd_eq (n := n) h
  have g := gd_ne (n := n) h
  have hs : (d < 0 ∧ gd n d < 0) ∨ (0 < d ∧ 0 < gd n d) := by
    have h1 : 0 < Int.gcd n d := Int.gcd_pos_of_ne_zero_right n h
    unfold gd
    split <;> omega
  rcases hs with ⟨h1, h2⟩ | ⟨h1, h2⟩
  · rcases Int.lt_trichotomy (rd n d) 0 with z | z | z
    · have := Int.mul_pos_of_neg_of_neg h2 z
      omega
    · rw [z, Int.mul_zero] at e
      omega
    · exact z
  · rcases Int.lt_trichotomy (rd n d) 0 with z | z | z
    · have := Int.mul_neg_of_pos_of_neg h2 z
      omega
    · rw [z, Int.mul_zero] at e
      omega
    · exact z
theorem r_gcd {n d : Int} (h : d ≠ 0) : Int.gcd (rn n d) (rd n d) = 1 := by
  have e : Int.gcd (gd n d * rn n d) (gd n d * rd n d) = Int.gcd n d := by rw [rn_eq h, rd_eq h]
  rw [Int.gcd_mul_left, gd_abs] at e
  have h1 : 0 < Int.gcd n d := Int.gcd_pos_of_ne_zero_right n h
  exact Nat.eq_of_mul_eq_mul_left h1 (by rw [e, Nat.mul_one])
theorem r_cross {n d : Int} (h : d ≠ 0) : rn n d * d = n * rd n d := by
  have e1 := rn_eq (n := n) h
  have e2 := rd_eq (n := n) h
  calc rn n d * d = rn n d * (gd n d * rd n d) := by rw [e2]
    _ = (gd n d * rn n d) * rd n d := by rw [← Int.mul_assoc, Int.mul_comm (rn n d)]
    _ = n * rd n d := by rw [e1]
theorem cop_dvd {a b c : Int} (g : Int.gcd a b = 1) (h : b ∣ a * c) : b ∣ c := by
  have h1 : b.natAbs ∣ a.natAbs * c.natAbs := by
    rw [← Int.natAbs_mul]
    exact Int.natAbs_dvd_natAbs.mpr h
  have h2 : Nat.Coprime b.natAbs a.natAbs := by
    rw [Nat.coprime_comm]
    exact g
  exact Int.natAbs_dvd_natAbs.mp (h2.dvd_of_dvd_mul_left h1)
/-- what is reduced and equal is the same -/
theorem r_uniq {n d a b : Int} (h : d ≠ 0) (hb : 0 < b) (hg : Int.gcd a b = 1) (hx : a * d = n * b) : rn n d = a ∧ rd n d = b := by
  have p := rd_pos (n := n) h
  have c := r_cross (n := n) h
  have g := r_gcd (n := n) h
  have x : rn n d * b = a * rd n d := by
    have h3 : (rn n d * b) * d = (a * rd n d) * d := by
      calc (rn n d * b) * d = (rn n d * d) * b := by rw [Int.mul_assoc, Int.mul_comm b, ← Int.mul_assoc]
        _ = (n * rd n d) * b := by rw [c]
        _ = (n * b) * rd n d := by rw [Int.mul_assoc, Int.mul_comm (rd n d), ← Int.mul_assoc]
        _ = (a * d) * rd n d := by rw [hx]
        _ = (a * rd n d) * d := by rw [Int.mul_assoc, Int.mul_comm d, ← Int.mul_assoc]
    exact Int.eq_of_mul_eq_mul_right h h3
  have d1 : rd n d ∣ b := by
    have q : rd n d ∣ rn n d * b := ⟨a, by rw [x, Int.mul_comm]⟩
    exact cop_dvd g q
  have d2 : b ∣ rd n d := by
    have q : b ∣ a * rd n d := ⟨rn n d, by rw [← x, Int.mul_comm]⟩
    exact cop_dvd hg q
  have e : rd n d = b := Int.dvd_antisymm (by omega) (by omega) d1 d2
  refine ⟨?_, e⟩
  rw [e] at x
  exact Int.eq_of_mul_eq_mul_right (by omega) x
theorem gcd_le_abs {n d : Int} (h : d ≠ 0) : Int.gcd n d ≤ d.natAbs := Nat.le_of_dvd (by omega) (Int.natCast_dvd_natCast.mp (by
  have := Int.gcd_dvd_right n d
  rw [Int.dvd_natAbs]
  exact this))
theorem abs_if (i : Int) : (if i < 0 then -i else i) = (i.natAbs : Int) := by
  split <;> omega
end Dw
namespace Dw
open PySem PySem.Spec PyProof.Rows L2 LamX
/-! ### a lambda handed to a def, what is raised wished for at the def's own slots -/
/-- an expression read by a stronger wish -/
theorem pe_mono {X : Cx} {e : Expr} {t : TE} (h : PE X e t) : PE X e (fun σ H Q => ∃ Q0 : VK, (∀ v H', Q0 v H' → Q v H') ∧ t σ H Q0) :=
  ⟨fun pins s σ H Q J ⟨Q0, m, q⟩ => thn (h.run pins s σ H Q0 J q) fun u s1 ⟨v, H1, J1, r, q1⟩ => ⟨v, H1, J1, r, m _ _ q1⟩⟩
section
variable {X : Cx} {pins : List (Addr × Obj)} {σ : L2.St} {H : Hp} {s : Shared}
abbrev gotCx (X : Cx) (Ng : List Str) (qg : Str) (sg : Scope) (g : Addr) (cdg : Value) (s : Shared) (H : Hp) : Cx := cxOf C8.CX0 X.prog X.w X.K X.mg X.base Ng qg sg g cdg X.A X.stack s H C8.E0
/-- a() in the def that got the lambda (its context is entered at s) -/
theorem pe_actS {Ng : List Str} {qg : Str} {sg : Scope} {g f c : Addr} {cdg pm ctv : Value} {ar : Arguments} {body : Expr} {scope : Scope} {k i : Nat} {a : Str} {pn : List (Addr × Obj)} {xe : Value → Shared → Prop} {W : WX} {E : XK} {σ0 : L2.St} {tb : TE} {p1 p2 : Pos}
    (J : Inv X pins σ H s) (ls : LamS X.env.scope scope) (hf : s.heap.get? f = some (PySem.W.kla_obj "<lambda>" (X.env.qual ++ "<lambda>") ar body scope (cloFrom X.env.cells scope.names []) pm c ctv)) (nf : H f = none) (off : f ∉ frs X.stack)
    (bnd : bindArgs (PySem.W.kla_fn "<lambda>" (X.env.qual ++ "<lambda>") ar body scope (cloFrom X.env.cells scope.names []) pm (.ref c) ctv) ⟨[], []⟩ = pure [])
    (tk : Takes ((gotCx X Ng qg sg g cdg s H).tr pn xe) W) (wish : ∀ cls d H', E cls d H' → W cls d σ0 H') (room : Room (k + 1) (X.A.deeper (envOfC qg sg s.heap.objs.size g cdg)))
    (run : ∀ (A : Around) (outer : List Env) (s : Shared) (H : Hp), Room k (A.deeper (lamEnv X scope s.heap.objs.size f c)) → PE (lamCx X A outer s H E scope f c) body tb)
    (hN : Ng[i]? = some a) (hv : Vis sg a) (hd : (a == ("__debug__" : Str)) = false := by decide) (hcd : (a == ("__classdict__" : Str)) = false := by decide) :
    PE ((gotCx X Ng qg sg g cdg s H).tr pn xe) (.Call (.Name a p1) [] [] p2)
      (fun σZ HZ Q => σZ = σ0 ∧ σZ[i]? = some (some (.ref f)) ∧ HZ c = some (CodeO c (X.env.qual ++ "<lambda>")) ∧ tb σ HZ Q) := by
  refine ⟨fun pz sz σZ HZ Q JZ rd => ?_⟩
  obtain ⟨rfl, slot, code, want⟩ := rd
  refine wpAny_Call_Name_kw (thn ((pe_var (pos := p1) (i := i) hN hv hd hcd).run pz sz σZ HZ (fun v H1 => v = .ref f ∧ H1 = HZ) JZ ⟨.ref f, slot, rfl, rfl⟩) fun u s1 got => ?_)
  obtain ⟨v, H1, J1, rv, rfl, rfl⟩ := got
  obtain rfl : u = Value.ref f := rv
  have un : Un (frs X.stack) [] H H1 s.heap s1.heap := J1.base
  have there := un.keep f _ hf nf off (fun z => nomatch (show f ∈ ([] : List Addr) from z))
  refine PySem.W.callWith_F0 ⟨_, _, _, _, there⟩ ?_
  obtain ⟨⟨oc, vs, t, co1, co2, co3⟩, _, _⟩ := J1.hok c _ code
  have ran : codeAny (model X.prog X.w) (X.A.deeper (envOfC qg sg s.heap.objs.size g cdg)) (.call (.ref f) ⟨[], []⟩)
      (CR (L2.CX X.prog X.w) (envOfC qg sg s.heap.objs.size g cdg :: X.stack) X.prog X.w H1 s1 Q E) s1 := by
    refine PySem.W.kla_callFunE room.depth there rfl ls.co ls.gen rfl ⟨c, oc, vs, t, rfl, co1, co2, co3⟩ ?_
    rw [bnd]
    refine wpAny_pure (wpAny_newFunctionEnv (fun y hy => (ls.own y hy).2) (fun y hy => absurd hy (by simp)) (fun h₁ ns sb => ⟨J1.nolimit.fresh _ sb, ?_⟩) ls.kind)
    show codeAny _ _ (.expr body (lamEnv X scope s1.heap.objs.size f c)) _ _
    have keeps : ∀ b o, s1.heap.get? b = some o → h₁.get? b = some o := fun b o e => sb.extBut b o (Nat.ne_of_lt (Heap.lt_size e)) (Heap.get?_push_of_some _ e)
    have JL := lam_start2 (A := X.A.deeper (envOfC qg sg s.heap.objs.size g cdg)) (outer := envOfC qg sg s.heap.objs.size g cdg :: X.stack) (E := E) (f := f) (c' := c) (tk := s1.toks + ([] : List (Str × Value)).length) J ls J1.env0 room.hd un ns keeps
    refine PySem.W.kla_codeExpr (wpAny_mono ((run _ _ s1 H1 (room.deeper _)).run [] _ _ H1 Q JL want) (fun v s' z => ?_) fun _ _ z => z)
    obtain ⟨v', H', JE, rv', q⟩ := z
    exact ⟨v', H', JE.os, JE.bare, JE.base, JE.hok, rv', q⟩
  refine wpAny_call (codeAny_mono ran fun r s' out => ?_)
  · cases r with
    | error e => exact tk e s' (XE.of_call J1 wish out)
    | ok fl =>
      cases fl with
      | ret u => exact J1.after out
      | _ => exact out.elim
/-- the def that calls what it got -/
def GivesS (X : Cx) (Ng : List Str) (x : Str) (sg : Scope) (g : Addr) (cdg : Value) (bg : List Stmt) (a q : Str) (TT : (XK → Hp → VK → Prop) → Hp → VK → Prop) : Prop :=
  ∀ (f c : Addr) (s : Shared) (H : Hp) (Q : VK) (tl : XK → Hp → VK → Prop),
    (∀ (W : WX) (pn : List (Addr × Obj)) (xe : Value → Shared → Prop) (E : XK) (σ0 : L2.St) (p1 p2 : Pos), Takes ((gotCx X Ng x sg g cdg s H).tr pn xe) W → (∀ cls d H', E cls d H' → W cls d σ0 H') →
      PE ((gotCx X Ng x sg g cdg s H).tr pn xe) (.Call (.Name a p1) [] [] p2) (fun σZ HZ Q => σZ = σ0 ∧ σZ[0]? = some (some (.ref f)) ∧ HZ c = some (CodeO c q) ∧ tl E HZ Q)) →
    H c = some (CodeO c q) → TT tl H Q → ∃ t, PSs (gotCx X Ng x sg g cdg s H).nox bg t ∧ t { nx := fun _ H' => Q .non H', rt := Q } (L2.start Ng [.ref f]) H
/-- x(lambda: body) -/
theorem pe_lamS {T : List (Addr × Str)} {TT : (XK → Hp → VK → Prop) → Hp → VK → Prop} {x a : Str} {g c P : Addr} {k : Nat} {pg : Arguments} {bg : List Stmt} {sg : Scope} {dV kV doc pm cdv ct oc : Value} {an od : Option Addr} {osl : Array (Option Value)} {Ng : List Str}
    {ar : Arguments} {body : Expr} {scope : Scope} {t : XK → TE} {p lpos pos : Pos} (gl : Gl X x) (isG : X.mg x = some (.ref g)) (kp : PySem.W.keepIn X.K (.ref g) = true)
    (lk : X.K.lookup g = some ⟨oc, od, .func (PySem.W.fnOf x x pg bg sg dV kV doc pm an cdv ct), osl⟩) (cg : PySem.W.codeIn X.K cdv x = true) (bn : L2.Binds X.K (PySem.W.fnOf x x pg bg sg dV kV doc pm an cdv ct) [a] []) (Sg : FnScope Ng [a] sg) (hNg : Ng[0]? = some a) (hva : Vis sg a)
    (G : GivesS X Ng x sg g cdv bg a (X.env.qual ++ "<lambda>") TT) (TB : LamX.TabB X.base X.mg c P) (code : X.env.code = .ref c) (inT : (P, X.env.qual ++ "<lambda>") ∈ T) (one : ∀ p ∈ T, p.1 = P → p.2 = X.env.qual ++ "<lambda>") (room : Room (k + 2) X.A) (ls : LamS X.env.scope scope)
    (nodef : defaultsOf ar X.env = ([], [])) (bnd : ∀ (q : Str) (cl : List (Str × Addr)) (pm cv ctv : Value), bindArgs (PySem.W.kla_fn "<lambda>" q ar body scope cl pm cv ctv) ⟨[], []⟩ = pure [])
    (run : ∀ (E : XK) (f c : Addr) (A : Around) (outer : List Env) (s : Shared) (H : Hp), Room k (A.deeper (lamEnv X scope s.heap.objs.size f c)) → PE (lamCx X A outer s H E scope f c) body (t E))
    (hdb : (x == ("__debug__" : Str)) = false := by decide) (hd : (a == ("__debug__" : Str)) = false := by decide) (hcd : (a == ("__classdict__" : Str)) = false := by decide) :
    PE X (.Call (.Name x p) [.Lambda ar body scope lpos] [] pos) (tLam T TT t) := by
  refine ⟨fun pins s σ H Q J rd => ?_⟩
  obtain ⟨tabs, rd⟩ := rd
  refine wpAny_Call_Name_kw (ld_glob J gl isG ?_ hdb)
  refine PySem.W.callWith_K (h₀ := X.base) J.ok.mod.kin kp ?_ (by rfl) (by rfl)
  show wpAny _ _ (spliced ((false, eval (.Lambda ar body scope lpos) X.env) :: backTo pos (starEach [] X.env))) _ _ s
  refine Calls.spliced_cons (lam_make2 J TB code inT one tabs nodef (ls.has J.ok) fun f c' pm' ctv H1 s' J1 ext tabs1 hf nf off hco => ?_)
  refine Calls.spliced_nil ⟨J1.kIn, ?_⟩
  have ran : codeAny (model X.prog X.w) X.A (.call (.ref g) ⟨[.ref f], []⟩) (CR C8.CX0 X.stack X.prog X.w H1 s' Q C8.E0) s' := by
    refine run_ofS (N := Ng) (ps := [a]) (us := [.ref f]) (vs := [.ref f]) lk cg Sg room J1.env0 (bn s' [.ref f] J1.kIn rfl) (.cons rfl .nil) rfl fun room' => ?_
    obtain ⟨t', ht, hq⟩ := G f c' s' H1 Q (fun E H' Q' => t E σ H' Q') (fun W pn xe E σ0 p1 p2 tk wish => pe_actS (i := 0) (tb := t E) J1 ls hf nf off (bnd _ _ _ _ _) tk wish room' (fun A outer s H rm => run E f c' A outer s H rm) hNg hva hd hcd) hco (rd H1 ext tabs1)
    exact ⟨t', ht.nox, hq⟩
  refine wpAny_call (codeAny_mono ran fun r s2 out => ?_)
  · cases r with
    | error e => exact (show False from out).elim
    | ok fl =>
      cases fl with
      | ret u => exact J1.after out
      | _ => exact out.elim
end
end Dw
namespace Dw
open PySem PySem.Spec PyProof.Rows L2
/-! ### {t!r}, t a pair of ints: some text -/
def tFmtP (K : PySem.W.Frag) (te : TE) : TE := fun σ H Q => te σ H fun x H1 => ∃ (a : Addr) (i j : Int), x = .ref a ∧ SqT K H1 a [.int i, .int j] ∧ i.natAbs < 10 ^ 500 ∧ j.natAbs < 10 ^ 500 ∧ ∀ m : Str, m.length ≤ 2000 → Q (.str m) H1
theorem txt_len {i : Int} (h : i.natAbs < 10 ^ 500) : (Str.ofString (toString i)).length ≤ 501 := by
  rw [PySem.ofString_length]
  exact int_text_length_le10 (by decide) h
theorem log_lt {i : Int} (h : i.natAbs < 10 ^ 500) : i.natAbs.log2 < 1920 := by
  by_cases z : i.natAbs = 0
  · rw [z]
    decide
  · have e : (10 : Nat) ^ 500 < 2 ^ 1920 := by decide +kernel
    exact (Nat.log2_lt z).mpr (Nat.lt_trans h e)
theorem pe_fmtRP {X : Cx} {e : Expr} {te : TE} {pos : Pos} {k : Nat} (room : Room k X.A) (he : PE X e te) : PE X (.FormattedValue e 114 none pos) (tFmtP X.K te) := by
  refine ⟨fun pins s σ H Q J h => ?_⟩
  refine wpAny_FormattedValue_repr (thn (he.run pins s σ H _ J h) fun v s1 hv => ?_)
  obtain ⟨x, H1, J1, r1, a, i, j, rfl, ht, hi, hj, q⟩ := hv
  cases r1
  obtain ⟨its, rv, ⟨o, ho, hcl, n, hd⟩, _⟩ := J1.tuple ht
  have hu := room.units
  obtain ⟨t1, t2, rfl⟩ : ∃ t1 t2, its = [.int i t1, .int j t2] := by
    cases rv with
    | cons z1 z2 =>
      cases z2 with
      | cons z3 z4 =>
        cases z4
        obtain ⟨t1, rfl⟩ := z1
        obtain ⟨t2, rfl⟩ := z3
        exact ⟨t1, t2, rfl⟩
  have l1 := txt_len hi
  have l2 := txt_len hj
  have lt := fmt_text [Str.ofString (toString i), Str.ofString (toString j)]
  have lp : piled [Str.ofString (toString i), Str.ofString (toString j)] ≤ 1006 := by
    rw [piled_cons, piled_cons]
    show _ + (_ + 0) ≤ _
    omega
  refine wpAny_pyReprObj_slot (by omega) ⟨o, ho, hcl⟩ F.slot_tuple_repr (fmt_tuple_repr (ts := [Str.ofString (toString i), Str.ofString (toString j)]) ho hcl hd (.cons (ReprIs.int t1 (log_lt hi)) (.cons (ReprIs.int t2 (log_lt hj)) .nil)) (by rw [sizeLine_eq]; omega) fun m u tk hm => ⟨m, u, rfl, ?_⟩)
  have lm : m.length ≤ 2000 := by omega
  exact wpAny_formatField_str ⟨.str m, H1, J1.tok _, ⟨_, rfl⟩, q m lm⟩ ⟨.str m, H1, J1.tok _, ⟨_, rfl⟩, q m lm⟩ (by rw [sizeLine_eq]; omega)
/-! ### sorted(xs), xs a list that reads as data -/
open PySem.W in
def rSortData (K : PySem.W.Frag) : List V → Hp → VK → Prop := fun vs H Q => ∃ (a : Addr) (bs : List (V × PyData)), vs = [.ref a] ∧ SqL K H a (bs.map (·.1)) ∧ (∀ b ∈ bs, Dp K H b.1 b.2) ∧ AllAlike (bs.map (·.2)) ∧ Sortable (bs.map (·.2)) ∧ (∀ b ∈ bs, b.2.depth ≤ 30) ∧
  ∀ p, H p = none → Q (.ref p) (upd H p (.lst ((bs.mergeSort (dataLe false (·.2))).map (·.1))))
theorem each_vals {α : Type} {f : α → V} : ∀ {bs : List α} {its : List Value}, Vals (bs.map f) its → PySem.W.EachIs (fun v b => RelV (f b) v) its bs
  | [], _, r => by
    cases r
    exact .nil
  | b :: bs, _, r => by
    cases r with
    | cons r1 r2 => exact .cons r1 (each_vals r2)
theorem vals_each {α : Type} {f : α → V} : ∀ {bs : List α} {its : List Value}, PySem.W.EachIs (fun v b => RelV (f b) v) its bs → Vals (bs.map f) its
  | [], _, r => by
    cases r
    exact .nil
  | b :: bs, _, r => by
    cases r with
    | cons r1 r2 => exact .cons r1 (vals_each r2)
theorem each_reads {X : Cx} {pins : List (Addr × Obj)} {σ : L2.St} {H : Hp} {s : Shared} (J : Inv X pins σ H s) : ∀ {bs : List (V × PyData)} {its : List Value}, Vals (bs.map (·.1)) its → (∀ b ∈ bs, Dp X.K H b.1 b.2) → PySem.W.EachIs (fun v b => ∃ as, Reads s.heap v b.2 as) its bs
  | [], _, r, _ => by
    cases r
    exact .nil
  | b :: bs, _, r, h => by
    cases r with
    | cons r1 r2 => exact .cons (Dp.reads J b.2 b.1 _ (h b List.mem_cons_self) r1) (each_reads J r2 fun c hc => h c (List.mem_cons_of_mem _ hc))
theorem cr_sortData {X : Cx} (hu : X.A.units + 64 < cLine) : CallR X (.builtin "sorted") (rSortData X.K) := by
  intro pins s σ H vs us Q J r h
  obtain ⟨a, bs, rfl, hs, hd, al, so, dp, q⟩ := h
  obtain ⟨its, rv, hl, hz⟩ := J.list hs
  rw [Vals.ref1 r]
  rw [List.length_map] at hz
  refine PySem.W.sorted_data (R := fun v (b : V × PyData) => RelV b.1 v) (enc := fun b : V × PyData => b.2) hl.isList (each_vals rv) (each_reads J rv hd) al so hz (fun b hb => by have := dp b hb; omega) fun out lo eo => ?_
  obtain ⟨ep, at'⟩ := PyProof.Rows.sortedAll_at s.heap its out.toArray
  refine ⟨.ref _, upd H (s.heap.objs.size + 1) (.lst ((bs.mergeSort (PySem.W.dataLe false (·.2))).map (·.1))), J.laid (t' := s.toks) (fun _ _ => PyProof.Rows.sortedAll_old) (Nat.le_succ _) ⟨?_, out, ep, vals_each eo, at'⟩, rfl, q _ (J.hok.fresh (Nat.le_succ _))⟩
  rw [List.length_map, List.length_mergeSort]
  exact hz
end Dw
namespace Dw
open PySem PySem.Spec PyProof.Rows L2
theorem pss_never {X : Cx} {b : List Stmt} : PSs X b (fun _ _ _ => False) := ⟨fun _ _ _ _ _ _ h => h.elim⟩
/-! ### name = {k: v for ..} on one line -/
theorem sw_dict {kx vx : Expr} {gs : List Comprehension} {scope : Scope} {pos py : Pos} {y : Str} {l : Nat} {env : Env} (hk : env.scope.kind = .function) (hy : env.scope.names.lookup y = some .local) (hl : (py.line == pos.line) = true)
    (ha : (scope.names.any fun (n, k) => n == y && (k == .local || k == .cell)) = false) : swapsWith (.DictComp kx vx gs scope pos) (some (.Name y py)) l env = pure true := by
  have k1 : env.kindOf y = some .local := hy
  have k2 : env.blockKind = .function := by
    unfold Env.blockKind
    rw [hk]
    rfl
  unfold swapsWith
  simp only [k2, k1, ha, Expr.pos, hl]
  rfl
theorem ps_setDc {X : Cx} {i : Nat} {y : Str} {py : Pos} {kx vx tg iter : Expr} {ifs : List Expr} {scope : Scope} {own : List (Str × Nat)} {pos spos : Pos} {wi : TI} {g : TG} {tt : TT} {tk tv : TE} (hc : X.calm = true) (hN : X.N.Nodup) (hy : X.N[i]? = some y) (loc : X.env.scope.names.lookup y = some .local)
    (sw : swapsWith (.DictComp kx vx [⟨tg, iter, ifs, 0⟩] scope pos) (some (.Name y py)) spos.line X.env = pure true) (hi : PI X tg iter wi) (ok : BlkOk X.N X.env.scope scope own)
    (hg : ∀ (s : Shared) (H : Hp) (C : Addr) (cl : List (Str × Addr)) (fp : List Addr), PG (X.blk s H scope (compEnvC scope cl C X.env) fp) tg g) (ht : ∀ (s : Shared) (H : Hp) (C : Addr) (cl : List (Str × Addr)) (fp : List Addr), PTs (X.blk s H scope (compEnvC scope cl C X.env) fp) ifs tt)
    (hk : ∀ (s : Shared) (H : Hp) (C : Addr) (cl : List (Str × Addr)) (fp : List Addr), PE (X.blk s H scope (compEnvC scope cl C X.env) fp) kx tk)
    (hv : ∀ (s : Shared) (H : Hp) (C : Addr) (cl : List (Str × Addr)) (fp : List Addr), PE (X.blk s H scope (compEnvC scope cl C X.env) fp) vx tv) (hs : ∀ x, foldedSetIterable iter X.env x = pure x := by intro _; rfl) :
    PS X (.Assign [.Name y py] (.DictComp kx vx [⟨tg, iter, ifs, 0⟩] scope pos) spos) (tAsg (tDc wi g tt tk tv (own.map (·.2))) (gName i)) := by
  refine ⟨fun pins s σ H D J rd => ?_⟩
  rw [exec_Assign_Name_used _ _ _ _ sw]
  refine wpAny_bind (wpAny_standAt (wpAny_bind ?_))
  show wpAny _ X.A (do let _ ← comprehension (.DictComp kx vx [⟨tg, iter, ifs, 0⟩] scope pos) scope X.env (firstIterPos [⟨tg, iter, ifs, 0⟩] pos) newDict false (eval iter X.env) (some (assign (.Name y py) X.env))) _ _ s
  have rd' : tDc wi g tt tk tv (own.map (·.2)) σ H (fun x H1 => gName i x σ H1 D.nx) := rd
  refine wpAny_bind (thn (dc_core (Qf := fun _ s' => SP X pins D .next s') hc hN J hi ok hg ht hk hv hs rd' fun L C s' m H' J' q hn f => ?_) fun _ s' hq => wpAny_pure (wpAny_pure hq))
  show wpAny _ _ (assign (.Name y py) X.env (.ref L)) _ _ _
  refine wpAny_assign_Name (store_ok2 (v := V.ref L) J' hN hy (.inl loc) rfl (fun s2 J2 ⟨b, sb, hb⟩ => ?_) (.inr loc))
  obtain ⟨f0, f1, f2, f3, f4, f5⟩ := f
  have ne : C ≠ b := by
    rcases hb with z | z
    · rw [z]
      exact f1
    · exact fun e => f4 y b z e.symm
  exact ⟨m, hn.sameBut sb ne, fun h3 sb3 => ⟨_, H', J2.turned (t' := s2.toks) (fun b o nb e => (sb3.2 b nb).trans e) f0 f1 f3 f4 f5, q⟩⟩
/-- a dict comprehension over a list that stays -/
theorem dc_lst {K : PySem.W.Frag} {a : Addr} {xs : List V} {g : TG} {tt : TT} {tk tv : TE} {vs : List Nat} {σ : L2.St} {H1 : Hp} {D : Addr} {Qd : Hp → Prop} (Pv : Nat → Hp → Prop) (h0 : Pv 0 (upd H1 D (.dK []))) (hl : ∀ i H, Pv i H → SqL K H a xs)
    (hs : ∀ i x H, xs[i]? = some x → Pv i H → g x (wipe σ vs) H fun σ2 H2 => wipe σ2 vs = wipe σ vs ∧ tt σ2 H2 fun b H3 =>
      if b = true then tk σ2 H3 fun y H4 => tv σ2 H4 fun z H5 => ∃ kvs k, y = kV k ∧ H5 D = some (.dK kvs) ∧ kvs.length < sizeLine ∧ Pv (i + 1) (upd H5 D (.dK (putK kvs k z))) else Pv (i + 1) H3) (hd : ∀ H, Pv xs.length H → Qd H) :
    ∃ W : Nat → Nat → Hp → Prop, (∃ m, W 0 m (upd H1 D (.dK []))) ∧ ∀ i m H, W i m H →
      ((Itl K a).stop i H ∧ Qd H) ∨ ((Itl K a).go i H ∧ ∃ Nx : Hp → Prop, (∀ H', Nx H' → ∃ m', m' < m ∧ W (i + 1) m' H') ∧ ∀ x H', (Itl K a).yld i H x H' → g x (wipe σ vs) H' fun σ2 H2 => wipe σ2 vs = wipe σ vs ∧ tt σ2 H2 fun b H3 =>
        if b = true then tk σ2 H3 fun y H4 => tv σ2 H4 fun z H5 => ∃ kvs k, y = kV k ∧ H5 D = some (.dK kvs) ∧ kvs.length < sizeLine ∧ Nx (upd H5 D (.dK (putK kvs k z))) else Nx H3) := by
  refine ⟨fun i m H => m + i = xs.length ∧ Pv i H, ⟨xs.length, rfl, h0⟩, ?_⟩
  rintro i m H ⟨hm, p⟩
  have sq := hl i H p
  by_cases lt : i < xs.length
  · refine .inr ⟨⟨xs, xs[i], sq, List.getElem?_eq_getElem lt⟩, Pv (i + 1), fun H' p' => ⟨m - 1, by omega, by omega, p'⟩, fun x H' y => ?_⟩
    obtain ⟨rfl, y⟩ := y
    exact hs i x _ (y xs sq) p
  · obtain rfl : i = xs.length := by omega
    exact .inl ⟨⟨xs, sq, Nat.le_refl _⟩, hd H p⟩
end Dw
namespace Dw
open PySem PySem.Spec PyProof.Rows L2
def topS (i : Nat) : Stmt := PySem.Challenge.pw_doubtwell_k03_interval_lists_are_validat.main.body.getD i (.Pass ⟨0, 0, 0, 0⟩)
abbrev sQE : Stmt := inClass (topS 1) 0
abbrev sIF : Stmt := inClass (topS 2) 0
abbrev sGD : Stmt := topS 9
theorem scQE : FnScope ["self", "message", "code"] ["self", "message", "code"] (defScope sQE) := ⟨rfl, rfl, rfl, by decide +kernel, rfl, by decide +kernel, by decide +kernel⟩
theorem scIF : FnScope ["self", "message"] ["self", "message"] (defScope sIF) := ⟨rfl, rfl, rfl, by decide +kernel, rfl, by decide +kernel, by decide +kernel⟩
theorem scGD : FnScope ["first", "second"] ["first", "second"] (defScope sGD) := ⟨rfl, rfl, rfl, by decide +kernel, rfl, by decide +kernel, by decide +kernel⟩
section
variable {P : Program} {w : World} {K : PySem.W.Frag} {mg : Str → Option Value} {base : Heap}
/-! ### greatest_divisor -/
def spGcd : Sp := fun vs H Q _ => ∃ a b : Int, vs = [.int a, .int b] ∧ Q (.int (Int.gcd a b)) H
theorem ok_gd {f : Addr} {fd : FuncData} {k : Nat} (F : Fun K "greatest_divisor" "greatest_divisor" sGD f fd) (mA : mg "abs" = none) : FnOk P w K mg base CX0 (k + 1) f fd ["first", "second"] spGcd := by
  refine F.ok scGD (fun vs H Q E h => ?_) (fun cdv A outer s H vs Q E hr h => ?_)
  · obtain ⟨a, b, rfl, _⟩ := h
    rfl
  · obtain ⟨a, b, rfl, q⟩ := h
    refine ⟨_, pss_cons (ps_par (i := 0) (j := 1) rfl scGD.nd rfl rfl (by decide) rfl rfl
        (pa_cons (pe_callB call_abs (by rfl) mA (by decide +kernel) (pa_cons (pv 0) pa_nil)) (pa_cons (pe_callB call_abs (by rfl) mA (by decide +kernel) (pa_cons (pv 1) pa_nil)) pa_nil)) rfl)
      (pss_cons (ps_while PassesOwn.never (pt_truth (pv 1) (fun _ => rfl)) (pss_one (ps_par (i := 0) (j := 1) rfl scGD.nd rfl rfl (by decide) rfl rfl
        (pa_cons (pv 1) (pa_cons (pe_op op_mod (pv 0) (pv 1)) pa_nil)) rfl)))
      (pss_one (ps_ret (pv 0)))), ?_⟩
    refine ⟨_, rfl, a, rfl, _, rfl, b, rfl, _, _, rfl, ?_⟩
    refine ⟨fun m σ H' => ∃ x y : Int, σ = [some (.int x), some (.int y)] ∧ H' = H ∧ 0 ≤ x ∧ 0 ≤ y ∧ Int.gcd x y = Int.gcd a b ∧ m = y.toNat, ⟨_, _, _, rfl, rfl, ?_, ?_, ?_, rfl⟩, ?_⟩
    · rw [abs_if]; omega
    · rw [abs_if]; omega
    · rw [abs_if, abs_if]
      show Nat.gcd _ _ = _
      rfl
    · rintro m σ H' ⟨x, y, rfl, rfl, hx, hy, hg, rfl⟩
      refine ⟨_, rfl, _, rfl, ?_⟩
      by_cases h0 : y = 0
      · subst h0
        refine iteF ?_
        refine ⟨_, rfl, ?_⟩
        have e : Int.gcd a b = x := by
          rw [← hg, Int.gcd_zero_right]
          omega
        rw [e] at q
        exact q
      · have e1 : (y != 0) = true := by simpa using h0
        rw [e1]
        refine iteT ?_
        refine ⟨fun σ' H'' => ∃ x' y' : Int, σ' = [some (.int x'), some (.int y')] ∧ H'' = H' ∧ 0 ≤ x' ∧ 0 ≤ y' ∧ Int.gcd x' y' = Int.gcd a b ∧ y' < y, ?_, ?_⟩
        · rintro σ' H'' ⟨x', y', rfl, rfl, h1, h2, h3, h4⟩
          exact ⟨y'.toNat, by omega, x', y', rfl, rfl, h1, h2, h3, rfl⟩
        · refine ⟨_, rfl, _, rfl, _, rfl, _, _, rfl, rfl, (by omega : (0 : Int) < y), _, _, rfl, y, x % y, rfl, rfl, hy, Int.emod_nonneg _ h0, ?_, Int.emod_lt_of_pos _ (by omega)⟩
          have e2 := gcd_fmod x y
          rw [Int.fmod_eq_emod_of_nonneg x hy] at e2
          rw [e2, hg]
end
end Dw
namespace Dw
open PySem PySem.Spec PyProof.Rows L2
section
variable {P : Program} {w : World} {K : PySem.W.Frag} {mg : Str → Option Value} {base : Heap}
/-! ### the errors -/
/-- QueryError.__init__(self, message, code), self an error of the class at C that has no field yet -/
def spQE (K : PySem.W.Frag) : Sp := fun vs H Q _ => ∃ (a C : Addr) (m c : V), vs = [.ref a, m, c] ∧ OexC K C ∧ PySem.W.findIn K (.ref C) "code" = some none ∧ H a = some (exo a C none) ∧
  ∀ dx, H dx = none → dx ≠ a → Q .non (upd (upd H dx (exd dx [("code", c)])) a (exo a C (some dx)))
abbrev FQE (K : PySem.W.Frag) (f : Addr) (fd : FuncData) : Prop := FunD K "__init__" "QueryError.__init__" (defArgs sQE) (defBody sQE) (defScope sQE) [.str "", .str ""] [] f fd
theorem ok_qe {f : Addr} {fd : FuncData} {k : Nat} (F : FQE K f fd) (mV : mg "ValueError" = none) (vV : PySem.W.findCls K (.type "ValueError") (.type "type") "__init__" = some (.val (.builtin "ValueError.__init__"))) :
    FnOk P w K mg base CX0 (k + 1) f fd ["self", "message", "code"] (spQE K) := by
  refine F.ok scQE (fun vs H Q E h => ?_) (fun cdv A outer s H vs Q E hr h => ?_)
  · obtain ⟨a, C, m, c, rfl, _⟩ := h
    rfl
  · obtain ⟨a, C, m, c, rfl, oe, nf, ha, q⟩ := h
    refine ⟨_, pss_cons (ps_expr (pe_veinit (by rfl) mV vV (pa_cons (pv 0) (pa_cons (pv 1) pa_nil)))) (pss_one (ps_ost (pv 0) (pv 2))), ?_⟩
    refine ⟨_, rfl, _, rfl, a, C, [m], rfl, Nat.le_of_ble_eq_true rfl, oe, ha, ?_⟩
    exact ⟨_, rfl, _, rfl, a, C, rfl, oe, nf, .inl ⟨ha, fun dx h1 h2 => q dx h1 h2⟩⟩
/-- InvalidFraction.__init__(self, message) -/
def spIF (K : PySem.W.Frag) (code : Str) : Sp := fun vs H Q _ => ∃ (a C : Addr) (m : V), vs = [.ref a, m] ∧ OexC K C ∧ PySem.W.findIn K (.ref C) "code" = some none ∧ H a = some (exo a C none) ∧
  ∀ dx, H dx = none → dx ≠ a → Q .non (upd (upd H dx (exd dx [("code", .str code)])) a (exo a C (some dx)))
abbrev FIF (K : PySem.W.Frag) (f : Addr) (fd : FuncData) : Prop := FunD K "__init__" "InvalidFraction.__init__" (defArgs sIF) (defBody sIF) (defScope sIF) [.str "not a reduced fraction"] [] f fd
theorem ok_if {f fQ CQ : Addr} {fd fdQ : FuncData} {k : Nat} {mc : Value} (F : FIF K f fd) (GQ : FnOk P w K mg base CX0 (k + 1) fQ fdQ ["self", "message", "code"] (spQE K))
    (gQ : mg "QueryError" = some (.ref CQ)) (rdQ : ClX.CRead K CQ mc) (fnd : PySem.W.findCls K (.ref CQ) mc "__init__" = some (.val (.ref fQ))) (kp : PySem.W.keepIn K (.ref fQ) = true) (bQ : L2.Binds K fdQ ["self", "message", "code"] []) :
    FnOk P w K mg base CX0 (k + 2) f fd ["self", "message"] (spIF K "fraction") := by
  refine F.ok scIF (fun vs H Q E h => ?_) (fun cdv A outer s H vs Q E hr h => ?_)
  · obtain ⟨a, C, m, rfl, _⟩ := h
    rfl
  · obtain ⟨a, C, m, rfl, oe, nf, ha, q⟩ := h
    refine ⟨_, pss_one (ps_expr (pe_clsfn GQ hr (by rfl) gQ rdQ fnd kp bQ .nil pass0 (pa_cons (pv 0) (pa_cons (pv 1) (pa_cons pe_str pa_nil))))), ?_⟩
    exact ⟨_, rfl, _, rfl, a, C, m, _, rfl, oe, nf, ha, fun dx h1 h2 => q dx h1 h2⟩
end
end Dw
namespace Dw
open PySem PySem.Spec PyProof.Rows L2
abbrev sSrc : Stmt := topS 27
abbrev sDraw : Stmt := topS 28
theorem scSrc : FnScope ["_law_script"] ["_law_script"] (defScope sSrc) := ⟨rfl, rfl, rfl, by decide +kernel, rfl, by decide +kernel, by decide +kernel⟩
theorem scDraw : FnScope ["_law_source_here", "_law_count", "_law_cell", "_law_rest", "_law_twice"] ["_law_source_here", "_law_count"] (defScope sDraw) := ⟨rfl, rfl, rfl, by decide +kernel, rfl, by decide +kernel, by decide +kernel⟩
/-- at a: the source of draws -/
structure SrcIs (H : Hp) (a l : Addr) (ms : List Int) (i r s : Int) : Prop where
  ne : l ≠ a
  at_ : H a = some (.lst [.ref l, .int i, .int r, .int s])
  cells : H l = some (.lst (ms.map V.int))
  i0 : 0 ≤ i
  r0 : 0 ≤ r
  s0 : 0 ≤ s
  s1 : s < 2147483587
def Src (H : Hp) (a l : Addr) : Prop := ∃ ms i r s, SrcIs H a l ms i r s
/-- nothing but what stands at a is another -/
def But (a : Addr) (H H' : Hp) : Prop := ∀ b, b ≠ a → H' b = H b
theorem But.refl (a : Addr) (H : Hp) : But a H H := fun _ _ => rfl
theorem But.trans {a : Addr} {H H1 H2 : Hp} (x : But a H H1) (y : But a H1 H2) : But a H H2 := fun b h => (y b h).trans (x b h)
theorem But.upd {a : Addr} {H H' : Hp} {o : HO} (x : But a H H') : But a H (L2.upd H' a o) := fun b h => (upd_ne h).trans (x b h)
theorem cut_ints (ns : List Int) (lo hi : Option Int) : ∃ ms : List Int, cutV (ns.map V.int) lo hi = ms.map V.int := by
  unfold cutV
  exact ⟨_, by rw [← List.map_drop, ← List.map_take]⟩
section
variable {P : Program} {w : World} {K : PySem.W.Frag} {mg : Str → Option Value} {base : Heap}
theorem same_new {H : Hp} {p : Addr} {o : HO} (h : H p = none) : Same H (upd H p o) := fun b x e => by
  rw [upd_ne (ne_of_none e h)]
  exact e
/-! ### _law_source -/
def spSrc (K : PySem.W.Frag) : Sp := fun vs H Q _ => ∃ (a : Addr) (ns : List Int), vs = [.ref a] ∧ SqL K H a (ns.map V.int) ∧ ∀ H' p l, Same H H' → H p = none → H l = none → Src H' p l → Q (.ref p) H'
theorem ok_src {f : Addr} {fd : FuncData} {k : Nat} (F : Fun K "_law_source" "_law_source" sSrc f fd) (mL : mg "list" = none) : FnOk P w K mg base CX0 (k + 1) f fd ["_law_script"] (spSrc K) := by
  refine F.ok scSrc (fun vs H Q E h => ?_) (fun cdv A outer s H vs Q E hr h => ?_)
  · obtain ⟨a, ns, rfl, _⟩ := h
    rfl
  · obtain ⟨a, ns, rfl, hS, q⟩ := h
    refine ⟨_, pss_one (ps_ret (pe_lst (pa_cons (pe_callTy call_list_of (by rfl) mL (by decide +kernel) (pa_cons (pe_slice sl_list (pv 0) po_none (po_some pe_int)) pa_nil)) (pa_cons pe_int (pa_cons pe_int (pa_cons pe_int pa_nil)))))), ?_⟩
    obtain ⟨ms, hms⟩ := cut_ints ns none (some 63)
    refine ⟨_, rfl, 63, rfl, a, _, rfl, hS, fun c nc => ⟨c, _, rfl, .inl (.inl (.inl upd_same)), fun l nl => ⟨Nat.le_of_ble_eq_true rfl, fun p np => ?_⟩⟩⟩
    rw [hms] at nl np ⊢
    have s1 : Same H (upd H c (.lst (ms.map V.int))) := same_new nc
    have s2 : Same (upd H c (.lst (ms.map V.int))) (upd (upd H c (.lst (ms.map V.int))) l (.lst (ms.map V.int))) := same_new nl
    have s3 := same_new (o := .lst [.ref l, .int 0, .int 0, .int 4711]) np
    have nlp : l ≠ p := fun z => by
      rw [z, upd_same] at np
      cases np
    refine q _ p l ((s1.trans s2).trans s3) ((s1.trans s2).free np) (s1.free nl) ⟨ms, 0, 0, 4711, nlp, upd_same, ?_, by decide, by decide, by decide, by decide⟩
    rw [upd_ne nlp, upd_same]
/-! ### _law_draw -/
def spDraw : Sp := fun vs H Q _ => ∃ (a l : Addr) (c : Int), vs = [.ref a, .int c] ∧ Src H a l ∧ 0 < c ∧ c.natAbs < 2 ^ 8000 ∧ ∀ H' v, But a H H' → Src H' a l → 0 ≤ v → v < c → Q (.int v) H'
theorem ok_draw {f : Addr} {fd : FuncData} {k : Nat} (F : Fun K "_law_draw" "_law_draw" sDraw f fd) (mL : mg "len" = none) (mA : mg "abs" = none) : FnOk P w K mg base CX0 (k + 1) f fd ["_law_source_here", "_law_count"] spDraw := by
  refine F.ok scDraw (fun vs H Q E h => ?_) (fun cdv A outer s H vs Q E hr h => ?_)
  · obtain ⟨a, l, c, rfl, _⟩ := h
    rfl
  · obtain ⟨a, l, c, rfl, ⟨ms, i, r, sd, S⟩, hc, hc2, q⟩ := h
    refine ⟨_, C8.pss_cut (ps_if (PW.pt (pw_and (pt_cmpR op_eq (pe_ix ix_list (pv 0) pe_int (fun _ _ => rfl)) pe_int (nomark _))
          (pw_and1 (pt_cmpR op_lt (pe_ix ix_list (pv 0) pe_int (fun _ _ => rfl)) (pe_callB call_len_seq (by rfl) mL PySem.boot_len (pa_cons (pe_ix ix_list (pv 0) pe_int (fun _ _ => rfl)) pa_nil)) (nomark _)))))
        (pss_cons (ps_set (i := 2) scDraw.nd rfl (.inl rfl) (pe_ix ix_list (pe_ix ix_list (pv 0) pe_int (fun _ _ => rfl)) (pe_ix ix_list (pv 0) pe_int (fun _ _ => rfl)) (fun _ _ => rfl)))
        (pss_cons (ps_augS (pv 0) pe_int get_list pe_int ip_add set_list)
        (pss_one (ps_if (pt_cmpR op_ge (pe_callB call_abs (by rfl) mA (by decide +kernel) (pa_cons (pv 2) pa_nil)) (pe_op op_pow pe_int pe_int) (nomark _))
          (pss_one (ps_asg (pe_callB call_abs (by rfl) mA (by decide +kernel) (pa_cons (pv 2) pa_nil)) (pg_sub (pv 0) pe_int set_list)))
          (pss_one (ps_asg (pe_op op_mod (pe_op op_add (pe_op op_add (pe_op op_mul (pe_ix ix_list (pv 0) pe_int (fun _ _ => rfl)) pe_int) (pe_op op_mul (pe_op op_mod (pv 2) pe_int) pe_int)) pe_int) pe_int) (pg_sub (pv 0) pe_int set_list)))))))
        pss_nil)
      (C8.pss_cut (ps_if (pt_cmpR op_gt (pe_ix ix_list (pv 0) pe_int (fun _ _ => rfl)) pe_int (nomark _))
        (pss_cons (ps_set (i := 3) scDraw.nd rfl (.inl rfl) (pe_ix ix_list (pv 0) pe_int (fun _ _ => rfl)))
        (pss_cons (ps_asg (pe_op op_fdivW (pv 3) (pv 1)) (pg_sub (pv 0) pe_int set_list))
        (pss_one (ps_ret (pe_op op_mod (pv 3) (pv 1)))))) pss_nil)
      (pss_cons (ps_set (i := 4) scDraw.nd rfl (.inl rfl) (pe_op op_mod (pe_op op_mul (pe_ix ix_list (pv 0) pe_int (fun _ _ => rfl)) (pe_ix ix_list (pv 0) pe_int (fun _ _ => rfl))) pe_int))
      (pss_cons (ps_asg (pe_op op_mod (pe_op op_add (pe_op op_add (pe_op op_mul (pv 4) pe_int) (pe_op op_mul (pe_ix ix_list (pv 0) pe_int (fun _ _ => rfl)) pe_int)) pe_int) pe_int) (pg_sub (pv 0) pe_int set_list))
      (pss_one (ps_ret (pe_op op_mod (pe_op op_fdiv (pe_ix ix_list (pv 0) pe_int (fun _ _ => rfl)) pe_int) (pv 1))))))), ?_⟩
    refine ⟨fun σ' H' => ∃ y2 i' r' s', σ' = [some (.ref a), some (.int c), y2, none, none] ∧ But a H H' ∧ SrcIs H' a l ms i' r' s', ?_, ?_⟩
    · refine ⟨_, rfl, a, _, _, _, rfl, rfl, SqL.of S.at_, rfl, rfl, _, rfl, ite2 (fun e => ?_) (fun e => iteF ⟨none, i, r, sd, rfl, But.refl a H, S⟩)⟩
      refine ⟨_, rfl, a, _, _, _, rfl, rfl, SqL.of S.at_, rfl, _, rfl, a, _, _, _, rfl, rfl, SqL.of S.at_, rfl, l, _, rfl, .inl (SqL.of S.cells), _, _, rfl, rfl, _, rfl, ite2 (fun e2 => ?_) (fun e2 => ⟨none, i, r, sd, rfl, But.refl a H, S⟩)⟩
      have hi : i < ((ms.map V.int).length : Int) := of_decide_eq_true e2
      have i0 := S.i0
      rw [List.length_map] at hi
      obtain ⟨j, rfl⟩ : ∃ j : Nat, i = (j : Int) := ⟨i.toNat, by omega⟩
      have hj : j < ms.length := by omega
      have gx : (ms.map V.int)[j]? = some (.int ms[j]) := by
        rw [List.getElem?_map, List.getElem?_eq_getElem hj]
        rfl
      -- cell = src[0][src[1]]
      refine ⟨_, rfl, a, _, _, _, rfl, rfl, SqL.of S.at_, rfl, _, rfl, a, _, _, _, rfl, rfl, SqL.of S.at_, rfl, l, _, _, _, rfl, rfl, SqL.of S.cells, atI_nat gx, ?_⟩
      -- src[1] += 1
      refine ⟨_, rfl, a, _, 1, _, rfl, rfl, SqL.of S.at_, rfl, _, _, rfl, rfl, a, _, _, 1, rfl, rfl, S.at_, rfl, ?_⟩
      have S1 : SrcIs (upd H a (.lst [.ref l, .int ((j : Int) + 1), .int r, .int sd])) a l ms ((j : Int) + 1) r sd := ⟨S.ne, upd_same, by rw [upd_ne S.ne]; exact S.cells, by omega, S.r0, S.s0, S.s1⟩
      have B1 : But a H (upd H a (.lst [.ref l, .int ((j : Int) + 1), .int r, .int sd])) := (But.refl a H).upd
      -- if abs(cell) >= 10 ** 18
      refine ⟨_, rfl, _, rfl, 10, 18, rfl, rfl, ⟨by decide, by decide, by decide⟩, _, _, rfl, rfl, _, rfl, ite2 (fun e3 => ?_) (fun e3 => ?_)⟩
      · refine ⟨_, rfl, _, rfl, _, rfl, a, _, _, 2, rfl, rfl, S1.at_, rfl, _, _, _, _, rfl, B1.upd, S.ne, upd_same, ?_, ?_, ?_, S.s0, S.s1⟩
        · rw [upd_ne S.ne]; exact S1.cells
        · exact S1.i0
        · rw [abs_if]; omega
      · refine ⟨_, rfl, a, _, _, _, rfl, rfl, SqL.of S1.at_, rfl, _, _, rfl, rfl, .inr ⟨by decide, by decide⟩, _, rfl, _, _, rfl, rfl, (by show (0 : Int) < 1000033; decide), _, _, rfl, rfl, .inr ⟨by decide, by decide⟩, _, _, rfl, rfl, _, _, rfl, rfl, _, _, rfl, rfl, (by show (0 : Int) < 2147483587; decide), _, rfl, a, _, _, 3, rfl, rfl, S1.at_, rfl, _, _, _, _, rfl, B1.upd, S.ne, upd_same, ?_, ?_, ?_, ?_, ?_⟩
        · rw [upd_ne S.ne]; exact S1.cells
        · exact S1.i0
        · exact S.r0
        · exact Int.emod_nonneg _ (by decide)
        · exact Int.emod_lt_of_pos _ (by decide)
    · rintro σ' H' ⟨y2, i', r', s', rfl, B, S'⟩
      refine ⟨fun σ'' H'' => σ'' = [some (.ref a), some (.int c), y2, none, none] ∧ H'' = H', ?_, ?_⟩
      · refine ⟨_, rfl, a, _, _, _, rfl, rfl, SqL.of S'.at_, rfl, _, _, rfl, rfl, _, rfl, ite2 (fun e => ?_) (fun e => ⟨rfl, rfl⟩)⟩
        have hr0 : 0 < r' := of_decide_eq_true e
        refine ⟨_, rfl, a, _, _, _, rfl, rfl, SqL.of S'.at_, rfl, _, rfl, _, rfl, r', c, rfl, rfl, wide_div (b := 8000) hc hc2 (by decide) (by decide), _, rfl, a, _, _, 2, rfl, rfl, S'.at_, rfl, _, rfl, _, rfl, r', c, rfl, rfl, hc, ?_⟩
        refine q _ _ B.upd ⟨ms, i', r' / c, s', S.ne, upd_same, ?_, S'.i0, Int.ediv_nonneg S'.r0 (by omega), S'.s0, S'.s1⟩ (Int.emod_nonneg _ (by omega)) (Int.emod_lt_of_pos _ hc)
        rw [upd_ne S.ne]; exact S'.cells
      · rintro σ'' H'' ⟨rfl, rfl⟩
        have h0 := S'.s0
        have h1 := S'.s1
        refine ⟨_, rfl, a, _, _, _, rfl, rfl, SqL.of S'.at_, rfl, _, rfl, a, _, _, _, rfl, rfl, SqL.of S'.at_, rfl, _, _, rfl, rfl, .inl ⟨by omega, by omega⟩, _, _, rfl, rfl, (by show (0 : Int) < 2147483587; decide), ?_⟩
        refine ⟨_, rfl, _, _, rfl, rfl, .inr ⟨by decide, by decide⟩, _, rfl, a, _, _, _, rfl, rfl, SqL.of S'.at_, rfl, _, _, rfl, rfl, .inr ⟨by decide, by decide⟩, _, _, rfl, rfl, _, _, rfl, rfl, _, _, rfl, rfl, (by show (0 : Int) < 2147483587; decide), _, rfl, a, _, _, 3, rfl, rfl, S'.at_, rfl, ?_⟩
        refine ⟨_, rfl, a, _, _, _, rfl, rfl, SqL.of upd_same, rfl, _, _, rfl, rfl, ⟨by decide, by decide⟩, _, rfl, _, c, rfl, rfl, hc, ?_⟩
        refine q _ _ B.upd ⟨ms, i', r', _, S.ne, upd_same, ?_, S'.i0, S'.r0, Int.emod_nonneg _ (by decide), Int.emod_lt_of_pos _ (by decide)⟩ (Int.emod_nonneg _ (by omega)) (Int.emod_lt_of_pos _ hc)
        rw [upd_ne S.ne]; exact S'.cells
end
end Dw
namespace Dw
open PySem PySem.Spec PyProof.Rows L2
abbrev sCho : Stmt := topS 29
abbrev sLG : Stmt := topS 33
theorem scCho : FnScope ["_law_source_here", "_law_chosen"] ["_law_source_here", "_law_chosen"] (defScope sCho) := ⟨rfl, rfl, rfl, by decide +kernel, rfl, by decide +kernel, by decide +kernel⟩
theorem scLG : FnScope ["_law_one", "_law_two", "_law_rest"] ["_law_one", "_law_two"] (defScope sLG) := ⟨rfl, rfl, rfl, by decide +kernel, rfl, by decide +kernel, by decide +kernel⟩
/-- all but what stands at a stays; new things may come -/
def Keep (a : Addr) (H H' : Hp) : Prop := ∀ b o, b ≠ a → H b = some o → H' b = some o
theorem Keep.refl (a : Addr) (H : Hp) : Keep a H H := fun _ _ _ h => h
theorem Keep.trans {a : Addr} {H H1 H2 : Hp} (x : Keep a H H1) (y : Keep a H1 H2) : Keep a H H2 := fun b o n h => y b o n (x b o n h)
theorem But.keep {a : Addr} {H H' : Hp} (x : But a H H') : Keep a H H' := fun b o n h => (x b n).trans h
theorem Keep.of {a : Addr} {H H' : Hp} (x : Same H H') : Keep a H H' := fun b o _ h => x b o h
theorem Keep.seq {K : PySem.W.Frag} {a c : Addr} {H H' : Hp} {xs : List V} (x : Keep a H H') (n : c ≠ a) (h : SqL K H c xs) : SqL K H' c xs := by
  rcases h with (h | ⟨o, h⟩) | h
  · exact .inl (.inl (x _ _ n h))
  · exact .inl (.inr ⟨o, x _ _ n h⟩)
  · exact .inr h
theorem Src.upd_new {H : Hp} {a l p : Addr} {o : HO} (h : Src H a l) (n : H p = none) : Src (upd H p o) a l := by
  obtain ⟨ms, i, r, s, S⟩ := h
  exact ⟨ms, i, r, s, S.ne, by rw [upd_ne (ne_of_none S.at_ n)]; exact S.at_, by rw [upd_ne (ne_of_none S.cells n)]; exact S.cells, S.i0, S.r0, S.s0, S.s1⟩
theorem Src.ne_new {H : Hp} {a l p : Addr} (h : Src H a l) (n : H p = none) : p ≠ a := by
  obtain ⟨ms, i, r, s, S⟩ := h
  exact (ne_of_none S.at_ n).symm
theorem Src.ne_cells {H : Hp} {a l p : Addr} (h : Src H a l) (n : H p = none) : p ≠ l := by
  obtain ⟨ms, i, r, s, S⟩ := h
  exact (ne_of_none S.cells n).symm
/-- a list that is neither the source nor its cells may change -/
theorem Src.put {H : Hp} {a l p : Addr} {o : HO} (h : Src H a l) (n1 : p ≠ a) (n2 : p ≠ l) : Src (upd H p o) a l := by
  obtain ⟨ms, i, r, s, S⟩ := h
  exact ⟨ms, i, r, s, S.ne, by rw [upd_ne n1.symm]; exact S.at_, by rw [upd_ne n2.symm]; exact S.cells, S.i0, S.r0, S.s0, S.s1⟩
section
variable {P : Program} {w : World} {K : PySem.W.Frag} {mg : Str → Option Value} {base : Heap}
theorem same_upd {H H' : Hp} {p : Addr} {o : HO} (s : Same H H') (h : H p = none) : Same H (upd H' p o) := fun b x e => by
  rw [upd_ne (ne_of_none e h)]
  exact s b x e
/-! ### _law_choice -/
def spCho (K : PySem.W.Frag) : Sp := fun vs H Q _ => ∃ (a l c : Addr) (xs : List V), vs = [.ref a, .ref c] ∧ Src H a l ∧ c ≠ a ∧ SqL K H c xs ∧ xs ≠ [] ∧ xs.length ≤ 1000 ∧ ∀ H' v, But a H H' → Src H' a l → v ∈ xs → Q v H'
theorem ok_cho {f fD : Addr} {fd fdD : FuncData} {k : Nat} (F : Fun K "_law_choice" "_law_choice" sCho f fd) (GD : FnOk P w K mg base CX0 (k + 1) fD fdD ["_law_source_here", "_law_count"] spDraw) (gD : mg "_law_draw" = some (.ref fD)) (kD : PySem.W.keepIn K (.ref fD) = true)
    (bD : L2.Binds K fdD ["_law_source_here", "_law_count"] []) (mL : mg "len" = none) : FnOk P w K mg base CX0 (k + 2) f fd ["_law_source_here", "_law_chosen"] (spCho K) := by
  refine F.ok scCho (fun vs H Q E h => ?_) (fun cdv A outer s H vs Q E hr h => ?_)
  · obtain ⟨a, l, c, xs, rfl, _⟩ := h
    rfl
  · obtain ⟨a, l, c, xs, rfl, S, n, hS, ne, hl, q⟩ := h
    refine ⟨_, pss_one (ps_ret (pe_ix ix_list (pv 1) (pe_call GD hr (by rfl) gD kD bD .nil pass0 (pa_cons (pv 0) (pa_cons (pe_callB call_len_seq (by rfl) mL PySem.boot_len (pa_cons (pv 1) pa_nil)) pa_nil))) (fun _ _ => rfl))), ?_⟩
    have l0 : 0 < xs.length := List.length_pos_iff.mpr ne
    refine ⟨_, rfl, _, rfl, _, rfl, c, xs, rfl, .inl hS, a, l, _, rfl, S, by omega, ?_, fun H' v B S' v0 v1 => ?_⟩
    · exact Nat.lt_of_le_of_lt (by omega : _ ≤ 1000) (Nat.lt_of_lt_of_le (by decide : 1000 < 2 ^ 10) (Nat.pow_le_pow_right (by decide) (by decide)))
    · obtain ⟨j, rfl⟩ : ∃ j : Nat, v = (j : Int) := ⟨v.toNat, by omega⟩
      have hj : j < xs.length := by omega
      exact ⟨c, xs, _, xs[j], rfl, rfl, B.keep.seq n hS, atI_nat (List.getElem?_eq_getElem hj), q _ _ B S' (List.getElem_mem hj)⟩
/-! ### _law_gcd -/
theorem ok_lg {f : Addr} {fd : FuncData} {k : Nat} (F : Fun K "_law_gcd" "_law_gcd" sLG f fd) (mA : mg "abs" = none) : FnOk P w K mg base CX0 (k + 1) f fd ["_law_one", "_law_two"] spGcd := by
  refine F.ok scLG (fun vs H Q E h => ?_) (fun cdv A outer s H vs Q E hr h => ?_)
  · obtain ⟨a, b, rfl, _⟩ := h
    rfl
  · obtain ⟨a, b, rfl, q⟩ := h
    refine ⟨_, pss_cons (ps_while PassesOwn.never (pt_cmpR op_ne (pv 1) pe_int (nomark _)) (pss_cons (ps_set (i := 2) scLG.nd rfl (.inl rfl) (pe_op op_modN (pv 0) (pv 1)))
        (pss_cons (ps_set (i := 0) scLG.nd rfl (.inl rfl) (pv 1)) (pss_one (ps_set (i := 1) scLG.nd rfl (.inl rfl) (pv 2))))))
      (pss_one (ps_ret (pe_callB call_abs (by rfl) mA (by decide +kernel) (pa_cons (pv 0) pa_nil)))), ?_⟩
    refine ⟨fun m σ H' => ∃ (x y : Int) (z : Option V), σ = [some (.int x), some (.int y), z] ∧ H' = H ∧ Int.gcd x y = Int.gcd a b ∧ m = y.natAbs, ⟨_, a, b, none, rfl, rfl, rfl, rfl⟩, ?_⟩
    rintro m σ H' ⟨x, y, z, rfl, rfl, hg, rfl⟩
    refine ⟨_, rfl, rfl, _, rfl, ?_⟩
    by_cases h0 : y = 0
    · subst h0
      refine iteNS rfl ?_
      refine ⟨_, rfl, _, rfl, ?_⟩
      rw [abs_if]
      rw [Int.gcd_zero_right] at hg
      rw [← hg] at q
      exact q
    · have e1 : (!decide (V.int y = V.int 0)) = true := by
        rw [decide_eq_false (fun z => h0 (V.int.inj z))]
        rfl
      rw [e1]
      refine iteT ?_
      refine ⟨fun σ' H'' => ∃ (x' y' : Int) (z' : Option V), σ' = [some (.int x'), some (.int y'), z'] ∧ H'' = H' ∧ Int.gcd x' y' = Int.gcd a b ∧ y'.natAbs < y.natAbs, ?_, ?_⟩
      · rintro σ' H'' ⟨x', y', z', rfl, rfl, h3, h4⟩
        exact ⟨y'.natAbs, h4, x', y', z', rfl, rfl, h3, rfl⟩
      · exact ⟨_, rfl, _, rfl, x, y, rfl, rfl, h0, _, rfl, _, rfl, _, _, _, rfl, rfl, (gcd_fmod x y).trans hg, fmod_less x y h0⟩
end
end Dw
namespace Dw
open PySem PySem.Spec PyProof.Rows L2
/-! ### data as _law_same compares it -/
def tyName : PyData → String
  | .none => "NoneType" | .bool _ => "bool" | .int _ => "int" | .str _ => "str" | .list _ => "list" | .tuple _ => "tuple" | .dict _ => "dict"
def isL : PyData → Bool | .list _ => true | _ => false
def isT : PyData → Bool | .tuple _ => true | _ => false
def isN : PyData → Bool | .none => true | _ => false
def isB : PyData → Bool | .bool _ => true | _ => false
def isI : PyData → Bool | .int _ => true | .bool _ => true | _ => false
def isM : PyData → Bool | .dict _ => true | _ => false
def isS : PyData → Bool | .str _ => true | _ => false
theorem kitL (d : PyData) : kitB (tyName d) "list" = some (isL d) := by
  cases d <;> (dsimp only [tyName, isL]; decide +kernel)
theorem kitT (d : PyData) : kitB (tyName d) "tuple" = some (isT d) := by
  cases d <;> (dsimp only [tyName, isT]; decide +kernel)
theorem kitBo (d : PyData) : kitB (tyName d) "bool" = some (isB d) := by
  cases d <;> (dsimp only [tyName, isB]; decide +kernel)
theorem kitI (d : PyData) : kitB (tyName d) "int" = some (isI d) := by
  cases d <;> (dsimp only [tyName, isI]; decide +kernel)
theorem kitM (d : PyData) : kitB (tyName d) "dict" = some (isM d) := by
  cases d <;> (dsimp only [tyName, isM]; decide +kernel)
theorem kitS (d : PyData) : kitB (tyName d) "str" = some (isS d) := by
  cases d <;> (dsimp only [tyName, isS]; decide +kernel)
def sameS : PyData → PyData → Bool
  | .none, .none => true
  | .bool a, .bool b => a == b
  | .int a, .int b => a == b
  | .str a, .str b => a == b
  | _, _ => false
def sameD : Nat → PyData → PyData → Bool
  | 0, d, e => sameS d e
  | n + 1, .list ds, .list es => decide (ds.length = es.length) && (List.zipWith (sameD n) ds es).all id
  | n + 1, .tuple ds, .tuple es => decide (ds.length = es.length) && (List.zipWith (sameD n) ds es).all id
  | _ + 1, d, e => sameS d e
/-- at most n deep, no list in it longer than a thousand, no dict -/
def fits : Nat → PyData → Prop
  | 0, d => isL d = false ∧ isT d = false ∧ isM d = false
  | n + 1, .list ds => ds.length ≤ 1000 ∧ ∀ x ∈ ds, fits n x
  | n + 1, .tuple ds => ds.length ≤ 1000 ∧ ∀ x ∈ ds, fits n x
  | _ + 1, d => isM d = false
theorem SqT.same {K : PySem.W.Frag} {H H' : Hp} {a : Addr} {xs : List V} (e : Same H H') (h : SqT K H a xs) : SqT K H' a xs := by
  rcases h with (h | ⟨o, h⟩) | h
  · exact .inl (.inl (e _ _ h))
  · exact .inl (.inr ⟨o, e _ _ h⟩)
  · exact .inr h
mutual
theorem dp_same {K : PySem.W.Frag} {H H' : Hp} (e : Same H H') : ∀ {d : PyData} {v : V}, Dp K H v d → Dp K H' v d
  | .none, _, h => by cases h; exact .non
  | .bool b, _, h => by cases h; exact .bl b
  | .int i, _, h => by cases h; exact .int i
  | .str x, _, h => by cases h; exact .str x
  | .list ds, _, h => by
    cases h with
    | lst hs ha => exact .lst (e.seq hs) (dps_same e ha)
  | .tuple ds, _, h => by
    cases h with
    | tup hs ha => exact .tup (SqT.same e hs) (dps_same e ha)
  | .dict _, _, h => by cases h
theorem dps_same {K : PySem.W.Frag} {H H' : Hp} (e : Same H H') : ∀ {ds : List PyData} {vs : List V}, DpAll K H vs ds → DpAll K H' vs ds
  | [], _, h => by cases h; exact .nil
  | d :: ds, _, h => by
    cases h with
    | cons h1 h2 => exact .cons (dp_same e h1) (dps_same e h2)
end
theorem dps_len {K : PySem.W.Frag} {H : Hp} : ∀ {ds : List PyData} {vs : List V}, DpAll K H vs ds → vs.length = ds.length
  | [], _, h => by cases h; rfl
  | d :: ds, _, h => by
    cases h with
    | cons h1 h2 => exact congrArg Nat.succ (dps_len h2)
theorem dps_get {K : PySem.W.Frag} {H : Hp} : ∀ {ds : List PyData} {vs : List V} {i : Nat} {v : V}, DpAll K H vs ds → vs[i]? = some v → ∃ d, ds[i]? = some d ∧ Dp K H v d
  | [], _, i, v, h, e => by cases h; simp at e
  | d :: ds, _, 0, v, h, e => by
    cases h with
    | cons h1 h2 =>
      have e' := Option.some.inj e
      subst e'
      exact ⟨d, rfl, h1⟩
  | d :: ds, _, i + 1, v, h, e => by
    cases h with
    | cons h1 h2 => exact dps_get (i := i) h2 (by simpa using e)
theorem dp_ty {K : PySem.W.Frag} {H : Hp} {v : V} {d : PyData} (h : Dp K H v d) : TyX K H v (.type (tyName d)) := by
  cases h with
  | non => exact .base .non
  | bl b => exact .base (.bl b)
  | int i => exact .base (.int i)
  | str x => exact .base (.str x)
  | lst hs ha =>
    rcases hs with (h | ⟨o, h⟩) | ⟨o, its, n, h1, h2, _⟩
    · exact .base (.lst h)
    · exact .base (.frz h)
    · exact .kList h1 h2
  | tup hs ha =>
    rcases hs with (h | ⟨o, h⟩) | ⟨o, its, n, h1, h2, _⟩
    · exact .base (.tup h)
    · exact .fTuple h
    · exact .kTuple h1 h2
theorem dp_non {K : PySem.W.Frag} {H : Hp} {v : V} {d : PyData} (h : Dp K H v d) : decide (v = .non) = isN d := by
  cases h with
  | non => exact decide_eq_true rfl
  | _ => exact decide_eq_false fun z => nomatch z
/-- a comprehension over pairs: J yields a new pair each turn -/
theorem lc_pairs {J : It} {xs ys : List V} {g : TG} {tt : TT} {te : TE} {vs : List Nat} {σ : L2.St} {H1 : Hp} {D : Addr} {Qd : Hp → Prop} (hl : xs.length = ys.length) (Pv : Nat → Hp → Prop) (h0 : Pv 0 (upd H1 D (.lst [])))
    (go : ∀ i H, Pv i H → i < xs.length → J.go i H) (stop : ∀ H, Pv xs.length H → J.stop xs.length H)
    (yl : ∀ i H v H', Pv i H → J.yld i H v H' → ∃ T x y, v = .ref T ∧ H T = none ∧ H' = upd H T (.tup [x, y]) ∧ xs[i]? = some x ∧ ys[i]? = some y)
    (hs : ∀ (i : Nat) (x y : V) (T : Addr) (H : Hp), xs[i]? = some x → ys[i]? = some y → Pv i H → H T = none → g (.ref T) (wipe σ vs) (upd H T (.tup [x, y])) fun σ2 H2 => wipe σ2 vs = wipe σ vs ∧ tt σ2 H2 fun b H3 =>
      if b = true then te σ2 H3 fun y H4 => ∃ acc, H4 D = some (.lst acc) ∧ acc.length < sizeLine ∧ Pv (i + 1) (upd H4 D (.lst (acc ++ [y]))) else Pv (i + 1) H3) (hd : ∀ H, Pv xs.length H → Qd H) :
    ∃ W : Nat → Nat → Hp → Prop, (∃ m, W 0 m (upd H1 D (.lst []))) ∧ ∀ i m H, W i m H →
      (J.stop i H ∧ Qd H) ∨ (J.go i H ∧ ∃ Nx : Hp → Prop, (∀ H', Nx H' → ∃ m', m' < m ∧ W (i + 1) m' H') ∧ ∀ x H', J.yld i H x H' → g x (wipe σ vs) H' fun σ2 H2 => wipe σ2 vs = wipe σ vs ∧ tt σ2 H2 fun b H3 =>
        if b = true then te σ2 H3 fun y H4 => ∃ acc, H4 D = some (.lst acc) ∧ acc.length < sizeLine ∧ Nx (upd H4 D (.lst (acc ++ [y]))) else Nx H3) := by
  refine ⟨fun i m H => m + i = xs.length ∧ Pv i H, ⟨xs.length, rfl, h0⟩, ?_⟩
  rintro i m H ⟨hm, p⟩
  by_cases lt : i < xs.length
  · refine .inr ⟨go i H p lt, Pv (i + 1), fun H' p' => ⟨m - 1, by omega, by omega, p'⟩, fun v H' y => ?_⟩
    obtain ⟨T, a, b, rfl, nT, rfl, ex, ey⟩ := yl i H v H' p y
    exact hs i a b T H ex ey p nT
  · obtain rfl : i = xs.length := by omega
    exact .inl ⟨stop H p, hd H p⟩
abbrev sSame : Stmt := topS 31
abbrev nSame : List Str := ["_law_found", "_law_expected", "_law_x", "_law_y"]
theorem scSame : FnScope nSame ["_law_found", "_law_expected"] (defScope sSame) := ⟨rfl, rfl, rfl, by decide +kernel, rfl, by decide +kernel, by decide +kernel⟩
structure BltS (mg : Str → Option Value) : Prop where
  isi : mg "isinstance" = none
  lst : mg "list" = none
  tup : mg "tuple" = none
  len : mg "len" = none
  all : mg "all" = none
  zip : mg "zip" = none
  bl : mg "bool" = none
  int : mg "int" = none
  dict : mg "dict" = none
  str : mg "str" = none
section
variable {P : Program} {w : World} {K : PySem.W.Frag} {mg : Str → Option Value} {base : Heap}
def spSame (K : PySem.W.Frag) (n : Nat) : Sp := fun vs H Q _ => ∃ (x y : V) (d e : PyData), vs = [x, y] ∧ Dp K H x d ∧ Dp K H y e ∧ fits n e ∧ ∀ H', Same H H' → Q (.bl (sameD n d e)) H'
def spPrev (K : PySem.W.Frag) : Nat → Sp
  | 0 => fun _ _ _ _ => False
  | n + 1 => spSame K n
theorem kitLT {K : PySem.W.Frag} (d : PyData) : PySem.W.kitAny K (.type (tyName d)) [.type "list", .type "tuple"] = some (isL d || isT d) := by
  refine kitAny_cons (kit_ty (kitL d)) (fun h => kitAny_cons (kit_ty (kitT d)) (fun h2 => ?_) (fun h2 => ?_)) (fun h => ?_)
  · rw [h, h2]
    exact kitAny_nil
  · rw [h2, Bool.or_true]
  · rw [h, Bool.true_or]
theorem same_tags {n : Nat} {d e : PyData} (h : sameD n d e = true) : isL d = isL e ∧ isT d = isT e ∧ isN d = isN e ∧ isB d = isB e ∧ isI d = isI e ∧ isM d = isM e ∧ isS d = isS e := by
  cases n <;> cases d <;> cases e <;> first | exact ⟨rfl, rfl, rfl, rfl, rfl, rfl, rfl⟩ | (exact absurd h (by simp [sameD, sameS]))
theorem same_scal {n : Nat} {d e : PyData} (nL : isL e = false) (nT : isT e = false) : sameD n d e = sameS d e := by
  cases n <;> cases e <;> first | rfl | (cases d <;> rfl) | exact Bool.noConfusion (show true = false from nL) | exact Bool.noConfusion (show true = false from nT)
theorem tag_ne {n : Nat} {d e : PyData} {a b : Bool} (hp : sameD n d e = true → a = b) (c : (!decide (V.bl a = V.bl b)) = true) : sameD n d e = false := by
  cases z : sameD n d e with
  | false => rfl
  | true =>
    rw [hp z, decide_eq_true rfl] at c
    cases c
theorem tag_eq {a b : Bool} (c : ¬ (!decide (V.bl a = V.bl b)) = true) : a = b := by
  cases a <;> cases b <;> first | rfl | exact absurd rfl c
theorem zip_get {α β γ : Type} {f : α → β → γ} {as : List α} {bs : List β} {i : Nat} {a : α} {b : β} (h1 : as[i]? = some a) (h2 : bs[i]? = some b) : (List.zipWith f as bs)[i]? = some (f a b) := by
  rw [List.getElem?_zipWith, h1, h2]
theorem same_turns {J : It} {n : Nat} {xs ys : List V} {ds es : List PyData} {H H1 : Hp} {D : Addr} {Qd : Hp → Prop} {σ : L2.St} (h1 : Same H H1) (hx : DpAll K H xs ds) (hy : DpAll K H ys es) (hl : ds.length = es.length) (sh : ds.length ≤ 1000) (fit : ∀ e ∈ es, fits n e) (nD : H1 D = none)
    (sσ : σ.length = 4)
    (go : ∀ i H', Same H1 H' → i < xs.length → J.go i H') (stop : ∀ H', Same H1 H' → J.stop xs.length H')
    (yl : ∀ i H' v H'', Same H1 H' → J.yld i H' v H'' → ∃ T x y, v = .ref T ∧ H' T = none ∧ H'' = upd H' T (.tup [x, y]) ∧ xs[i]? = some x ∧ ys[i]? = some y)
    (hd : ∀ H', Same H1 H' → H' D = some (.lst ((List.zipWith (sameD n) ds es).map V.bl)) → Qd H') :
    ∃ W : Nat → Nat → Hp → Prop, (∃ m, W 0 m (upd H1 D (.lst []))) ∧ ∀ i m H, W i m H →
      (J.stop i H ∧ Qd H) ∨ (J.go i H ∧ ∃ Nx : Hp → Prop, (∀ H', Nx H' → ∃ m', m' < m ∧ W (i + 1) m' H') ∧ ∀ x H', J.yld i H x H' → gTup K 2 (gCons (gName 2) (gCons (gName 3) gNil)) x (wipe σ [2, 3]) H' fun σ2 H2 => wipe σ2 [2, 3] = wipe σ [2, 3] ∧ tYes σ2 H2 fun b H3 =>
        if b = true then tCall (spSame K n) [] E0 (tCons (tVar 2) (tCons (tVar 3) tNil)) σ2 H3 fun y H4 => ∃ acc, H4 D = some (.lst acc) ∧ acc.length < sizeLine ∧ Nx (upd H4 D (.lst (acc ++ [y]))) else Nx H3) := by
  have lx := dps_len hx
  have ly := dps_len hy
  obtain ⟨s0, s1, s2, s3, rfl⟩ : ∃ s0 s1 s2 s3, σ = [s0, s1, s2, s3] := by
    match σ, sσ with
    | [a, b, c, d], _ => exact ⟨a, b, c, d, rfl⟩
  refine lc_pairs (xs := xs) (ys := ys) (by omega) (fun i H' => Same H1 H' ∧ H' D = some (.lst (((List.zipWith (sameD n) ds es).take i).map V.bl))) ⟨same_new nD, upd_same⟩ (fun i H' p => go i H' p.1) (fun H' p => stop H' p.1) (fun i H' v H'' p y => yl i H' v H'' p.1 y) ?_ ?_
  · rintro i x y T H' ex ey ⟨sm, eD⟩ nT
    have sT : Same H' (upd H' T (.tup [x, y])) := same_new nT
    have sA : Same H (upd H' T (.tup [x, y])) := (h1.trans sm).trans sT
    obtain ⟨d, ed, dd⟩ := dps_get hx ex
    obtain ⟨e, ee, de⟩ := dps_get hy ey
    refine ⟨T, [x, y], rfl, SqT.of upd_same, rfl, x, [y], rfl, y, [], rfl, rfl, rfl, ?_⟩
    refine ⟨x, rfl, y, rfl, x, y, d, e, rfl, dp_same sA dd, dp_same sA de, fit e (List.mem_of_getElem? ee), fun H4 s4 => ?_⟩
    have zg : (List.zipWith (sameD n) ds es)[i]? = some (sameD n d e) := zip_get ed ee
    refine ⟨_, s4 _ _ (sT _ _ eD), ?_, same_upd ((sm.trans sT).trans s4) nD, ?_⟩
    · rw [List.length_map, List.length_take, List.length_zipWith]
      exact small1000 (by omega)
    · rw [upd_same, List.take_add_one, zg, List.map_append]
      rfl
  · rintro H' ⟨sm, eD⟩
    rw [List.take_of_length_le (by rw [List.length_zipWith]; omega)] at eD
    exact hd H' sm eD
theorem same_step {f : Addr} {fd : FuncData} {n : Nat} (F : Fun K "_law_same" "_law_same" sSame f fd) (g : mg "_law_same" = some (.ref f)) (bn : L2.Binds K fd ["_law_found", "_law_expected"] []) (B : BltS mg)
    (ih : FnOk P w K mg base CX0 (n + 1) f fd ["_law_found", "_law_expected"] (spPrev K n)) : FnOk P w K mg base CX0 (n + 2) f fd ["_law_found", "_law_expected"] (spSame K n) := by
  refine F.ok scSame (fun vs H Q E h => ?_) (fun cdv A outer s H vs Q E hr h => ?_)
  · obtain ⟨x, y, d, e, rfl, _⟩ := h
    rfl
  · obtain ⟨x, y, d, e, rfl, hd, he, hf, q⟩ := h
    refine ⟨_, pss_cons (ps_if (pt_val (pe_callB call_isiT (by rfl) B.isi (by decide +kernel) (pa_cons (pv 1) (pa_cons (pe_tup (pa_cons (pe_bltn (v := .ty "list") (by rfl) B.lst (by decide +kernel) rfl) (pa_cons (pe_bltn (v := .ty "tuple") (by rfl) B.tup (by decide +kernel) rfl) pa_nil))) pa_nil))))
        (pss_cons (ps_if (PW.pt (pw_or (pt_cmpR op_ne (pe_callB call_isi (by rfl) B.isi (by decide +kernel) (pa_cons (pv 0) (pa_cons (pe_bltn (v := .ty "list") (by rfl) B.lst (by decide +kernel) rfl) pa_nil)))
              (pe_callB call_isi (by rfl) B.isi (by decide +kernel) (pa_cons (pv 1) (pa_cons (pe_bltn (v := .ty "list") (by rfl) B.lst (by decide +kernel) rfl) pa_nil))) (nomark _))
            (pw_or1 (pt_cmpR op_ne (pe_callB call_isi (by rfl) B.isi (by decide +kernel) (pa_cons (pv 0) (pa_cons (pe_bltn (v := .ty "tuple") (by rfl) B.tup (by decide +kernel) rfl) pa_nil)))
              (pe_callB call_isi (by rfl) B.isi (by decide +kernel) (pa_cons (pv 1) (pa_cons (pe_bltn (v := .ty "tuple") (by rfl) B.tup (by decide +kernel) rfl) pa_nil))) (nomark _)))))
            (pss_one (ps_ret pe_bl)) pss_nil)
          (pss_one (ps_ret (pe_and (pe_cmpR op_eq (pe_callB call_len_seq (by rfl) B.len PySem.boot_len (pa_cons (pv 0) pa_nil)) (pe_callB call_len_seq (by rfl) B.len PySem.boot_len (pa_cons (pv 1) pa_nil)) (nomark _))
            (pe_one (pe_callB (cr_all rfl) (by rfl) B.all (by decide +kernel) (pa_cons (pe_lc (own := [("_law_x", 2), ("_law_y", 3)]) (g := gTup K 2 (gCons (gName 2) (gCons (gName 3) gNil))) (tt := tYes) (te := tCall (spPrev K n) [] E0 (tCons (tVar 2) (tCons (tVar 3) tNil))) rfl scSame.nd
                (RZ.pi_zipA (by rfl) B.zip (pa_cons (pv 0) (pa_cons (pv 1) pa_nil))) (blkOk_by (N := nSame) (sc := defScope sSame) (by decide +kernel))
                (fun _ _ _ _ _ => pg_tup rfl (pgs_cons (pg_name (i := 2) scSame.nd rfl (Or.inl rfl)) (pgs_cons (pg_name (i := 3) scSame.nd rfl (Or.inl rfl)) pgs_nil))) (fun _ _ _ _ _ => pts_nil)
                (fun _ _ _ _ _ => pe_call ih hr (by rfl) g F.kp bn .nil pass0 (pa_cons (pv 2) (pa_cons (pv 3) pa_nil)))) pa_nil)))))))
        pss_nil)
      (pss_cons (ps_if (PW.pt (pw_or (pt_cmpR op_ne (pe_cmp (pc_isN (pv 0))) (pe_cmp (pc_isN (pv 1))) (nomark _))
            (pw_or1 (pt_cmpR op_ne (pe_callB call_isi (by rfl) B.isi (by decide +kernel) (pa_cons (pv 0) (pa_cons (pe_bltn (v := .ty "bool") (by rfl) B.bl (by decide +kernel) rfl) pa_nil)))
              (pe_callB call_isi (by rfl) B.isi (by decide +kernel) (pa_cons (pv 1) (pa_cons (pe_bltn (v := .ty "bool") (by rfl) B.bl (by decide +kernel) rfl) pa_nil))) (nomark _)))))
            (pss_one (ps_ret pe_bl)) pss_nil)
      (pss_cons (ps_if (PW.pt (pw_or (pt_cmpR op_ne (pe_callB call_isi (by rfl) B.isi (by decide +kernel) (pa_cons (pv 0) (pa_cons (pe_bltn (v := .ty "int") (by rfl) B.int (by decide +kernel) rfl) pa_nil)))
              (pe_callB call_isi (by rfl) B.isi (by decide +kernel) (pa_cons (pv 1) (pa_cons (pe_bltn (v := .ty "int") (by rfl) B.int (by decide +kernel) rfl) pa_nil))) (nomark _))
            (pw_or1 (pt_cmpR op_ne (pe_callB call_isi (by rfl) B.isi (by decide +kernel) (pa_cons (pv 0) (pa_cons (pe_bltn (v := .ty "dict") (by rfl) B.dict (by decide +kernel) rfl) pa_nil)))
              (pe_callB call_isi (by rfl) B.isi (by decide +kernel) (pa_cons (pv 1) (pa_cons (pe_bltn (v := .ty "dict") (by rfl) B.dict (by decide +kernel) rfl) pa_nil))) (nomark _)))))
            (pss_one (ps_ret pe_bl)) pss_nil)
      (pss_one (ps_ret (pe_and (pe_cmpR op_eq (pe_callB call_isi (by rfl) B.isi (by decide +kernel) (pa_cons (pv 0) (pa_cons (pe_bltn (v := .ty "str") (by rfl) B.str (by decide +kernel) rfl) pa_nil)))
              (pe_callB call_isi (by rfl) B.isi (by decide +kernel) (pa_cons (pv 1) (pa_cons (pe_bltn (v := .ty "str") (by rfl) B.str (by decide +kernel) rfl) pa_nil))) (nomark _))
            (pe_one (pe_cmpR op_eq (pv 0) (pv 1) (nomark _)))))))), ?_⟩
    refine ⟨y, rfl, Nat.le_of_ble_eq_true rfl, fun tp ntp => ?_⟩
    have s1 : Same H (upd H tp (.tup [.ty "list", .ty "tuple"])) := same_new ntp
    have tpe : (upd H tp (.tup [.ty "list", .ty "tuple"])) tp = some (.tup [.ty "list", .ty "tuple"]) := upd_same
    generalize (upd H tp (.tup [.ty "list", .ty "tuple"])) = H1 at s1 tpe
    have hd1 := dp_same s1 hd
    have he1 := dp_same s1 he
    have tags := @same_tags n d e
    refine ⟨y, tp, _, _, _, isL e || isT e, rfl, tpe, .cons (.ty "list") (.cons (.ty "tuple") .nil), dp_ty he1, kitLT e, _, rfl, ite2 (fun c => ?_) (fun c => ?_)⟩
    · refine ⟨x, rfl, _, _, _, _, isL d, rfl, .ty "list", dp_ty hd1, kit_ty (kitL d), y, rfl, _, _, _, _, isL e, rfl, .ty "list", dp_ty he1, kit_ty (kitL e), rfl, _, rfl, ite2 (fun c1 => ?_) (fun c1 => ?_)⟩
      · have z := q _ s1
        rw [tag_ne (fun t => (tags t).1) c1] at z
        exact z
      · refine ⟨x, rfl, _, _, _, _, isT d, rfl, .ty "tuple", dp_ty hd1, kit_ty (kitT d), y, rfl, _, _, _, _, isT e, rfl, .ty "tuple", dp_ty he1, kit_ty (kitT e), rfl, _, rfl, ite2 (fun c2 => ?_) (fun c2 => ?_)⟩
        · have z := q _ s1
          rw [tag_ne (fun t => (tags t).2.1) c2] at z
          exact z
        · have eL := tag_eq c1
          have eT := tag_eq c2
          cases he1 with
          | @lst b ys es hb hes =>
            cases hd1 with
            | @lst a xs ds ha hds =>
              cases n with
              | zero => exact absurd hf.1 (by simp [isL])
              | succ m =>
                obtain ⟨f1, f2⟩ := hf
                have lx := dps_len hds
                have ly := dps_len hes
                refine ⟨_, rfl, a, xs, rfl, .inl ha, _, rfl, b, ys, rfl, .inl hb, rfl, _, rfl, ite2 (fun c3 => ?_) (fun c3 => ?_)⟩
                · have l3 : ds.length = es.length := by
                    have := V.int.inj (of_decide_eq_true c3)
                    omega
                  refine ⟨_, rfl, _, rfl, a, b, xs, ys, rfl, .inl ⟨ha, hb, fun D nD => same_turns (Same.refl H1) hds hes l3 (by omega) f2 nD rfl (fun i H' sm lt => ⟨xs, ys, xs[i], ys[i]'(by omega), sm.seq ha, sm.seq hb, List.getElem?_eq_getElem lt, List.getElem?_eq_getElem (by omega)⟩)
                    (fun H' sm => ⟨xs, ys, sm.seq ha, sm.seq hb, .inl (Nat.le_refl _)⟩) (fun i H' v H'' sm y => ?_) (fun H' sm eD => ?_)⟩⟩
                  · obtain ⟨T, x', y', e1, e2, e3, g1, g2⟩ := y
                    exact ⟨T, x', y', e1, e2, e3, g1 _ (sm.seq ha), g2 _ (sm.seq hb)⟩
                  · refine ⟨D, _, rfl, SqL.of eD, ?_⟩
                    have z := q _ (s1.trans sm)
                    have e4 : sameD (m + 1) (.list ds) (.list es) = (List.zipWith (sameD m) ds es).all id := by
                      show (decide (ds.length = es.length) && _) = _
                      rw [decide_eq_true l3, Bool.true_and]
                    rw [e4] at z
                    exact z
                · have z := q _ s1
                  have e4 : sameD (m + 1) (.list ds) (.list es) = false := by
                    show (decide (ds.length = es.length) && _) = false
                    rw [decide_eq_false (fun l3 => c3 (decide_eq_true (by rw [lx, ly, l3]))), Bool.false_and]
                  rw [e4] at z
                  exact z
            | _ => exact absurd eL (by simp [isL])
          | @tup b ys es hb hes =>
            cases hd1 with
            | @tup a xs ds ha hds =>
              cases n with
              | zero => exact absurd hf.2.1 (by simp [isT])
              | succ m =>
                obtain ⟨f1, f2⟩ := hf
                have lx := dps_len hds
                have ly := dps_len hes
                refine ⟨_, rfl, a, xs, rfl, .inr ha, _, rfl, b, ys, rfl, .inr hb, rfl, _, rfl, ite2 (fun c3 => ?_) (fun c3 => ?_)⟩
                · have l3 : ds.length = es.length := by
                    have := V.int.inj (of_decide_eq_true c3)
                    omega
                  refine ⟨_, rfl, _, rfl, a, b, xs, ys, rfl, .inr ⟨ha, hb, fun D nD => same_turns (Same.refl H1) hds hes l3 (by omega) f2 nD rfl (fun i H' sm lt => ⟨xs, ys, xs[i], ys[i]'(by omega), SqT.same sm ha, SqT.same sm hb, List.getElem?_eq_getElem lt, List.getElem?_eq_getElem (by omega)⟩)
                    (fun H' sm => ⟨xs, ys, SqT.same sm ha, SqT.same sm hb, .inl (Nat.le_refl _)⟩) (fun i H' v H'' sm y => ?_) (fun H' sm eD => ?_)⟩⟩
                  · obtain ⟨T, x', y', e1, e2, e3, g1, g2⟩ := y
                    exact ⟨T, x', y', e1, e2, e3, g1 _ (SqT.same sm ha), g2 _ (SqT.same sm hb)⟩
                  · refine ⟨D, _, rfl, SqL.of eD, ?_⟩
                    have z := q _ (s1.trans sm)
                    have e4 : sameD (m + 1) (.tuple ds) (.tuple es) = (List.zipWith (sameD m) ds es).all id := by
                      show (decide (ds.length = es.length) && _) = _
                      rw [decide_eq_true l3, Bool.true_and]
                    rw [e4] at z
                    exact z
                · have z := q _ s1
                  have e4 : sameD (m + 1) (.tuple ds) (.tuple es) = false := by
                    show (decide (ds.length = es.length) && _) = false
                    rw [decide_eq_false (fun l3 => c3 (decide_eq_true (by rw [lx, ly, l3]))), Bool.false_and]
                  rw [e4] at z
                  exact z
            | _ => exact absurd eT (by simp [isT])
          | _ => exact absurd c (by simp [isL, isT])
    · have nL : isL e = false := by
        cases z : isL e with
        | false => rfl
        | true => exact absurd (by rw [z, Bool.true_or]) c
      have nT : isT e = false := by
        cases z : isT e with
        | false => rfl
        | true => exact absurd (by rw [z, Bool.or_true]) c
      refine ⟨x, rfl, y, rfl, rfl, _, rfl, ite2 (fun c1 => ?_) (fun c1 => ?_)⟩
      · rw [dp_non hd1, dp_non he1] at c1
        have z := q _ s1
        rw [tag_ne (fun t => (tags t).2.2.1) c1] at z
        exact z
      rw [dp_non hd1, dp_non he1] at c1
      refine ⟨x, rfl, _, _, _, _, isB d, rfl, .ty "bool", dp_ty hd1, kit_ty (kitBo d), y, rfl, _, _, _, _, isB e, rfl, .ty "bool", dp_ty he1, kit_ty (kitBo e), rfl, _, rfl, ite2 (fun c2 => ?_) (fun c2 => ?_)⟩
      · have z := q _ s1
        rw [tag_ne (fun t => (tags t).2.2.2.1) c2] at z
        exact z
      refine ⟨x, rfl, _, _, _, _, isI d, rfl, .ty "int", dp_ty hd1, kit_ty (kitI d), y, rfl, _, _, _, _, isI e, rfl, .ty "int", dp_ty he1, kit_ty (kitI e), rfl, _, rfl, ite2 (fun c3 => ?_) (fun c3 => ?_)⟩
      · have z := q _ s1
        rw [tag_ne (fun t => (tags t).2.2.2.2.1) c3] at z
        exact z
      refine ⟨x, rfl, _, _, _, _, isM d, rfl, .ty "dict", dp_ty hd1, kit_ty (kitM d), y, rfl, _, _, _, _, isM e, rfl, .ty "dict", dp_ty he1, kit_ty (kitM e), rfl, _, rfl, ite2 (fun c4 => ?_) (fun c4 => ?_)⟩
      · have z := q _ s1
        rw [tag_ne (fun t => (tags t).2.2.2.2.2.1) c4] at z
        exact z
      refine ⟨x, rfl, _, _, _, _, isS d, rfl, .ty "str", dp_ty hd1, kit_ty (kitS d), y, rfl, _, _, _, _, isS e, rfl, .ty "str", dp_ty he1, kit_ty (kitS e), rfl, _, rfl, ite2 (fun c5 => ?_) (fun c5 => ?_)⟩
      · have eN := tag_eq c1
        have eB := tag_eq c2
        have eI := tag_eq c3
        have eS : isS d = isS e := V.bl.inj (of_decide_eq_true c5)
        have z := q _ s1
        have e0 : sameD n d e = sameS d e := same_scal nL nT
        rw [e0] at z
        cases he1 with
        | non =>
          cases hd1 with
          | non => exact ⟨_, rfl, _, rfl, rfl, z⟩
          | _ => exact absurd eN (by simp [isN])
        | bl b =>
          cases hd1 with
          | bl a => exact ⟨_, rfl, _, rfl, rfl, by rw [dec_bl]; exact z⟩
          | _ => exact absurd eB (by simp [isB])
        | int b =>
          cases hd1 with
          | int a => exact ⟨_, rfl, _, rfl, rfl, by rw [dec_int]; exact z⟩
          | bl a => exact absurd eB (by simp [isB])
          | _ => exact absurd eI (by simp [isI])
        | str b =>
          cases hd1 with
          | str a => exact ⟨_, rfl, _, rfl, rfl, by rw [dec_str]; exact z⟩
          | _ => exact absurd eS (by simp [isS])
        | lst _ _ => exact absurd nL (by simp [isL])
        | tup _ _ => exact absurd nT (by simp [isT])
      · have z := q _ s1
        have c5' : (!decide (V.bl (isS d) = V.bl (isS e))) = true := by
          cases zz : decide (V.bl (isS d) = V.bl (isS e)) with
          | false => rfl
          | true => exact absurd zz c5
        rw [tag_ne (fun t => (tags t).2.2.2.2.2.2) c5'] at z
        exact z
theorem ok_same {f : Addr} {fd : FuncData} (F : Fun K "_law_same" "_law_same" sSame f fd) (g : mg "_law_same" = some (.ref f)) (bn : L2.Binds K fd ["_law_found", "_law_expected"] []) (B : BltS mg) :
    ∀ n, FnOk P w K mg base CX0 (n + 2) f fd ["_law_found", "_law_expected"] (spSame K n)
  | 0 => same_step F g bn B ⟨fun _ _ _ _ h => h.elim, fun _ _ _ _ _ _ _ _ _ _ _ _ _ h => h.elim⟩
  | n + 1 => same_step F g bn B (ok_same F g bn B n)
end
end Dw
namespace Dw
open PySem PySem.Spec PyProof.Rows L2 LamX
/-! ### _law_outcome -/
abbrev sOut : Stmt := topS 32
abbrev nOut : List Str := ["_law_call", "_law_result", "_law_code", "e"]
theorem scOut : FnScope nOut ["_law_call"] (defScope sOut) := ⟨rfl, rfl, rfl, by decide +kernel, rfl, by decide +kernel, by decide +kernel⟩
/-- what is wanted of an error that the call lets out: one of ours, with a code -/
def EOut (K : PySem.W.Frag) (CQ CN : Addr) (Q : VK) : XK := fun cls d H => ∃ (C dd : Addr) (fs : List (Str × V)) (code : V), cls = .ref C ∧ d = some dd ∧ H dd = some (.xd fs) ∧ fs.lookup ("code" : Str) = some code ∧ XfC K C ∧ PySem.W.findIn K (.ref C) "code" = some none ∧
  (PySem.W.exmOne K (.ref C) (.ref CQ) = some true ∨ (PySem.W.exmOne K (.ref C) (.ref CQ) = some false ∧ PySem.W.exmOne K (.ref C) (.ref CN) = some true)) ∧ ∀ p, H p = none → Q (.ref p) (upd H p (.tup [.non, code]))
def TOut (K : PySem.W.Frag) (CQ CN : Addr) : (XK → Hp → VK → Prop) → Hp → VK → Prop := fun tl H Q => tl (EOut K CQ CN Q) H (fun v H' => ∀ p, H' p = none → Q (.ref p) (upd H' p (.tup [v, .str ""])))
theorem out_gives {X : Cx} {g CQ CN : Addr} {cdg : Value} {q : Str} (gQ : X.mg "QueryError" = some (.ref CQ)) (gN : X.mg "NotFound" = some (.ref CN)) :
    GivesS X nOut "_law_outcome" (defScope sOut) g cdg (defBody sOut) "_law_call" q (TOut X.K CQ CN) := by
  intro f c s H Q tl act hc h
  refine ⟨_, pss_cons (ps_set (i := 1) scOut.nd rfl (.inl rfl) pe_non) (pss_cons (ps_set (i := 2) scOut.nd rfl (.inl rfl) pe_str)
    (pss_cons (ps_try_all (i := 3) (n := "e")
        (tb := fun W D σ H => ∃ (E : XK) (Q0 : VK), (∀ cls d H', E cls d H' → W cls d σ H') ∧ (∀ v H', Q0 v H' → D.nx (σ.set 1 (some v)) H') ∧ σ[0]? = some (some (.ref f)) ∧ H c = some (CodeO c q) ∧ tl E H Q0)
        (out := fun _ _ _ _ => False) rfl rfl scOut.nd rfl rfl L2.takes0 (fun W pn xe tk _ => ?_)
        (.one (c := .ref CQ) ⟨by rfl, by decide, .inl gQ⟩ (fun a oe cls d pn hz hf => pss_one (ps_set (i := 2) scOut.nd rfl (.inl rfl) (pe_xfE hz hf (pv 3))))
        (.one (c := .ref CN) ⟨by rfl, by decide, .inl gN⟩ (fun a oe cls d pn hz hf => pss_one (ps_set (i := 2) scOut.nd rfl (.inl rfl) (pe_xfE hz hf (pv 3)))) .none)))
    (pss_one (ps_ret (pe_tup (pa_cons (pv 1) (pa_cons (pv 2) pa_nil))))))), ?_⟩
  · refine ⟨fun pins s' σ H' D J rd => ?_⟩
    obtain ⟨E, Q0, w1, w2, h1, h2, h3⟩ := rd
    exact (pss_one (ps_set (i := 1) scOut.nd rfl (.inl rfl) (pe_mono (act W pn xe E σ _ _ tk w1)))).run pins s' σ H' D J ⟨Q0, w2, rfl, h1, h2, h3⟩
  · refine ⟨_, _, fun cls d H' e => ?_, fun v H' z => ⟨_, rfl, _, rfl, Nat.le_of_ble_eq_true rfl, fun p np => z p np⟩, rfl, hc, h⟩
    obtain ⟨C, dd, fs, code, rfl, rfl, e3, e4, xf, nf, hm, z⟩ := e
    rcases hm with m1 | ⟨m1, m2⟩
    · refine ⟨true, m1, fun _ a na => ?_, fun y => Bool.noConfusion y⟩
      exact ⟨C, xf, nf, _, rfl, rfl, rfl, dd, fs, code, rfl, e3, e4, _, rfl, _, rfl, Nat.le_of_ble_eq_true rfl, fun p np => z p np⟩
    · refine ⟨false, m1, fun y => Bool.noConfusion y, fun _ => ⟨true, m2, fun _ a na => ?_, fun y => Bool.noConfusion y⟩⟩
      exact ⟨C, xf, nf, _, rfl, rfl, rfl, dd, fs, code, rfl, e3, e4, _, rfl, _, rfl, Nat.le_of_ble_eq_true rfl, fun p np => z p np⟩
end Dw
namespace Dw
open PySem PySem.Spec PyProof.Rows L2
abbrev sLess : Stmt := topS 10
abbrev sIsFr : Stmt := topS 11
abbrev sChkF : Stmt := topS 12
abbrev sIV : Stmt := inClass (topS 3) 0
theorem scLess : FnScope ["first", "second"] ["first", "second"] (defScope sLess) := ⟨rfl, rfl, rfl, by decide +kernel, rfl, by decide +kernel, by decide +kernel⟩
theorem scIsFr : FnScope ["value", "numerator", "denominator"] ["value"] (defScope sIsFr) := ⟨rfl, rfl, rfl, by decide +kernel, rfl, by decide +kernel, by decide +kernel⟩
theorem scChkF : FnScope ["value"] ["value"] (defScope sChkF) := ⟨rfl, rfl, rfl, by decide +kernel, rfl, by decide +kernel, by decide +kernel⟩
theorem scIV : FnScope ["self", "message"] ["self", "message"] (defScope sIV) := ⟨rfl, rfl, rfl, by decide +kernel, rfl, by decide +kernel, by decide +kernel⟩
/-! ### fractions as data -/
abbrev Fr := Int × Int
/-- at v: the pair p -/
def PrV (K : PySem.W.Frag) (H : Hp) (v : V) (p : Fr) : Prop := ∃ a, v = .ref a ∧ SqT K H a [.int p.1, .int p.2]
/-- of a size that is reckoned with -/
def Sml (p : Fr) : Prop := p.1.natAbs < 2 ^ 1000 ∧ p.2.natAbs < 2 ^ 1000
def frD (p : Fr) : PyData := .tuple [.int p.1, .int p.2]
def lessF (p q : Fr) : Bool := decide (p.1 * q.2 < q.1 * p.2)
def isFr (p : Fr) : Bool := decide (1 ≤ p.2) && decide (Int.gcd p.1 p.2 = 1)
theorem PrV.same {K : PySem.W.Frag} {H H' : Hp} {v : V} {p : Fr} (e : Same H H') (h : PrV K H v p) : PrV K H' v p := by
  obtain ⟨a, rfl, s⟩ := h
  exact ⟨a, rfl, SqT.same e s⟩
theorem PrV.dp {K : PySem.W.Frag} {H : Hp} {v : V} {p : Fr} (h : PrV K H v p) : Dp K H v (frD p) := by
  obtain ⟨a, rfl, s⟩ := h
  exact .tup s (.cons (.int _) (.cons (.int _) .nil))
theorem PrV.of {K : PySem.W.Frag} {H : Hp} {v : V} {p : Fr} (h : Dp K H v (frD p)) : PrV K H v p := by
  cases h with
  | tup s a =>
    cases a with
    | cons h1 h2 =>
      cases h2 with
      | cons h3 h4 =>
        cases h1
        cases h3
        cases h4
        exact ⟨_, rfl, s⟩
section
variable {P : Program} {w : World} {K : PySem.W.Frag} {mg : Str → Option Value} {base : Heap}
/-! ### less -/
def spLess (K : PySem.W.Frag) : Sp := fun vs H Q _ => ∃ (x y : V) (p q : Fr), vs = [x, y] ∧ PrV K H x p ∧ PrV K H y q ∧ Sml p ∧ Sml q ∧ Q (.bl (lessF p q)) H
theorem ok_less {f : Addr} {fd : FuncData} {k : Nat} (F : Fun K "less" "less" sLess f fd) : FnOk P w K mg base CX0 (k + 1) f fd ["first", "second"] (spLess K) := by
  refine F.ok scLess (fun vs H Q E h => ?_) (fun cdv A outer s H vs Q E hr h => ?_)
  · obtain ⟨x, y, p, q, rfl, _⟩ := h
    rfl
  · obtain ⟨x, y, p, q, rfl, ⟨a, rfl, ha⟩, ⟨b, rfl, hb⟩, s1, s2, z⟩ := h
    refine ⟨_, pss_one (ps_ret (pe_cmpR op_lt (pe_op op_mulW (pe_ix ix_tup (pv 0) pe_int (fun _ _ => rfl)) (pe_ix ix_tup (pv 1) pe_int (fun _ _ => rfl))) (pe_op op_mulW (pe_ix ix_tup (pv 1) pe_int (fun _ _ => rfl)) (pe_ix ix_tup (pv 0) pe_int (fun _ _ => rfl))) (nomark _))), ?_⟩
    exact ⟨_, rfl, a, _, _, _, rfl, rfl, ha, rfl, _, rfl, b, _, _, _, rfl, rfl, hb, rfl, _, _, rfl, rfl, wide_mul s1.1 s2.2 (by decide) (by decide) (by decide), _, rfl, b, _, _, _, rfl, rfl, hb, rfl, _, rfl, a, _, _, _, rfl, rfl, ha, rfl, _, _, rfl, rfl, wide_mul s2.1 s1.2 (by decide) (by decide) (by decide), _, _, rfl, rfl, z⟩
/-! ### is_fraction -/
def spIsFr (K : PySem.W.Frag) : Sp := fun vs H Q _ => ∃ (x : V) (p : Fr), vs = [x] ∧ PrV K H x p ∧ Q (.bl (isFr p)) H
theorem ok_isfr {f fG : Addr} {fd fdG : FuncData} {k : Nat} (F : Fun K "is_fraction" "is_fraction" sIsFr f fd) (GG : FnOk P w K mg base CX0 (k + 1) fG fdG ["first", "second"] spGcd) (gG : mg "greatest_divisor" = some (.ref fG)) (kG : PySem.W.keepIn K (.ref fG) = true)
    (bG : L2.Binds K fdG ["first", "second"] []) (mI : mg "isinstance" = none) (mT : mg "tuple" = none) (mL : mg "len" = none) (mN : mg "int" = none) : FnOk P w K mg base CX0 (k + 2) f fd ["value"] (spIsFr K) := by
  refine F.ok scIsFr (fun vs H Q E h => ?_) (fun cdv A outer s H vs Q E hr h => ?_)
  · obtain ⟨x, p, rfl, _⟩ := h
    rfl
  · obtain ⟨x, p, rfl, hp, q⟩ := h
    have ty : TyX K H x (.type "tuple") := dp_ty hp.dp
    obtain ⟨a, rfl, ha⟩ := hp
    refine ⟨_, pss_cons (ps_if (PW.pt (pw_or (pt_not (pt_val (pe_callB call_isi (by rfl) mI (by decide +kernel) (pa_cons (pv 0) (pa_cons (pe_bltn (v := .ty "tuple") (by rfl) mT (by decide +kernel) rfl) pa_nil)))))
        (pw_or1 (pt_cmpR op_ne (pe_callB call_len_seq (by rfl) mL PySem.boot_len (pa_cons (pv 0) pa_nil)) pe_int (nomark _))))) (pss_one (ps_ret pe_bl)) pss_nil)
      (pss_cons (ps_asg (pv 0) (pg_tup rfl (pgs_cons (pg_name (i := 1) scIsFr.nd rfl (Or.inl rfl)) (pgs_cons (pg_name (i := 2) scIsFr.nd rfl (Or.inl rfl)) pgs_nil))))
      (pss_cons (ps_if (PW.pt (pw_or (pt_not (pt_val (pe_callB call_isi (by rfl) mI (by decide +kernel) (pa_cons (pv 1) (pa_cons (pe_bltn (v := .ty "int") (by rfl) mN (by decide +kernel) rfl) pa_nil)))))
        (pw_or1 (pt_not (pt_val (pe_callB call_isi (by rfl) mI (by decide +kernel) (pa_cons (pv 2) (pa_cons (pe_bltn (v := .ty "int") (by rfl) mN (by decide +kernel) rfl) pa_nil)))))))) (pss_one (ps_ret pe_bl)) pss_nil)
      (pss_one (ps_ret (pe_and (pe_cmpR op_ge (pv 2) pe_int (nomark _)) (pe_one (pe_cmpR op_eq (pe_call GG hr (by rfl) gG kG bG .nil pass0 (pa_cons (pv 1) (pa_cons (pv 2) pa_nil))) pe_int (nomark _)))))))), ?_⟩
    refine ⟨_, rfl, _, _, _, _, true, rfl, .ty "tuple", ty, kit_ty (by decide +kernel), true, rfl, iteF ?_⟩
    refine ⟨_, rfl, a, _, rfl, .inr ha, rfl, _, rfl, iteNS rfl ?_⟩
    refine ⟨_, rfl, a, _, rfl, ha, rfl, _, _, rfl, _, _, rfl, rfl, ?_⟩
    refine ⟨_, rfl, _, _, _, _, true, rfl, .ty "int", .base (.int _), kit_ty (by decide +kernel), true, rfl, iteF ?_⟩
    refine ⟨_, rfl, _, _, _, _, true, rfl, .ty "int", .base (.int _), kit_ty (by decide +kernel), true, rfl, iteF ?_⟩
    refine ⟨_, rfl, _, _, rfl, rfl, _, rfl, ite2 (fun e => ?_) (fun e => ?_)⟩
    · have h1 : 1 ≤ p.2 := of_decide_eq_true e
      refine ⟨_, rfl, _, rfl, p.1, p.2, rfl, rfl, ?_⟩
      have e2 := q
      unfold isFr at e2
      rw [decide_eq_true h1, Bool.true_and] at e2
      have e3 : decide (V.int (Int.gcd p.1 p.2 : Int) = V.int 1) = decide (Int.gcd p.1 p.2 = 1) := by
        by_cases hg : Int.gcd p.1 p.2 = 1
        · rw [decide_eq_true hg, hg]
          exact decide_eq_true rfl
        · rw [decide_eq_false hg]
          exact decide_eq_false fun z => hg (by have := V.int.inj z; omega)
      rw [e3]
      exact e2
    · have h1 : ¬ 1 ≤ p.2 := fun z => e (decide_eq_true z)
      have e2 := q
      unfold isFr at e2
      rw [decide_eq_false h1, Bool.false_and] at e2
      exact e2
/-! ### check_fraction; what is raised -/
/-- an error with this code: of the class at C; its own dict at x, new -/
def Rz (C : Addr) (code : Str) (H : Hp) (E : XK) : Prop := ∀ x H', Same H H' → H x = none → H' x = some (.xd [(("code" : Str), .str code)]) → E (.ref C) (some x) H'
theorem Rz.of {C : Addr} {code : Str} {H H1 : Hp} {E : XK} (s : Same H H1) (h : Rz C code H E) : Rz C code H1 E := fun x H' s1 nx e => h x H' (s.trans s1) (s.free nx) e
def spChkF (K : PySem.W.Frag) (CI : Addr) : Sp := fun vs H Q E => ∃ (x : V) (p : Fr), vs = [x] ∧ PrV K H x p ∧ p.1.natAbs < 10 ^ 500 ∧ p.2.natAbs < 10 ^ 500 ∧ (isFr p = true → Q .non H) ∧ (isFr p = false → Rz CI "fraction" H E)
theorem made_err {C a dx : Addr} {H : Hp} {code : Str} {E : XK} (na : H a = none) (h1 : upd H a (exo a C none) dx = none) (h2 : dx ≠ a) (r : Rz C code H E) :
    E (.ref C) (some dx) (upd (del (upd (upd (upd H a (exo a C none)) dx (exd dx [("code", .str code)])) a (exo a C (some dx))) a) dx (.xd [("code", .str code)])) := by
  have nd : H dx = none := by
    rw [upd_ne h2] at h1
    exact h1
  refine r dx _ (fun b o e => ?_) nd upd_same
  have nb : b ≠ dx := ne_of_none e nd
  have na' : b ≠ a := ne_of_none e na
  rw [upd_ne nb, del_ne na', upd_ne na', upd_ne nb, upd_ne na']
  exact e
theorem ok_chkf {f fB CI fI : Addr} {fd fdB fdI : FuncData} {k : Nat} (F : Fun K "check_fraction" "check_fraction" sChkF f fd) (GB : FnOk P w K mg base CX0 (k + 2) fB fdB ["value"] (spIsFr K)) (gB : mg "is_fraction" = some (.ref fB)) (kB : PySem.W.keepIn K (.ref fB) = true) (bB : L2.Binds K fdB ["value"] [])
    (GI : FnOk P w K mg base CX0 (k + 2) fI fdI ["self", "message"] (spIF K "fraction")) (gI : mg "InvalidFraction" = some (.ref CI)) (oe : OexC K CI) (nf : PySem.W.findIn K (.ref CI) "code" = some none)
    (iC : PySem.W.findIn K (.ref CI) "__init__" = some (some (.ref fI))) (tI : PySem.W.typeIn K (.ref fI) = some (.type "function")) (bI : L2.Binds K fdI ["self", "message"] []) :
    FnOk P w K mg base (L2.CX P w) (k + 4) f fd ["value"] (spChkF K CI) := by
  refine F.okX scChkF (fun vs H Q E h => ?_) (fun cdv A outer s H vs Q E hr h => ?_)
  · obtain ⟨x, p, rfl, _⟩ := h
    rfl
  · obtain ⟨x, p, rfl, hp, b1, b2, kq, kr⟩ := h
    refine ⟨_, pss_one (ps_if (pt_not (pt_val (pe_call GB (hr.mono (by omega)) (by rfl) gB kB bB .nil pass0 (pa_cons (pv 0) pa_nil)))) (pss_one (ps_raise rfl (takes_of rfl rfl rfl rfl) (pmk_oex oe iC tI GI hr bI .nil pass0 (by rfl) gI (pa_cons (pe_joined (.cons (pe_fmtRP hr (pv 0)) (.cons pe_str .nil))) pa_nil)))) pss_nil), ?_⟩
    refine ⟨_, rfl, x, p, rfl, hp, _, rfl, ?_⟩
    cases e : isFr p with
    | true => exact iteF (kq e)
    | false =>
      refine iteT ?_
      obtain ⟨a, rfl, ha⟩ := hp
      refine ⟨_, rfl, a, p.1, p.2, rfl, ha, b1, b2, fun m lm => ⟨m, rfl, ?_, _, rfl, ?_, ?_⟩⟩
      · rw [strLen_append]
        show 0 + _ ≤ _
        rw [sizeLine_eq]
        omega
      · rw [strLen_append, strLen_append]
        have l2 : (" is not a reduced fraction" : Str).length = 26 := by decide +kernel
        rw [l2, sizeLine_eq]
        show 0 + _ + 26 ≤ _
        omega
      · exact ⟨Nat.le_of_ble_eq_true rfl, fun c nc => ⟨c, CI, _, rfl, oe, nf, upd_same, fun dx h1 h2 => ⟨rfl, dx, [("code", .str "fraction")], upd_same, by rw [upd_ne h2, upd_same], by rw [upd_ne h2] at h1; exact h1, made_err nc h1 h2 (kr e)⟩⟩⟩
/-- InvalidIntervals.__init__(self, message) -/
abbrev FIV (K : PySem.W.Frag) (f : Addr) (fd : FuncData) : Prop := FunD K "__init__" "InvalidIntervals.__init__" (defArgs sIV) (defBody sIV) (defScope sIV) [.str "not an interval list"] [] f fd
theorem ok_iv {f fQ CQ : Addr} {fd fdQ : FuncData} {k : Nat} {mc : Value} (F : FIV K f fd) (GQ : FnOk P w K mg base CX0 (k + 1) fQ fdQ ["self", "message", "code"] (spQE K))
    (gQ : mg "QueryError" = some (.ref CQ)) (rdQ : ClX.CRead K CQ mc) (fnd : PySem.W.findCls K (.ref CQ) mc "__init__" = some (.val (.ref fQ))) (kp : PySem.W.keepIn K (.ref fQ) = true) (bQ : L2.Binds K fdQ ["self", "message", "code"] []) :
    FnOk P w K mg base CX0 (k + 2) f fd ["self", "message"] (spIF K "intervals") := by
  refine F.ok scIV (fun vs H Q E h => ?_) (fun cdv A outer s H vs Q E hr h => ?_)
  · obtain ⟨a, C, m, rfl, _⟩ := h
    rfl
  · obtain ⟨a, C, m, rfl, oe, nf, ha, q⟩ := h
    refine ⟨_, pss_one (ps_expr (pe_clsfn GQ hr (by rfl) gQ rdQ fnd kp bQ .nil pass0 (pa_cons (pv 0) (pa_cons (pv 1) (pa_cons pe_str pa_nil))))), ?_⟩
    exact ⟨_, rfl, _, rfl, a, C, m, _, rfl, oe, nf, ha, fun dx h1 h2 => q dx h1 h2⟩
end
end Dw
namespace Dw
open PySem PySem.Spec PyProof.Rows L2
abbrev sNm : Stmt := topS 16
abbrev sChk : Stmt := topS 17
theorem scNm : FnScope ["name", "letter"] ["name"] (defScope sNm) := ⟨rfl, rfl, rfl, by decide +kernel, rfl, by decide +kernel, by decide +kernel⟩
theorem scChk : FnScope ["intervals", "previous", "name", "low", "high"] ["intervals"] (defScope sChk) := ⟨rfl, rfl, rfl, by decide +kernel, rfl, by decide +kernel, by decide +kernel⟩
/-! ### names -/
def letB (c : Nat) : Bool := (!decide ([c] < ("a" : Str).cps.toList)) && (!decide (("z" : Str).cps.toList < [c]))
def nmB (z : Str) : Bool := decide (1 ≤ z.length) && (decide (z.length ≤ 6) && z.cps.toList.all letB)
/-- a comprehension over a text -/
theorem lc_text {x : Str} {g : TG} {tt : TT} {te : TE} {vs : List Nat} {σ : L2.St} {H1 : Hp} {D : Addr} {Qd : Hp → Prop} (Pv : Nat → Hp → Prop) (h0 : Pv 0 (upd H1 D (.lst [])))
    (hs : ∀ (i : Nat) (c : Nat) (H : Hp), x.cps.toList[i]? = some c → Pv i H → g (.str ⟨#[c]⟩) (wipe σ vs) H fun σ2 H2 => wipe σ2 vs = wipe σ vs ∧ tt σ2 H2 fun b H3 =>
      if b = true then te σ2 H3 fun y H4 => ∃ acc, H4 D = some (.lst acc) ∧ acc.length < sizeLine ∧ Pv (i + 1) (upd H4 D (.lst (acc ++ [y]))) else Pv (i + 1) H3) (hd : ∀ H, Pv x.cps.toList.length H → Qd H) :
    ∃ W : Nat → Nat → Hp → Prop, (∃ m, W 0 m (upd H1 D (.lst []))) ∧ ∀ i m H, W i m H →
      ((Its x).stop i H ∧ Qd H) ∨ ((Its x).go i H ∧ ∃ Nx : Hp → Prop, (∀ H', Nx H' → ∃ m', m' < m ∧ W (i + 1) m' H') ∧ ∀ v H', (Its x).yld i H v H' → g v (wipe σ vs) H' fun σ2 H2 => wipe σ2 vs = wipe σ vs ∧ tt σ2 H2 fun b H3 =>
        if b = true then te σ2 H3 fun y H4 => ∃ acc, H4 D = some (.lst acc) ∧ acc.length < sizeLine ∧ Nx (upd H4 D (.lst (acc ++ [y]))) else Nx H3) := by
  have sz : x.cps.toList.length = x.cps.size := by simp
  refine ⟨fun i m H => m + i = x.cps.toList.length ∧ Pv i H, ⟨x.cps.toList.length, rfl, h0⟩, ?_⟩
  rintro i m H ⟨hm, p⟩
  by_cases lt : i < x.cps.size
  · refine .inr ⟨lt, Pv (i + 1), fun H' p' => ⟨m - 1, by omega, by omega, p'⟩, fun v H' y => ?_⟩
    obtain ⟨rfl, c, ec, rfl⟩ := y
    exact hs i c _ (by simpa using ec) p
  · obtain rfl : i = x.cps.toList.length := by omega
    exact .inl ⟨by show x.cps.size ≤ _; omega, hd H p⟩
section
variable {P : Program} {w : World} {K : PySem.W.Frag} {mg : Str → Option Value} {base : Heap}
def spNm : Sp := fun vs H Q _ => ∃ z : Str, vs = [.str z] ∧ z.length ≤ 1000 ∧ ∀ H', Same H H' → Q (.bl (nmB z)) H'
theorem ok_nm {f : Addr} {fd : FuncData} {k : Nat} {t6 : Tok} (F : Fun K "is_name" "is_name" sNm f fd) (m6 : mg "MAX_LETTERS" = some (.int 6 t6)) (mI : mg "isinstance" = none) (mS : mg "str" = none) (mL : mg "len" = none) (mA : mg "all" = none) : FnOk P w K mg base CX0 (k + 1) f fd ["name"] spNm := by
  refine F.ok scNm (fun vs H Q E h => ?_) (fun cdv A outer s H vs Q E hr h => ?_)
  · obtain ⟨z, rfl, _⟩ := h
    rfl
  · obtain ⟨z, rfl, hz, q⟩ := h
    refine ⟨_, pss_cons (ps_if (PW.pt (pw_or (pt_not (pt_val (pe_callB call_isi (by rfl) mI (by decide +kernel) (pa_cons (pv 0) (pa_cons (pe_bltn (v := .ty "str") (by rfl) mS (by decide +kernel) rfl) pa_nil)))))
        (pw_or1 (pt_not (pt_chain op_le op_le pe_int (pe_callB call_len_str (by rfl) mL PySem.boot_len (pa_cons (pv 0) pa_nil)) (pe_glob (v := .int 6) (by rfl) m6 ⟨_, rfl⟩)))))) (pss_one (ps_ret pe_bl)) pss_nil)
      (pss_one (ps_ret (pe_callB (cr_all rfl) (by rfl) mA (by decide +kernel) (pa_cons (pe_lc (own := [("letter", 1)]) (g := gName 1) (tt := tYes)
          (te := tChain (fun x y H Q => ∃ i j : Str, x = .str i ∧ y = .str j ∧ Q (.bl (!decide (j.cps.toList < i.cps.toList))) H) (fun x y H Q => ∃ i j : Str, x = .str i ∧ y = .str j ∧ Q (.bl (!decide (j.cps.toList < i.cps.toList))) H) (tC (.str "a")) (tVar 1) (tC (.str "z")))
          rfl scNm.nd (pi_str (pv 0)) (blkOk_by (N := ["name", "letter"]) (sc := defScope sNm) (by decide +kernel)) (fun _ _ _ _ _ => pg_name (i := 1) scNm.nd rfl (Or.inl rfl)) (fun _ _ _ _ _ => pts_nil)
          (fun _ _ _ _ _ => pe_chain op_le_str op_le_str pe_str (pv 1) pe_str)) pa_nil)))), ?_⟩
    have hsz : z.length ≤ sizeLine := Nat.le_of_lt (small1000 hz)
    refine ⟨_, rfl, _, _, _, _, true, rfl, .ty "str", .base (.str z), kit_ty (by decide +kernel), true, rfl, iteF ?_⟩
    refine ⟨_, rfl, z, rfl, hsz, 1, (z.length : Int), rfl, rfl, _, rfl, ?_⟩
    have nQ : nmB z = false → Q (.bl false) H := fun e => by
      have y := q H (Same.refl H)
      rw [e] at y
      exact y
    by_cases l1 : (1 : Int) ≤ (z.length : Int)
    · rw [decide_eq_true l1]
      refine iteT ?_
      refine ⟨_, _, rfl, rfl, _, rfl, ?_⟩
      by_cases l2 : (z.length : Int) ≤ 6
      · rw [decide_eq_true l2]
        refine iteF ?_
        refine ⟨_, rfl, z, rfl, fun D nD => lc_text (x := z) (fun i H' => Same H H' ∧ H' D = some (.lst (((z.cps.toList.take i).map letB).map V.bl))) ⟨same_new nD, upd_same⟩ (fun i c H' hc h => ?_) (fun H' h => ?_)⟩
        · refine ⟨rfl, _, rfl, _, _, rfl, rfl, _, rfl, ?_⟩
          have fin : ∀ b : Bool, b = letB c → ∃ acc, H' D = some (.lst acc) ∧ acc.length < sizeLine ∧ (Same H (upd H' D (.lst (acc ++ [V.bl b]))) ∧ upd H' D (.lst (acc ++ [V.bl b])) D = some (.lst (((z.cps.toList.take (i + 1)).map letB).map V.bl))) := fun b eb => by
            refine ⟨_, h.2, ?_, same_upd h.1 nD, ?_⟩
            · rw [List.length_map, List.length_map, List.length_take]
              have e0 : z.cps.toList.length = z.length := by simp [Str.length]
              exact small1000 (by omega)
            · rw [upd_same, List.take_add_one, hc, eb, List.map_append, List.map_append]
              rfl
          cases e1 : (!decide ([c] < ("a" : Str).cps.toList)) with
          | true =>
            refine iteT ?_
            refine ⟨_, _, rfl, rfl, fin _ ?_⟩
            unfold letB
            rw [e1]
            rfl
          | false =>
            refine iteF (fin _ ?_)
            unfold letB
            rw [e1]
            rfl
        · rw [List.take_of_length_le (Nat.le_refl _)] at h
          refine ⟨D, _, rfl, SqL.of h.2, ?_⟩
          have y := q _ h.1
          have e : nmB z = (z.cps.toList.map letB).all id := by
            unfold nmB
            rw [decide_eq_true (by omega : 1 ≤ z.length), decide_eq_true (by omega : z.length ≤ 6), List.all_map]
            rfl
          rw [e] at y
          exact y
      · rw [decide_eq_false l2]
        refine iteT (nQ ?_)
        unfold nmB
        rw [decide_eq_false (by omega : ¬ z.length ≤ 6)]
        simp
    · rw [decide_eq_false l1]
      refine ⟨_, rfl, iteT (nQ ?_)⟩
      unfold nmB
      rw [decide_eq_false (by omega : ¬ 1 ≤ z.length)]
      rfl
end
end Dw
namespace Dw
open PySem PySem.Spec PyProof.Rows L2
/-! ### interval lists -/
structure Ent where
  name : Str
  lo : Fr
  hi : Fr
/-- at v: the tuple (name, low, high) -/
def EntV (K : PySem.W.Frag) (H : Hp) (v : V) (e : Ent) : Prop := ∃ (a : Addr) (l h : V), v = .ref a ∧ SqT K H a [.str e.name, l, h] ∧ PrV K H l e.lo ∧ PrV K H h e.hi
/-- the values xs are the entries es, one by one -/
def Ents (K : PySem.W.Frag) (H : Hp) (xs : List V) (es : List Ent) : Prop := Paired (EntV K H) xs es
def FitF (p : Fr) : Prop := p.1.natAbs < 10 ^ 200 ∧ p.2.natAbs < 10 ^ 200
/-- of a size that is reckoned with -/
def FitE (e : Ent) : Prop := e.name.length ≤ 50 ∧ (∀ c ∈ e.name.cps.toList, c < 1114112) ∧ FitF e.lo ∧ FitF e.hi
theorem FitF.sml {p : Fr} (h : FitF p) : Sml p := by
  have e : (10 : Nat) ^ 200 < 2 ^ 1000 := by decide +kernel
  exact ⟨Nat.lt_trans h.1 e, Nat.lt_trans h.2 e⟩
theorem FitF.big {p : Fr} (h : FitF p) : p.1.natAbs < 10 ^ 500 ∧ p.2.natAbs < 10 ^ 500 := by
  have e : (10 : Nat) ^ 200 < 10 ^ 500 := by decide +kernel
  exact ⟨Nat.lt_trans h.1 e, Nat.lt_trans h.2 e⟩
theorem EntV.same {K : PySem.W.Frag} {H H' : Hp} {v : V} {e : Ent} (s : Same H H') (h : EntV K H v e) : EntV K H' v e := by
  obtain ⟨a, l, u, rfl, h1, h2, h3⟩ := h
  exact ⟨a, l, u, rfl, SqT.same s h1, h2.same s, h3.same s⟩
theorem Ents.same {K : PySem.W.Frag} {H H' : Hp} (s : Same H H') : ∀ {xs : List V} {es : List Ent}, Ents K H xs es → Ents K H' xs es
  | _, _, .nil => .nil
  | _, _, .cons h t => .cons (h.same s) (Ents.same s t)
theorem Ents.length {K : PySem.W.Frag} {H : Hp} {xs : List V} {es : List Ent} (h : Ents K H xs es) : xs.length = es.length := Paired.length h
theorem Ents.get {K : PySem.W.Frag} {H : Hp} : ∀ {xs : List V} {es : List Ent} {i : Nat} {x : V}, Ents K H xs es → xs[i]? = some x → ∃ e, es[i]? = some e ∧ EntV K H x e
  | _, _, _, _, .nil, h => by simp at h
  | _, e :: _, 0, _, .cons r _, h => by
    have h' := Option.some.inj h
    subst h'
    exact ⟨e, rfl, r⟩
  | _, _ :: es, i + 1, _, .cons _ t, h => Ents.get (i := i) t (by simpa using h)
def chk : Str → List Ent → Option Str
  | _, [] => none
  | prev, e :: r => if isFr e.lo = false then some "fraction" else if isFr e.hi = false then some "fraction" else if nmB e.name = false then some "intervals"
    else if (!decide (prev.cps.toList < e.name.cps.toList)) = true then some "intervals" else if lessF e.hi e.lo = true then some "intervals" else chk e.name r
def chkAll (es : List Ent) : Option Str := if 24 < es.length then some "intervals" else chk "" es
def clsC (CI CV : Addr) (code : Str) : Addr := if code = "fraction" then CI else CV
theorem len_le {a b : Str} {m n : Nat} (h1 : a.length ≤ m) (h2 : b.length ≤ n) : (a ++ b).length ≤ m + n := by
  rw [strLen_append]
  omega
theorem len_sz {a : Str} {m : Nat} (h : a.length ≤ m) (l : m ≤ 10000) : a.length ≤ sizeLine := by
  rw [sizeLine_eq]
  omega
theorem repr_sz {e : Ent} (h : FitE e) : (reprText e.name).length ≤ 502 := by
  have := StrLaws.reprText_len e.name (fun c hc => Nat.lt_trans (h.2.1 c hc) (by decide))
  have := h.1
  omega
section
variable {P : Program} {w : World} {K : PySem.W.Frag} {mg : Str → Option Value} {base : Heap}
/-- the making of an error with one text -/
theorem mk_code {C : Addr} {code : Str} {m : V} {H : Hp} {E : XK} (oe : OexC K C) (nf : PySem.W.findIn K (.ref C) "code" = some none) (r : Rz C code H E) :
    [m].length ≤ 1000 ∧ ∀ a, H a = none → spIF K code (.ref a :: ([m] ++ [])) (upd H a (exo a C none))
      (fun v H2 => v = .non ∧ ∃ (d : Addr) (fs : List (Str × V)), H2 a = some (exo a C (some d)) ∧ H2 d = some (exd d fs) ∧ H d = none ∧ E (.ref C) (some d) (upd (del H2 a) d (.xd fs))) (fun _ _ _ => False) :=
  ⟨Nat.le_of_ble_eq_true rfl, fun c nc => ⟨c, C, _, rfl, oe, nf, upd_same, fun dx h1 h2 => ⟨rfl, dx, [("code", .str code)], upd_same, by rw [upd_ne h2, upd_same], by rw [upd_ne h2] at h1; exact h1, made_err nc h1 h2 r⟩⟩⟩
def spChk (K : PySem.W.Frag) (CI CV : Addr) : Sp := fun vs H Q E => ∃ (a : Addr) (xs : List V) (es : List Ent), vs = [.ref a] ∧ SqL K H a xs ∧ Ents K H xs es ∧ (∀ e ∈ es, FitE e) ∧
  (chkAll es = none → ∀ H', Same H H' → Q .non H') ∧ ∀ code, chkAll es = some code → Rz (clsC CI CV code) code H E
theorem ok_chk {f fC CI fN fL fV CV : Addr} {fd fdC fdN fdL fdV : FuncData} {k : Nat} {t24 : Tok} (F : Fun K "check_intervals" "check_intervals" sChk f fd) (GC : FnOk P w K mg base (L2.CX P w) (k + 4) fC fdC ["value"] (spChkF K CI)) (gC : mg "check_fraction" = some (.ref fC)) (kC : PySem.W.keepIn K (.ref fC) = true) (bC : L2.Binds K fdC ["value"] [])
    (GN : FnOk P w K mg base CX0 (k + 1) fN fdN ["name"] spNm) (gN : mg "is_name" = some (.ref fN)) (kN : PySem.W.keepIn K (.ref fN) = true) (bN : L2.Binds K fdN ["name"] [])
    (GL : FnOk P w K mg base CX0 (k + 1) fL fdL ["first", "second"] (spLess K)) (gL : mg "less" = some (.ref fL)) (kL : PySem.W.keepIn K (.ref fL) = true) (bL : L2.Binds K fdL ["first", "second"] [])
    (GV : FnOk P w K mg base CX0 (k + 2) fV fdV ["self", "message"] (spIF K "intervals")) (gV : mg "InvalidIntervals" = some (.ref CV)) (oe : OexC K CV) (nf : PySem.W.findIn K (.ref CV) "code" = some none)
    (iC : PySem.W.findIn K (.ref CV) "__init__" = some (some (.ref fV))) (tI : PySem.W.typeIn K (.ref fV) = some (.type "function")) (bV : L2.Binds K fdV ["self", "message"] [])
    (mC : mg "CAPACITY" = some (.int 24 t24)) (mL : mg "len" = none) : FnOk P w K mg base (L2.CX P w) (k + 5) f fd ["intervals"] (spChk K CI CV) := by
  refine F.okX scChk (fun vs H Q E h => ?_) (fun cdv A outer s H vs Q E hr h => ?_)
  · obtain ⟨a, xs, es, rfl, _⟩ := h
    rfl
  · obtain ⟨a, xs, es, rfl, hS, hE, fit, kq, kr⟩ := h
    have hr3 : Room (k + 3) _ := hr.mono (by omega)
    have hr1 : Room (k + 1) _ := hr.mono (by omega)
    refine ⟨_, pss_cons (ps_if (pt_cmpR op_gt (pe_callB call_len_seq (by rfl) mL PySem.boot_len (pa_cons (pv 0) pa_nil)) (pe_glob (v := .int 24) (by rfl) mC ⟨_, rfl⟩) (nomark _))
        (pss_one (ps_raise rfl (takes_of rfl rfl rfl rfl) (pmk_oex oe iC tI GV hr3 bV .nil pass0 (by rfl) gV (pa_cons (pe_joined (.cons pe_str (.cons (pe_fmt (pe_glob (v := .int 24) (by rfl) mC ⟨_, rfl⟩)) (.cons pe_str .nil)))) pa_nil)))) pss_nil)
      (pss_cons (ps_set (i := 1) scChk.nd rfl (.inl rfl) pe_str)
      (pss_one (ps_for (passes_of rfl) rfl (pi_list (pv 0)) (pg_tup rfl (pgs_cons (pg_name (i := 2) scChk.nd rfl (Or.inl rfl)) (pgs_cons (pg_name (i := 3) scChk.nd rfl (Or.inl rfl)) (pgs_cons (pg_name (i := 4) scChk.nd rfl (Or.inl rfl)) pgs_nil))))
        (pss_cons (ps_expr (pe_call GC hr (by rfl) gC kC bC .nil (passes_call (takes_of rfl rfl rfl rfl) (fun _ _ _ _ h => h)) (pa_cons (pv 3) pa_nil)))
        (pss_cons (ps_expr (pe_call GC hr (by rfl) gC kC bC .nil (passes_call (takes_of rfl rfl rfl rfl) (fun _ _ _ _ h => h)) (pa_cons (pv 4) pa_nil)))
        (pss_cons (ps_if (pt_not (pt_val (pe_call GN hr1 (by rfl) gN kN bN .nil pass0 (pa_cons (pv 2) pa_nil))))
          (pss_one (ps_raise rfl (takes_of rfl rfl rfl rfl) (pmk_oex oe iC tI GV hr3 bV .nil pass0 (by rfl) gV (pa_cons (pe_joined (.cons (pe_fmtR (pv 2)) (.cons pe_str .nil))) pa_nil)))) pss_nil)
        (pss_cons (ps_if (pt_cmpR op_le_str (pv 2) (pv 1) (nomark _))
          (pss_one (ps_raise rfl (takes_of rfl rfl rfl rfl) (pmk_oex oe iC tI GV hr3 bV .nil pass0 (by rfl) gV (pa_cons (pe_joined (.cons pe_str (.cons (pe_fmtR (pv 2)) (.cons pe_str .nil)))) pa_nil)))) pss_nil)
        (pss_cons (ps_if (pt_val (pe_call GL hr1 (by rfl) gL kL bL .nil pass0 (pa_cons (pv 4) (pa_cons (pv 3) pa_nil))))
          (pss_one (ps_raise rfl (takes_of rfl rfl rfl rfl) (pmk_oex oe iC tI GV hr3 bV .nil pass0 (by rfl) gV (pa_cons (pe_joined (.cons pe_str (.cons (pe_fmtR (pv 2)) (.cons pe_str .nil)))) pa_nil)))) pss_nil)
        (pss_one (ps_set (i := 1) scChk.nd rfl (.inl rfl) (pv 2))))))))))), ?_⟩
    have ln := hE.length
    have rI : ∀ H' : Hp, Same H H' → chkAll es = some "intervals" → Rz CV "intervals" H' E := fun H' s' e => by
      have z := (kr _ e).of s'
      rw [show clsC CI CV "intervals" = CV from if_neg (by decide +kernel)] at z
      exact z
    have rF : ∀ H' : Hp, Same H H' → chkAll es = some "fraction" → Rz CI "fraction" H' E := fun H' s' e => by
      have z := (kr _ e).of s'
      rw [show clsC CI CV "fraction" = CI from if_pos rfl] at z
      exact z
    refine ⟨_, rfl, a, xs, rfl, .inl hS, _, _, rfl, rfl, _, rfl, ite2 (fun e => ?_) (fun e => ?_)⟩
    · have l24 : (24 : Int) < (xs.length : Int) := of_decide_eq_true e
      have ce : chkAll es = some "intervals" := if_pos (by omega)
      refine ⟨_, rfl, ?_, .inr ⟨24, rfl, by decide +kernel, _, rfl, ?_, _, rfl, ?_, mk_code oe nf (rI H (Same.refl H) ce)⟩⟩ <;> decide +kernel
    · have l24 : ¬ 24 < es.length := fun z => e (decide_eq_true (by omega))
      have ce : chkAll es = chk "" es := if_neg l24
      refine ⟨_, rfl, a, rfl, ⟨_, hS⟩, for_list (K := K) (a := a) (xs := xs) (fun i σ' H' => ∃ (prev : Str) (y2 y3 y4 : Option V), σ' = [some (.ref a), some (.str prev), y2, y3, y4] ∧ Same H H' ∧ chk "" es = chk prev (es.drop i))
        ⟨"", none, none, none, rfl, Same.refl H, rfl⟩ (fun i σ' H' _ ⟨_, _, _, _, _, s', _⟩ => s'.seq hS) ?_ ?_⟩
      · rintro i x σ' H' hx ⟨prev, y2, y3, y4, rfl, s', ec⟩
        obtain ⟨en, hen, ⟨b, l, u, rfl, hb, hl, hu⟩⟩ := hE.get hx
        have fe := fit en (List.mem_of_getElem? hen)
        obtain ⟨f1, f2, f3, f4⟩ := fe
        have fe := fit en (List.mem_of_getElem? hen)
        have rz := repr_sz fe
        have ed : es.drop i = en :: es.drop (i + 1) := by
          have hi : i < es.length := (List.getElem?_eq_some_iff.mp hen).1
          rw [List.drop_eq_getElem_cons hi]
          have := List.getElem?_eq_some_iff.mp hen
          rw [this.2]
        rw [ed] at ec
        rw [ce] at rI rF
        rw [ec] at rI rF
        unfold chk at ec rI rF
        refine ⟨b, _, rfl, SqT.same s' hb, rfl, _, _, rfl, _, _, rfl, _, _, rfl, rfl, ?_⟩
        -- check_fraction(low)
        refine ⟨_, rfl, l, en.lo, rfl, hl.same s', f3.big.1, f3.big.2, fun o1 => ?_, fun o1 => rF H' s' (if_pos o1)⟩
        rw [if_neg (by rw [o1]; decide)] at ec rI rF
        refine ⟨_, rfl, u, en.hi, rfl, hu.same s', f4.big.1, f4.big.2, fun o2 => ?_, fun o2 => rF H' s' (if_pos o2)⟩
        rw [if_neg (by rw [o2]; decide)] at ec rI rF
        -- is_name(name)
        refine ⟨_, rfl, en.name, rfl, by omega, fun H2 s2 => ⟨_, rfl, ?_⟩⟩
        have sH2 := s'.trans s2
        cases o3 : nmB en.name with
        | false =>
          refine iteT ?_
          refine ⟨_, rfl, .inl ⟨en.name, rfl, len_sz rz (by decide), _, rfl, len_sz (len_le (Nat.zero_le _ : Str.empty.length ≤ 0) rz) (by decide), _, rfl, len_sz (len_le (len_le (Nat.zero_le _ : Str.empty.length ≤ 0) rz) (Nat.le_of_ble_eq_true (by decide +kernel) : (_ : Str).length ≤ 100)) (by decide), mk_code oe nf (rI H2 sH2 (if_pos o3))⟩⟩
        | true =>
          rw [if_neg (by rw [o3]; decide)] at ec rI rF
          refine iteF ?_
          -- name <= previous
          refine ⟨_, rfl, _, rfl, en.name, prev, rfl, rfl, _, rfl, ?_⟩
          cases o4 : (!decide (prev.cps.toList < en.name.cps.toList)) with
          | true =>
            refine iteT ?_
            refine ⟨_, rfl, len_sz (Nat.le_of_ble_eq_true (by decide +kernel) : (_ : Str).length ≤ 100) (by decide), _, rfl, .inl ⟨en.name, rfl, len_sz rz (by decide), _, rfl, len_sz (len_le (Nat.le_of_ble_eq_true (by decide +kernel) : (_ : Str).length ≤ 100) rz) (by decide), _, rfl, len_sz (len_le (len_le (Nat.le_of_ble_eq_true (by decide +kernel) : (_ : Str).length ≤ 100) rz) (Nat.le_of_ble_eq_true (by decide +kernel) : (_ : Str).length ≤ 100)) (by decide), mk_code oe nf (rI H2 sH2 (if_pos o4))⟩⟩
          | false =>
            rw [if_neg (by rw [o4]; decide)] at ec rI rF
            refine iteF ?_
            -- less(high, low)
            refine ⟨_, rfl, _, rfl, u, l, en.hi, en.lo, rfl, hu.same sH2, hl.same sH2, f4.sml, f3.sml, _, rfl, ?_⟩
            cases o5 : lessF en.hi en.lo with
            | true =>
              refine iteT ?_
              refine ⟨_, rfl, len_sz (Nat.le_of_ble_eq_true (by decide +kernel) : (_ : Str).length ≤ 100) (by decide), _, rfl, .inl ⟨en.name, rfl, len_sz rz (by decide), _, rfl, len_sz (len_le (Nat.le_of_ble_eq_true (by decide +kernel) : (_ : Str).length ≤ 100) rz) (by decide), _, rfl, len_sz (len_le (len_le (Nat.le_of_ble_eq_true (by decide +kernel) : (_ : Str).length ≤ 100) rz) (Nat.le_of_ble_eq_true (by decide +kernel) : (_ : Str).length ≤ 100)) (by decide), mk_code oe nf (rI H2 sH2 (if_pos o5))⟩⟩
            | false =>
              rw [if_neg (by rw [o5]; decide)] at ec
              refine iteF ?_
              exact ⟨_, rfl, en.name, _, _, _, rfl, sH2, (chk.eq_def _ _).trans ec⟩
      · rintro σ' H' ⟨prev, y2, y3, y4, rfl, s', ec⟩
        refine kq ?_ H' s'
        rw [ce, ec, ln, List.drop_length]
        rfl
end
end Dw
namespace Dw
open PySem PySem.Spec PyProof.Rows L2
abbrev sRev : Stmt := topS 25
abbrev nRev : List Str := ["intervals", "values", "names"]
theorem scRev : FnScope nRev ["intervals", "values", "names"] (defScope sRev) := ⟨rfl, rfl, rfl, by decide +kernel, rfl, by decide +kernel, by decide +kernel⟩
abbrev sPro : Stmt := topS 24
abbrev nPro : List Str := ["intervals", "values", "names", "existing", "rows", "name"]
theorem scPro : FnScope nPro ["intervals", "values", "names"] (defScope sPro) := ⟨rfl, rfl, rfl, by decide +kernel, rfl, by decide +kernel, by decide +kernel⟩
abbrev sNams : Stmt := topS 20
abbrev nNams : List Str := ["intervals", "name", "low", "high"]
theorem scNams : FnScope nNams ["intervals"] (defScope sNams) := ⟨rfl, rfl, rfl, by decide +kernel, rfl, by decide +kernel, by decide +kernel⟩
/-! ### what a list that passes the checks is -/
theorem chk_above : ∀ {es : List Ent} {prev : Str}, chk prev es = none → ∀ e ∈ es, prev.cps.toList < e.name.cps.toList
  | [], _, _, e, h => absurd h List.not_mem_nil
  | x :: r, prev, h, e, he => by
    unfold chk at h
    split at h
    · cases h
    split at h
    · cases h
    split at h
    · cases h
    split at h
    · cases h
    rename_i h4
    split at h
    · cases h
    have lt : prev.cps.toList < x.name.cps.toList := by
      by_cases z : prev.cps.toList < x.name.cps.toList
      · exact z
      · exact absurd (by rw [decide_eq_false z]; rfl) h4
    rcases List.mem_cons.mp he with rfl | he
    · exact lt
    · exact List.lt_trans lt (chk_above h e he)
theorem chk_tail {x : Ent} {r : List Ent} {prev : Str} (h : chk prev (x :: r) = none) : chk x.name r = none := by
  unfold chk at h
  split at h
  · cases h
  split at h
  · cases h
  split at h
  · cases h
  split at h
  · cases h
  split at h
  · cases h
  exact h
theorem chk_drop : ∀ {es : List Ent} {prev : Str} {i : Nat} {e : Ent}, chk prev es = none → es[i]? = some e → ∀ x ∈ es.take i, x.name ≠ e.name
  | [], _, _, _, _, he, _, _ => by simp at he
  | y :: r, prev, 0, e, h, he, x, hx => by simp at hx
  | y :: r, prev, i + 1, e, h, he, x, hx => by
    have t := chk_tail h
    have he' : r[i]? = some e := by simpa using he
    rcases List.mem_cons.mp (show x ∈ y :: r.take i from hx) with rfl | hx
    · intro z
      have lt := chk_above t e (List.mem_of_getElem? he')
      rw [z] at lt
      exact List.lt_irrefl _ lt
    · exact chk_drop t he' x hx
/-- tuples stay -/
def TupK (H H' : Hp) : Prop := ∀ b xs, H b = some (.tup xs) → H' b = some (.tup xs)
theorem TupK.trans {H H1 H2 : Hp} (x : TupK H H1) (y : TupK H1 H2) : TupK H H2 := fun b xs h => y b xs (x b xs h)
theorem TupK.same {H H' : Hp} (s : Same H H') : TupK H H' := fun b xs h => s b _ h
theorem TupK.put {H : Hp} {D : Addr} {o u : HO} (h : H D = some u) (n : ∀ xs, u ≠ .tup xs) : TupK H (upd H D o) := fun b xs e => by
  have nb : b ≠ D := fun z => by
    rw [z, h] at e
    exact n xs (Option.some.inj e)
  rw [upd_ne nb]
  exact e
/-- the dict's pairs are the entries; the bounds stand in B -/
def KvE (K : PySem.W.Frag) (B H : Hp) (kv : Key × V) (e : Ent) : Prop := kv.1 = Sum.inr e.name ∧ ∃ (t : Addr) (l h : V), kv.2 = .ref t ∧ H t = some (.tup [l, h]) ∧ PrV K B l e.lo ∧ PrV K B h e.hi
theorem kves_keep {K : PySem.W.Frag} {B H H' : Hp} (s : TupK H H') : ∀ {kvs : List (Key × V)} {es : List Ent}, Paired (KvE K B H) kvs es → Paired (KvE K B H') kvs es
  | _, _, .nil => .nil
  | _, _, .cons ⟨h1, t, l, u, h2, h3, h4, h5⟩ r => .cons ⟨h1, t, l, u, h2, s _ _ h3, h4, h5⟩ (kves_keep s r)
/-- new triples; the bounds stand in B -/
def EntB (K : PySem.W.Frag) (B H : Hp) (v : V) (e : Ent) : Prop := ∃ (b : Addr) (l h : V), v = .ref b ∧ H b = some (.tup [.str e.name, l, h]) ∧ PrV K B l e.lo ∧ PrV K B h e.hi
theorem entb_keep {K : PySem.W.Frag} {B H H' : Hp} (s : TupK H H') : ∀ {xs : List V} {es : List Ent}, Paired (EntB K B H) xs es → Paired (EntB K B H') xs es
  | _, _, .nil => .nil
  | _, _, .cons ⟨t, l, u, h2, h3, h4, h5⟩ r => .cons ⟨t, l, u, h2, s _ _ h3, h4, h5⟩ (entb_keep s r)
theorem entb_ents {K : PySem.W.Frag} {B H : Hp} (s : Same B H) : ∀ {xs : List V} {es : List Ent}, Paired (EntB K B H) xs es → Ents K H xs es
  | _, _, .nil => .nil
  | _, _, .cons ⟨t, l, u, h2, h3, h4, h5⟩ r => .cons ⟨t, l, u, h2, SqT.of h3, h4.same s, h5.same s⟩ (entb_ents s r)
theorem kves_get {K : PySem.W.Frag} {B H : Hp} : ∀ {kvs : List (Key × V)} {es : List Ent} {i : Nat} {kv : Key × V}, Paired (KvE K B H) kvs es → kvs[i]? = some kv → ∃ e, es[i]? = some e ∧ KvE K B H kv e
  | _, _, _, _, .nil, h => by simp at h
  | _, e :: _, 0, _, .cons r _, h => by
    have h' := Option.some.inj h
    subst h'
    exact ⟨e, rfl, r⟩
  | _, _ :: es, i + 1, _, .cons _ t, h => kves_get (i := i) t (by simpa using h)
theorem kves_keys {K : PySem.W.Frag} {B H : Hp} : ∀ {kvs : List (Key × V)} {es : List Ent}, Paired (KvE K B H) kvs es → ∀ kv ∈ kvs, ∃ e ∈ es, kv.1 = Sum.inr e.name
  | _, _, .nil, _, h => absurd h List.not_mem_nil
  | _, e :: es, .cons r t, kv, h => by
    rcases List.mem_cons.mp h with rfl | h
    · exact ⟨e, List.mem_cons_self, r.1⟩
    · obtain ⟨x, hx, z⟩ := kves_keys t kv h
      exact ⟨x, List.mem_cons_of_mem _ hx, z⟩
theorem put_new {kvs : List (Key × V)} {k : Key} {v : V} (h : ∀ kv ∈ kvs, kv.1 ≠ k) : putK kvs k v = kvs ++ [(k, v)] := by
  unfold putK
  rw [if_neg]
  intro z
  obtain ⟨kv, hm, e⟩ := List.any_eq_true.mp z
  exact h kv hm (of_decide_eq_true e)
theorem pair_snoc {α β : Type} {F : α → β → Prop} {a : α} {b : β} : ∀ {l : List α} {m : List β}, Paired F l m → F a b → Paired F (l ++ [a]) (m ++ [b])
  | _, _, .nil, h => .cons h .nil
  | _, _, .cons r t, h => .cons r (pair_snoc t h)
theorem take_snoc {α : Type} {l : List α} {i : Nat} {x : α} (h : l[i]? = some x) : l.take (i + 1) = l.take i ++ [x] := by
  rw [List.take_add_one, h]
  rfl
section
variable {P : Program} {w : World} {K : PySem.W.Frag} {mg : Str → Option Value} {base : Heap}
/-- item_names(intervals): a new list -/
def spNams (K : PySem.W.Frag) : Sp := fun vs H Q _ => ∃ (a : Addr) (xs : List V) (es : List Ent), vs = [.ref a] ∧ SqL K H a xs ∧ Ents K H xs es ∧ es.length ≤ 900 ∧ ∀ H' p ys, Same H H' → H p = none → H' p = some (.lst ys) → Q (.ref p) H'
theorem ok_nams {f : Addr} {fd : FuncData} {k : Nat} (F : Fun K "item_names" "item_names" sNams f fd) : FnOk P w K mg base CX0 (k + 1) f fd ["intervals"] (spNams K) := by
  refine F.ok scNams (fun vs H Q E h => ?_) (fun cdv A outer s H vs Q E hr h => ?_)
  · obtain ⟨a, xs, es, rfl, _⟩ := h
    rfl
  · obtain ⟨a, xs, es, rfl, hS, hE, le, q⟩ := h
    refine ⟨_, pss_one (ps_ret (pe_lc (own := [("name", 1), ("low", 2), ("high", 3)]) (g := gTup K 3 (gCons (gName 1) (gCons (gName 2) (gCons (gName 3) gNil)))) (tt := tYes) (te := tVar 1) rfl scNams.nd (pi_list (pv 0)) (blkOk_by (N := nNams) (sc := defScope sNams) (by decide +kernel))
        (fun _ _ _ _ _ => pg_tup rfl (pgs_cons (pg_name (i := 1) scNams.nd rfl (Or.inl rfl)) (pgs_cons (pg_name (i := 2) scNams.nd rfl (Or.inl rfl)) (pgs_cons (pg_name (i := 3) scNams.nd rfl (Or.inl rfl)) pgs_nil)))) (fun _ _ _ _ _ => pts_nil)
        (fun _ _ _ _ _ => pv 1))), ?_⟩
    have ln := hE.length
    refine ⟨_, rfl, a, rfl, ⟨_, hS⟩, fun D nD => lc_list (K := K) (a := a) (xs := xs) (fun i H' => i ≤ xs.length ∧ Same H H' ∧ ∃ zs, H' D = some (.lst zs) ∧ zs.length = i) ⟨Nat.zero_le _, same_new nD, [], upd_same, rfl⟩ (fun i H' _ h => h.2.1.seq hS) (fun i x H' hx h => ?_) (fun H2 h => ?_)⟩
    · obtain ⟨li, sm, zs, eD, lz⟩ := h
      obtain ⟨en, hen, b, l, u, rfl, hb, hl, hu⟩ := hE.get hx
      have lt : i < xs.length := (List.getElem?_eq_some_iff.mp hx).1
      exact ⟨b, _, rfl, SqT.same sm hb, rfl, _, _, rfl, _, _, rfl, _, _, rfl, rfl, rfl, _, rfl, zs, eD, small1000 (by omega), by omega, same_upd sm nD, _, upd_same, by rw [List.length_append, lz]; rfl⟩
    · obtain ⟨_, sm, zs, eD, _⟩ := h
      exact q H2 D zs sm nD eD
/-- probe_each(intervals, values, []): nothing is probed -/
def spPro0 (K : PySem.W.Frag) : Sp := fun vs H Q _ => ∃ (a n : Addr) (d : V) (xs : List V) (es : List Ent), vs = [.ref a, d, .ref n] ∧ SqL K H a xs ∧ Ents K H xs es ∧ es.length ≤ 24 ∧ SqL K H n [] ∧
  ∀ H' p ys, Same H H' → H p = none → H' p = some (.lst ys) → Ents K H' ys es → Q (.ref p) H'
theorem ok_pro0 {f fN : Addr} {fd fdN : FuncData} {k : Nat} (F : Fun K "probe_each" "probe_each" sPro f fd)
    (GN : FnOk P w K mg base CX0 1 fN fdN ["intervals"] (spNams K)) (gN : mg "item_names" = some (.ref fN)) (kN : PySem.W.keepIn K (.ref fN) = true) (bN : L2.Binds K fdN ["intervals"] [])
    (mLi : mg "list" = none) (mSo : mg "sorted" = none) (mSe : mg "set" = none) : FnOk P w K mg base (L2.CX P w) (k + 5) f fd ["intervals", "values", "names"] (spPro0 K) := by
  refine F.okX scPro (fun vs H Q E h => ?_) (fun cdv A outer s H vs Q E hr h => ?_)
  · obtain ⟨a, n, d, xs, es, rfl, _⟩ := h
    rfl
  · obtain ⟨a, n, d, xs, es, rfl, hS, hE, l24, hn, kq⟩ := h
    refine ⟨_, pss_cons (ps_set (i := 3) scPro.nd rfl (.inl rfl) (pe_call GN (hr.mono (by omega)) (by rfl) gN kN bN .nil pass0 (pa_cons (pv 0) pa_nil)))
      (pss_cons (ps_set (i := 4) scPro.nd rfl (.inl rfl) (pe_callTy call_list_of (by rfl) mLi (by decide +kernel) (pa_cons (pv 0) pa_nil)))
      (pss_cons (ps_for (passes_of rfl) rfl (pi_list (pe_callB (cr_sortedT rfl) (by rfl) mSo (by decide +kernel) (pa_cons (pe_callTy (cr_setOfT rfl hr.units) (by rfl) mSe (by decide +kernel) (pa_cons (pv 2) pa_nil)) pa_nil))) (pg_name (i := 5) scPro.nd rfl (Or.inl rfl)) pss_never)
      (pss_one (ps_ret (pv 4))))), ?_⟩
    have ln := hE.length
    refine ⟨_, rfl, a, xs, es, rfl, hS, hE, by omega, fun H2 p ys sp np ep => ?_⟩
    have s2 := sp
    refine ⟨_, rfl, a, xs, rfl, .inl (s2.seq hS), fun L nL => ?_⟩
    have s3 : Same H2 (upd H2 L (.lst xs)) := same_new nL
    have sA := s2.trans s3
    have nL0 : H L = none := s2.free nL
    generalize hH3 : upd H2 L (.lst xs) = H3 at s3 sA
    have eL : H3 L = some (.lst xs) := by rw [← hH3]; exact upd_same
    refine ⟨_, rfl, n, [], rfl, sA.seq hn, (fun p hp => absurd hp List.not_mem_nil), by decide, fun q L' nq hL _ => ?_⟩
    obtain rfl : L' = [] := by
      cases L' with
      | nil => rfl
      | cons p r => exact absurd (hL p List.mem_cons_self) List.not_mem_nil
    refine ⟨q, [], 1, 0, rfl, upd_same, (fun p hp => absurd hp List.not_mem_nil), by decide, (fun p hp => absurd hp List.not_mem_nil), fun L'' r hp _ _ _ nr => ?_⟩
    obtain rfl := List.Perm.eq_nil hp
    have s4 : Same H3 (upd (upd H3 q (SetTO P w q [])) r (.lst [])) := (same_new nq).trans (same_new nr)
    refine ⟨r, rfl, ⟨[], SqL.of upd_same⟩, fun i m σ' H' => σ' = ((L2.start nPro [.ref a, d, .ref n]).set 3 (some (.ref p))).set 4 (some (.ref L)) ∧ H' = upd (upd H3 q (SetTO P w q [])) r (.lst []), ⟨0, rfl, rfl⟩, ?_⟩
    rintro i m σ' H' ⟨rfl, rfl⟩
    refine .inl ⟨⟨[], SqL.of upd_same, Nat.zero_le _⟩, ?_⟩
    exact ⟨_, rfl, kq _ L xs (sA.trans s4) nL0 (s4 _ _ eL) (Ents.same (sA.trans s4) hE)⟩
/-- reveal(intervals, values, []): nothing is probed -/
def spRev0 (K : PySem.W.Frag) (CI CV : Addr) : Sp := fun vs H Q E => ∃ (a n : Addr) (d : V) (xs : List V) (es : List Ent), vs = [.ref a, d, .ref n] ∧ SqL K H a xs ∧ Ents K H xs es ∧ (∀ e ∈ es, FitE e) ∧ SqL K H n [] ∧
  (chkAll es = none → ∀ H' p ys, Same H H' → H p = none → H' p = some (.lst ys) → Ents K H' ys es → Q (.ref p) H') ∧ ∀ code, chkAll es = some code → Rz (clsC CI CV code) code H E
theorem ok_rev0 {f fK fV CI CV : Addr} {fd fdK fdV : FuncData} {k : Nat} (F : Fun K "reveal" "reveal" sRev f fd) (GK : FnOk P w K mg base (L2.CX P w) (k + 5) fK fdK ["intervals"] (spChk K CI CV)) (gK : mg "check_intervals" = some (.ref fK)) (kK : PySem.W.keepIn K (.ref fK) = true) (bK : L2.Binds K fdK ["intervals"] [])
    (GV : FnOk P w K mg base (L2.CX P w) (k + 5) fV fdV ["intervals", "values", "names"] (spPro0 K)) (gV : mg "probe_each" = some (.ref fV)) (kV : PySem.W.keepIn K (.ref fV) = true) (bV : L2.Binds K fdV ["intervals", "values", "names"] []) : FnOk P w K mg base (L2.CX P w) (k + 6) f fd ["intervals", "values", "names"] (spRev0 K CI CV) := by
  refine F.okX scRev (fun vs H Q E h => ?_) (fun cdv A outer s H vs Q E hr h => ?_)
  · obtain ⟨a, n, d, xs, es, rfl, _⟩ := h
    rfl
  · obtain ⟨a, n, d, xs, es, rfl, hS, hE, fit, hn, kq, kr⟩ := h
    refine ⟨_, pss_cons (ps_expr (pe_call GK hr (by rfl) gK kK bK .nil (passes_call (takes_of rfl rfl rfl rfl) (fun _ _ _ _ h => h)) (pa_cons (pv 0) pa_nil)))
      (pss_one (ps_ret (pe_call GV hr (by rfl) gV kV bV .nil (passes_call (takes_of rfl rfl rfl rfl) (fun _ _ _ _ h => h)) (pa_cons (pv 0) (pa_cons (pv 1) (pa_cons (pv 2) pa_nil)))))), ?_⟩
    refine ⟨_, rfl, a, xs, es, rfl, hS, hE, fit, fun ok H1 s1 => ?_, kr⟩
    have l24 : es.length ≤ 24 := by
      by_cases z : 24 < es.length
      · unfold chkAll at ok
        rw [if_pos z] at ok
        cases ok
      · omega
    refine ⟨_, rfl, _, rfl, _, rfl, a, n, d, xs, es, rfl, s1.seq hS, Ents.same s1 hE, l24, s1.seq hn, fun H2 p ys s2 np ep e2 => ?_⟩
    exact kq ok H2 p ys (s1.trans s2) (s1.free np) ep e2
end
end Dw
namespace Dw
open PySem PySem.Spec PyProof.Rows L2
abbrev sShu : Stmt := topS 30
abbrev sRed : Stmt := topS 34
abbrev sLLe : Stmt := topS 35
abbrev sBnd : Stmt := topS 36
theorem scShu : FnScope ["_law_source_here", "_law_chosen", "_law_found", "_law_one"] ["_law_source_here", "_law_chosen"] (defScope sShu) := ⟨rfl, rfl, rfl, by decide +kernel, rfl, by decide +kernel, by decide +kernel⟩
theorem scRed : FnScope ["_law_numerator", "_law_denominator", "_law_divisor"] ["_law_numerator", "_law_denominator"] (defScope sRed) := ⟨rfl, rfl, rfl, by decide +kernel, rfl, by decide +kernel, by decide +kernel⟩
theorem scLLe : FnScope ["_law_one", "_law_two"] ["_law_one", "_law_two"] (defScope sLLe) := ⟨rfl, rfl, rfl, by decide +kernel, rfl, by decide +kernel, by decide +kernel⟩
theorem scBnd : FnScope ["_law_source_here", "_law_spread"] ["_law_source_here", "_law_spread"] (defScope sBnd) := ⟨rfl, rfl, rfl, by decide +kernel, rfl, by decide +kernel, by decide +kernel⟩
theorem rn_le {n d : Int} (h : d ≠ 0) : (rn n d).natAbs ≤ n.natAbs := by
  have e := congrArg Int.natAbs (rn_eq (n := n) h)
  rw [Int.natAbs_mul] at e
  have g : 0 < (gd n d).natAbs := Int.natAbs_pos.mpr (gd_ne h)
  rw [← e]
  exact Nat.le_mul_of_pos_left _ g
theorem rd_le {n d : Int} (h : d ≠ 0) : (rd n d).natAbs ≤ d.natAbs := by
  have e := congrArg Int.natAbs (rd_eq (n := n) h)
  rw [Int.natAbs_mul] at e
  have g : 0 < (gd n d).natAbs := Int.natAbs_pos.mpr (gd_ne h)
  have z := Nat.le_mul_of_pos_left (rd n d).natAbs g
  omega
theorem cnt_big {c : Int} (h0 : 0 < c) (h1 : c ≤ 1000000000) : c.natAbs < 2 ^ 8000 := Nat.lt_of_lt_of_le (show c.natAbs < 2 ^ 31 by omega) (Nat.pow_le_pow_right (by decide) (by decide))
section
variable {P : Program} {w : World} {K : PySem.W.Frag} {mg : Str → Option Value} {base : Heap}
/-! ### _law_reduced, _law_less -/
def spRed : Sp := fun vs H Q _ => ∃ n d : Int, vs = [.int n, .int d] ∧ d ≠ 0 ∧ d.natAbs < 2 ^ 8000 ∧ ∀ p, H p = none → Q (.ref p) (upd H p (.tup [.int (rn n d), .int (rd n d)]))
theorem ok_red {f fG : Addr} {fd fdG : FuncData} {k : Nat} (F : Fun K "_law_reduced" "_law_reduced" sRed f fd) (GG : FnOk P w K mg base CX0 (k + 1) fG fdG ["_law_one", "_law_two"] spGcd) (gG : mg "_law_gcd" = some (.ref fG)) (kG : PySem.W.keepIn K (.ref fG) = true)
    (bG : L2.Binds K fdG ["_law_one", "_law_two"] []) : FnOk P w K mg base CX0 (k + 2) f fd ["_law_numerator", "_law_denominator"] spRed := by
  refine F.ok scRed (fun vs H Q E h => ?_) (fun cdv A outer s H vs Q E hr h => ?_)
  · obtain ⟨n, d, rfl, _⟩ := h
    rfl
  · obtain ⟨n, d, rfl, e0, hd, kQ⟩ := h
    refine ⟨_, pss_cons (ps_set (i := 2) scRed.nd rfl (.inl rfl) (pe_call GG hr (by rfl) gG kG bG .nil pass0 (pa_cons (pv 0) (pa_cons (pv 1) pa_nil))))
      (C8.pss_cut (ps_if (pt_cmpR op_lt (pv 1) pe_int (nomark _)) (pss_one (ps_set (i := 2) scRed.nd rfl (.inl rfl) (pe_op op_sub pe_int (pv 2)))) pss_nil)
      (pss_one (ps_ret (pe_tup (pa_cons (pe_op op_fdivZ (pv 0) (pv 2)) (pa_cons (pe_op op_fdivZ (pv 1) (pv 2)) pa_nil)))))), ?_⟩
    refine ⟨_, rfl, _, rfl, n, d, rfl, ?_⟩
    refine ⟨fun σ' H' => σ' = [some (.int n), some (.int d), some (.int (gd n d))] ∧ H' = H, ?_, ?_⟩
    · refine ⟨_, rfl, _, _, rfl, rfl, _, rfl, ite2 (fun l => ?_) (fun l => ?_)⟩
      · have l0 : d < 0 := of_decide_eq_true l
        refine ⟨_, rfl, _, _, rfl, rfl, ?_, rfl⟩
        unfold gd
        rw [if_pos l0, ← Int.zero_sub]
        rfl
      · have l0 : ¬ d < 0 := fun z => l (decide_eq_true z)
        refine ⟨?_, rfl⟩
        unfold gd
        rw [if_neg l0]
        rfl
    · rintro σ' H' ⟨rfl, rfl⟩
      have hz : CDivZ n (gd n d) := divZ_of (n := 8000) (gd_ne e0) (by rw [gd_abs]; exact Nat.lt_of_le_of_lt (gcd_le_abs e0) hd) (by decide) (by decide)
      exact ⟨_, rfl, _, rfl, n, gd n d, rfl, rfl, hz, _, rfl, _, rfl, d, gd n d, rfl, rfl, hz, Nat.le_of_ble_eq_true rfl, fun p np => kQ p np⟩
theorem ok_lle {f : Addr} {fd : FuncData} {k : Nat} (F : Fun K "_law_less" "_law_less" sLLe f fd) : FnOk P w K mg base CX0 (k + 1) f fd ["_law_one", "_law_two"] (spLess K) := by
  refine F.ok scLLe (fun vs H Q E h => ?_) (fun cdv A outer s H vs Q E hr h => ?_)
  · obtain ⟨x, y, p, q, rfl, _⟩ := h
    rfl
  · obtain ⟨x, y, p, q, rfl, ⟨a, rfl, ha⟩, ⟨b, rfl, hb⟩, s1, s2, z⟩ := h
    refine ⟨_, pss_one (ps_ret (pe_cmpR op_lt (pe_op op_mulW (pe_ix ix_tup (pv 0) pe_int (fun _ _ => rfl)) (pe_ix ix_tup (pv 1) pe_int (fun _ _ => rfl))) (pe_op op_mulW (pe_ix ix_tup (pv 1) pe_int (fun _ _ => rfl)) (pe_ix ix_tup (pv 0) pe_int (fun _ _ => rfl))) (nomark _))), ?_⟩
    exact ⟨_, rfl, a, _, _, _, rfl, rfl, ha, rfl, _, rfl, b, _, _, _, rfl, rfl, hb, rfl, _, _, rfl, rfl, wide_mul s1.1 s2.2 (by decide) (by decide) (by decide), _, rfl, b, _, _, _, rfl, rfl, hb, rfl, _, rfl, a, _, _, _, rfl, rfl, ha, rfl, _, _, rfl, rfl, wide_mul s2.1 s1.2 (by decide) (by decide) (by decide), _, _, rfl, rfl, z⟩
/-! ### _law_bound -/
/-- a bound as the law draws it -/
def Bd (p : Fr) : Prop := isFr p = true ∧ p.1.natAbs ≤ 10000000 ∧ p.2.natAbs ≤ 10000000
def spBnd : Sp := fun vs H Q _ => ∃ (a l : Addr) (sp : Int), vs = [.ref a, .int sp] ∧ Src H a l ∧ 1 ≤ sp ∧ sp ≤ 1000 ∧ ∀ H' t (p : Fr), Keep a H H' → Src H' a l → H t = none → t ≠ a → H' t = some (.tup [.int p.1, .int p.2]) → Bd p → Q (.ref t) H'
theorem ok_bnd {f fD fR : Addr} {fd fdD fdR : FuncData} {k : Nat} (F : Fun K "_law_bound" "_law_bound" sBnd f fd) (GD : FnOk P w K mg base CX0 (k + 1) fD fdD ["_law_source_here", "_law_count"] spDraw) (gD : mg "_law_draw" = some (.ref fD)) (kD : PySem.W.keepIn K (.ref fD) = true)
    (bD : L2.Binds K fdD ["_law_source_here", "_law_count"] []) (GR : FnOk P w K mg base CX0 (k + 2) fR fdR ["_law_numerator", "_law_denominator"] spRed) (gR : mg "_law_reduced" = some (.ref fR)) (kR : PySem.W.keepIn K (.ref fR) = true)
    (bR : L2.Binds K fdR ["_law_numerator", "_law_denominator"] []) : FnOk P w K mg base CX0 (k + 3) f fd ["_law_source_here", "_law_spread"] spBnd := by
  refine F.ok scBnd (fun vs H Q E h => ?_) (fun cdv A outer s H vs Q E hr h => ?_)
  · obtain ⟨a, l, sp, rfl, _⟩ := h
    rfl
  · obtain ⟨a, l, sp, rfl, S, p1, p2, q⟩ := h
    have hr1 : Room (k + 1) _ := hr.mono (by omega)
    refine ⟨_, pss_cons (ps_if (pt_cmpR op_eq (pe_call GD hr1 (by rfl) gD kD bD .nil pass0 (pa_cons (pv 0) (pa_cons pe_int pa_nil))) pe_int (nomark _))
        (pss_one (ps_ret (pe_call GR hr (by rfl) gR kR bR .nil pass0 (pa_cons (pe_op op_sub (pe_call GD hr1 (by rfl) gD kD bD .nil pass0 (pa_cons (pv 0) (pa_cons (pe_op op_add (pe_op op_mul pe_int (pv 1)) pe_int) pa_nil))) (pe_op op_mul pe_int (pv 1)))
          (pa_cons (pe_op op_add pe_int (pe_call GD hr1 (by rfl) gD kD bD .nil pass0 (pa_cons (pv 0) (pa_cons pe_int pa_nil)))) pa_nil))))) pss_nil)
      (pss_one (ps_ret (pe_tup (pa_cons (pe_op op_sub (pe_call GD hr1 (by rfl) gD kD bD .nil pass0 (pa_cons (pv 0) (pa_cons (pe_op op_add (pv 1) pe_int) pa_nil))) (pe_op op_fdiv (pv 1) pe_int)) (pa_cons pe_int pa_nil))))), ?_⟩
    refine ⟨_, rfl, a, l, 4, rfl, S, by decide, cnt_big (by decide) (by decide), fun H1 v1 B1 S1 a1 b1 => ⟨rfl, _, rfl, ite2 (fun e => ?_) (fun e => ?_)⟩⟩
    · refine ⟨_, rfl, _, rfl, _, _, rfl, rfl, .inl ⟨by decide, by decide⟩, _, _, rfl, rfl, a, l, _, rfl, S1, by omega, cnt_big (by omega) (by omega), fun H2 v2 B2 S2 a2 b2 => ⟨_, rfl, _, _, rfl, rfl, .inl ⟨by decide, by decide⟩, _, _, rfl, rfl, ?_⟩⟩
      refine ⟨_, rfl, a, l, 3, rfl, S2, by decide, cnt_big (by decide) (by decide), fun H3 v3 B3 S3 a3 b3 => ⟨_, _, rfl, rfl, ?_⟩⟩
      have d0 : (2 + v3 : Int) ≠ 0 := by omega
      refine ⟨_, _, rfl, d0, cnt_big (by omega) (by omega), fun t nt => ?_⟩
      have k3 : Keep a H H3 := (B1.keep.trans B2.keep).trans B3.keep
      have nt0 : H t = none := by
        have z := Src.ne_new S3 nt
        rw [B3 t z, B2 t z, B1 t z] at nt
        exact nt
      refine q _ t (rn (v2 - 2 * sp) (2 + v3), rd (v2 - 2 * sp) (2 + v3)) (k3.trans (Keep.of (same_new nt))) (S3.upd_new nt) nt0 (Src.ne_new S3 nt) upd_same ⟨?_, ?_, ?_⟩
      · unfold isFr
        have z := rd_pos (n := v2 - 2 * sp) d0
        rw [decide_eq_true (show (1 : Int) ≤ rd (v2 - 2 * sp) (2 + v3) by omega), decide_eq_true (r_gcd d0)]
        rfl
      · exact Nat.le_trans (rn_le d0) (by omega)
      · exact Nat.le_trans (rd_le d0) (by omega)
    · refine ⟨_, rfl, _, rfl, _, _, rfl, rfl, a, l, _, rfl, S1, by omega, cnt_big (by omega) (by omega), fun H2 v2 B2 S2 a2 b2 => ⟨_, rfl, _, _, rfl, rfl, ⟨by decide, by decide⟩, _, _, rfl, rfl, Nat.le_of_ble_eq_true rfl, fun t nt => ?_⟩⟩
      have nt0 : H t = none := by
        have z := Src.ne_new S2 nt
        rw [B2 t z, B1 t z] at nt
        exact nt
      refine q _ t (v2 - sp / 2, 1) ((B1.keep.trans B2.keep).trans (Keep.of (same_new nt))) (S2.upd_new nt) nt0 (Src.ne_new S2 nt) upd_same ⟨?_, ?_, Nat.le_of_ble_eq_true rfl⟩
      · unfold isFr
        rw [Int.gcd_one_right]
        rfl
      · have : 0 ≤ sp / 2 := by omega
        show (v2 - sp / 2).natAbs ≤ _
        omega
/-! ### _law_shuffled -/
def spShu (K : PySem.W.Frag) : Sp := fun vs H Q _ => ∃ (a l c : Addr) (xs : List V), vs = [.ref a, .ref c] ∧ Src H a l ∧ c ≠ a ∧ SqL K H c xs ∧ xs.length ≤ 1000 ∧ ∀ H' p ys, Keep a H H' → Src H' a l → H p = none → p ≠ a → H' p = some (.lst ys) → ys.Perm xs → Q (.ref p) H'
theorem ins_perm {α : Type} (ys : List α) (x : α) (i : Nat) : (ys.take i ++ [x] ++ ys.drop i).Perm (ys ++ [x]) := by
  rw [List.append_assoc]
  have h1 : ([x] ++ ys.drop i).Perm (ys.drop i ++ [x]) := List.perm_append_comm
  have h2 := List.Perm.append_left (ys.take i) h1
  rw [← List.append_assoc (ys.take i) (ys.drop i), List.take_append_drop] at h2
  exact h2
theorem ok_shu {f fD : Addr} {fd fdD : FuncData} {k : Nat} (F : Fun K "_law_shuffled" "_law_shuffled" sShu f fd) (GD : FnOk P w K mg base CX0 (k + 1) fD fdD ["_law_source_here", "_law_count"] spDraw) (gD : mg "_law_draw" = some (.ref fD)) (kD : PySem.W.keepIn K (.ref fD) = true)
    (bD : L2.Binds K fdD ["_law_source_here", "_law_count"] []) (mL : mg "len" = none) : FnOk P w K mg base CX0 (k + 2) f fd ["_law_source_here", "_law_chosen"] (spShu K) := by
  refine F.ok scShu (fun vs H Q E h => ?_) (fun cdv A outer s H vs Q E hr h => ?_)
  · obtain ⟨a, l, c, xs, rfl, _⟩ := h
    rfl
  · obtain ⟨a, l, c, xs, rfl, S, nc, hS, hl, q⟩ := h
    refine ⟨_, pss_cons (ps_set (i := 2) scShu.nd rfl (.inl rfl) (pe_lst pa_nil))
      (pss_cons (ps_for PassesOwn.never rfl (pi_list (pv 1)) (pg_name (i := 3) scShu.nd rfl (Or.inl rfl))
        (pss_one (ps_expr (pe_bm PySem.F.plainAttrs_list PySem.F.slot_list_insert PySem.F.type_list_insert mt_insert (pv 2) (pa_cons (pe_call GD hr (by rfl) gD kD bD .nil pass0 (pa_cons (pv 0) (pa_cons (pe_op op_add (pe_callB call_len_seq (by rfl) mL PySem.boot_len (pa_cons (pv 2) pa_nil)) pe_int) pa_nil))) (pa_cons (pv 3) pa_nil))))))
      (pss_one (ps_ret (pv 2)))), ?_⟩
    refine ⟨Nat.zero_le _, fun o no => ?_⟩
    have na : o ≠ a := Src.ne_new S no
    refine ⟨_, rfl, c, rfl, ⟨_, (same_new no).seq hS⟩, for_list (K := K) (a := c) (xs := xs) (fun i σ' H' => ∃ y3 ys, σ' = [some (.ref a), some (.ref c), some (.ref o), y3] ∧ Keep a H H' ∧ Src H' a l ∧ H' o = some (.lst ys) ∧ ys.Perm (xs.take i)) ⟨none, [], rfl, Keep.of (same_new no), S.upd_new no, upd_same, .nil⟩ (fun i σ' H' _ h => ?_) (fun i x σ' H' hx h => ?_) (fun σ' H' h => ?_)⟩
    · obtain ⟨y3, ys, rfl, kp, _⟩ := h
      exact kp.seq nc hS
    · obtain ⟨y3, ys, rfl, kp, S', eo, pm⟩ := h
      have ll : ys.length ≤ 1000 := by
        rw [pm.length_eq, List.length_take]
        omega
      refine ⟨_, rfl, .inl ⟨rfl, _, SqL.of eo⟩, _, rfl, _, rfl, o, _, rfl, .inl (SqL.of eo), _, _, rfl, rfl, a, l, _, rfl, S', by omega, cnt_big (by omega) (by omega), fun H2 v B2 S2 v0 v1 => ⟨_, rfl, o, ys, v, x, rfl, rfl, ?_, small1000 ll, v0, by omega, ?_⟩⟩
      · rw [B2 o na]
        exact eo
      · have eo2 : H2 o = some (.lst ys) := by
          rw [B2 o na]
          exact eo
        refine ⟨_, _, rfl, fun b z nb e => ?_, ?_, upd_same, ?_⟩
        · have nbo : b ≠ o := ne_of_none e no
          rw [upd_ne nbo]
          exact B2.keep _ _ nb (kp _ _ nb e)
        · exact S2.put na (Src.ne_cells S no)
        · rw [take_snoc hx]
          exact (ins_perm ys x _).trans (List.Perm.append_right _ pm)
    · obtain ⟨y3, ys, rfl, kp, S', eo, pm⟩ := h
      rw [List.take_length] at pm
      exact ⟨_, rfl, q _ o ys kp S' no na eo pm⟩
end
end Dw
namespace Dw
open PySem PySem.Spec PyProof.Rows L2
abbrev sIvl : Stmt := topS 37
abbrev nIvl : List Str := ["_law_source_here", "_law_spread", "_law_previous", "_law_low", "_law_high", "_law_way"]
theorem scIvl : FnScope nIvl ["_law_source_here", "_law_spread", "_law_previous"] (defScope sIvl) := ⟨rfl, rfl, rfl, by decide +kernel, rfl, by decide +kernel, by decide +kernel⟩
/-! ### intervals as the law draws them -/
abbrev Iv := Fr × Fr
def IvV (K : PySem.W.Frag) (H : Hp) (v : V) (iv : Iv) : Prop := ∃ (t : Addr) (l h : V), v = .ref t ∧ SqT K H t [l, h] ∧ PrV K H l iv.1 ∧ PrV K H h iv.2
def ivD (iv : Iv) : PyData := .tuple [frD iv.1, frD iv.2]
def Bd2 (p : Fr) : Prop := isFr p = true ∧ p.1.natAbs ≤ 20000000 ∧ p.2.natAbs ≤ 20000000
def GIv (iv : Iv) : Prop := Bd2 iv.1 ∧ Bd2 iv.2 ∧ lessF iv.2 iv.1 = false
theorem Bd.two {p : Fr} (h : Bd p) : Bd2 p := ⟨h.1, by have := h.2.1; omega, by have := h.2.2; omega⟩
theorem Bd2.sml {p : Fr} (h : Bd2 p) : Sml p := by
  have e : (20000000 : Nat) < 2 ^ 1000 := by decide +kernel
  exact ⟨Nat.lt_of_le_of_lt h.2.1 e, Nat.lt_of_le_of_lt h.2.2 e⟩
theorem Bd2.fit {p : Fr} (h : Bd2 p) : FitF p := by
  have e : (20000000 : Nat) < 10 ^ 200 := by decide +kernel
  exact ⟨Nat.lt_of_le_of_lt h.2.1 e, Nat.lt_of_le_of_lt h.2.2 e⟩
theorem sqT_keep {K : PySem.W.Frag} {H H' : Hp} {a l t : Addr} {xs : List V} (k : Keep a H H') (S : Src H a l) (h : SqT K H t xs) : SqT K H' t xs := by
  obtain ⟨ms, i, r, s, S⟩ := S
  rcases h with (h | ⟨o, h⟩) | h
  · exact .inl (.inl (k _ _ (fun z => by rw [z, S.at_] at h; cases h) h))
  · exact .inl (.inr ⟨o, k _ _ (fun z => by rw [z, S.at_] at h; cases h) h⟩)
  · exact .inr h
theorem PrV.keep {K : PySem.W.Frag} {H H' : Hp} {a l : Addr} {v : V} {p : Fr} (h : PrV K H v p) (k : Keep a H H') (S : Src H a l) : PrV K H' v p := by
  obtain ⟨b, rfl, s⟩ := h
  exact ⟨b, rfl, sqT_keep k S s⟩
theorem IvV.keep {K : PySem.W.Frag} {H H' : Hp} {a l : Addr} {v : V} {iv : Iv} (h : IvV K H v iv) (k : Keep a H H') (S : Src H a l) : IvV K H' v iv := by
  obtain ⟨t, x, y, rfl, h1, h2, h3⟩ := h
  exact ⟨t, x, y, rfl, sqT_keep k S h1, h2.keep k S, h3.keep k S⟩
theorem ivs_keep {K : PySem.W.Frag} {H H' : Hp} {a l : Addr} (k : Keep a H H') (S : Src H a l) : ∀ {zs : List V} {ivs : List Iv}, Paired (IvV K H) zs ivs → Paired (IvV K H') zs ivs
  | _, _, .nil => .nil
  | _, _, .cons h r => .cons (h.keep k S) (ivs_keep k S r)
theorem IvV.dp {K : PySem.W.Frag} {H : Hp} {v : V} {iv : Iv} (h : IvV K H v iv) : Dp K H v (ivD iv) := by
  obtain ⟨t, x, y, rfl, h1, h2, h3⟩ := h
  exact .tup h1 (.cons h2.dp (.cons h3.dp .nil))
theorem ivs_dp {K : PySem.W.Frag} {H : Hp} : ∀ {zs : List V} {ivs : List Iv}, Paired (IvV K H) zs ivs → DpAll K H zs (ivs.map ivD)
  | _, _, .nil => .nil
  | _, _, .cons h r => .cons h.dp (ivs_dp r)
theorem ivs_mem {K : PySem.W.Frag} {H : Hp} : ∀ {zs : List V} {ivs : List Iv} {v : V}, Paired (IvV K H) zs ivs → v ∈ zs → ∃ iv ∈ ivs, IvV K H v iv
  | _, _, _, .nil, h => absurd h List.not_mem_nil
  | _, iv :: _, v, .cons r t, h => by
    rcases List.mem_cons.mp h with rfl | h
    · exact ⟨iv, List.mem_cons_self, r⟩
    · obtain ⟨x, hx, z⟩ := ivs_mem t h
      exact ⟨x, List.mem_cons_of_mem _ hx, z⟩
theorem lay_iv : ∀ ivs : List Iv, PyData.canLayAll0 (ivs.map ivD) = true
  | [] => rfl
  | iv :: r => by
    show (PyData.canLay0 (ivD iv) && PyData.canLayAll0 (r.map ivD)) = true
    rw [lay_iv r]
    rfl
theorem dep_iv : ∀ ivs : List Iv, PyData.depthAll (ivs.map ivD) ≤ 2
  | [] => Nat.zero_le _
  | iv :: r => by
    show max (PyData.depth (ivD iv)) (PyData.depthAll (r.map ivD)) ≤ 2
    exact Nat.max_le.mpr ⟨Nat.le_refl _, dep_iv r⟩
theorem shp_ivs (ivs : List Iv) : SeqAt.shaped (.list (ivs.map ivD)) = true := by
  have h := dep_iv ivs
  show (PyData.canLayAll0 (ivs.map ivD) && decide (PyData.depthAll (ivs.map ivD) + 1 ≤ 64)) = true
  rw [lay_iv, decide_eq_true (by omega)]
  rfl
theorem eqv_nil (ds : List PyData) : PyData.eqv (.list ds) (.list []) = ds.isEmpty := by
  cases ds <;> rfl
theorem eqv_fr (p q : Fr) : PyData.eqv (frD p) (frD q) = (p.1 == q.1 && p.2 == q.2) := by
  show ((p.1 == q.1) && ((p.2 == q.2) && true)) = _
  rw [Bool.and_true]
theorem less_asym {p q : Fr} (h : lessF p q = true) : lessF q p = false := by
  have z : p.1 * q.2 < q.1 * p.2 := of_decide_eq_true h
  exact decide_eq_false (by omega)
theorem isFr_pos {p : Fr} (h : isFr p = true) : 1 ≤ p.2 := by
  unfold isFr at h
  exact of_decide_eq_true (Bool.and_eq_true_iff.mp h).1
theorem isFr_gcd {p : Fr} (h : isFr p = true) : Int.gcd p.1 p.2 = 1 := by
  unfold isFr at h
  exact of_decide_eq_true (Bool.and_eq_true_iff.mp h).2
theorem isFr_next {p : Fr} (h : isFr p = true) : isFr (p.1 + p.2, p.2) = true := by
  unfold isFr
  rw [decide_eq_true (isFr_pos h)]
  have e : Int.gcd (p.1 + p.2) p.2 = 1 := by
    rw [show p.1 + p.2 = p.1 + 1 * p.2 by omega, Int.gcd_add_mul_right_left]
    exact isFr_gcd h
  rw [decide_eq_true e]
  rfl
theorem next_less {p : Fr} (h : isFr p = true) : lessF (p.1 + p.2, p.2) p = false := by
  have h1 := isFr_pos h
  refine decide_eq_false ?_
  show ¬ (p.1 + p.2) * p.2 < p.1 * p.2
  rw [Int.add_mul]
  have : 0 ≤ p.2 * p.2 := Int.mul_nonneg (by omega) (by omega)
  omega
section
variable {P : Program} {w : World} {K : PySem.W.Frag} {mg : Str → Option Value} {base : Heap}
def spIvl (K : PySem.W.Frag) : Sp := fun vs H Q _ => ∃ (a l : Addr) (sp : Int) (c : Addr) (zs : List V) (ivs : List Iv), vs = [.ref a, .int sp, .ref c] ∧ Src H a l ∧ 1 ≤ sp ∧ sp ≤ 1000 ∧ c ≠ a ∧ H c = some (.lst zs) ∧ Paired (IvV K H) zs ivs ∧ (∀ iv ∈ ivs, GIv iv) ∧ zs.length ≤ 1000 ∧
  ∀ H' v iv, Keep a H H' → Src H' a l → IvV K H' v iv → GIv iv → Q v H'
theorem ok_ivl {f fD fC fB fL : Addr} {fd fdD fdC fdB fdL : FuncData} {k : Nat} (F : Fun K "_law_interval" "_law_interval" sIvl f fd) (GD : FnOk P w K mg base CX0 (k + 1) fD fdD ["_law_source_here", "_law_count"] spDraw) (gD : mg "_law_draw" = some (.ref fD)) (kD : PySem.W.keepIn K (.ref fD) = true)
    (bD : L2.Binds K fdD ["_law_source_here", "_law_count"] []) (GC : FnOk P w K mg base CX0 (k + 2) fC fdC ["_law_source_here", "_law_chosen"] (spCho K)) (gC : mg "_law_choice" = some (.ref fC)) (kC : PySem.W.keepIn K (.ref fC) = true) (bC : L2.Binds K fdC ["_law_source_here", "_law_chosen"] [])
    (GB : FnOk P w K mg base CX0 (k + 3) fB fdB ["_law_source_here", "_law_spread"] spBnd) (gB : mg "_law_bound" = some (.ref fB)) (kB : PySem.W.keepIn K (.ref fB) = true) (bB : L2.Binds K fdB ["_law_source_here", "_law_spread"] [])
    (GL : FnOk P w K mg base CX0 (k + 1) fL fdL ["_law_one", "_law_two"] (spLess K)) (gL : mg "_law_less" = some (.ref fL)) (kL : PySem.W.keepIn K (.ref fL) = true) (bL : L2.Binds K fdL ["_law_one", "_law_two"] []) :
    FnOk P w K mg base CX0 (k + 4) f fd ["_law_source_here", "_law_spread", "_law_previous"] (spIvl K) := by
  refine F.ok scIvl (fun vs H Q E h => ?_) (fun cdv A outer s H vs Q E hr h => ?_)
  · obtain ⟨a, l, sp, c, zs, ivs, rfl, _⟩ := h
    rfl
  · obtain ⟨a, l, sp, c, zs, ivs, rfl, S, p1, p2, nca, hc, hv, gv, hl, q⟩ := h
    have hr1 : Room (k + 1) _ := hr.mono (by omega)
    have hr2 : Room (k + 2) _ := hr.mono (by omega)
    refine ⟨_, pss_cons (ps_set (i := 3) scIvl.nd rfl (.inl rfl) (pe_call GB hr (by rfl) gB kB bB .nil pass0 (pa_cons (pv 0) (pa_cons (pv 1) pa_nil))))
      (pss_cons (ps_set (i := 4) scIvl.nd rfl (.inl rfl) (pe_call GB hr (by rfl) gB kB bB .nil pass0 (pa_cons (pv 0) (pa_cons (pv 1) pa_nil))))
      (pss_cons (ps_set (i := 5) scIvl.nd rfl (.inl rfl) (pe_call GD hr1 (by rfl) gD kD bD .nil pass0 (pa_cons (pv 0) (pa_cons pe_int pa_nil))))
      (C8.pss_cut (ps_if (PW.pt (pw_and (pt_cmpR (op_neD hr.units) (pv 2) (pe_lst pa_nil) (nomark _)) (pw_and1 (pt_cmpR op_eq (pv 5) pe_int (nomark _)))))
        (pss_one (ps_ret (pe_call GC hr2 (by rfl) gC kC bC .nil pass0 (pa_cons (pv 0) (pa_cons (pv 2) pa_nil))))) pss_nil)
      (C8.pss_cut (ps_if (PW.pt (pw_and (pt_cmpR (op_neD hr.units) (pv 2) (pe_lst pa_nil) (nomark _)) (pw_and1 (pt_cmpR op_eq (pv 5) pe_int (nomark _)))))
        (pss_one (ps_set (i := 3) scIvl.nd rfl (.inl rfl) (pe_ix ix_tup (pe_call GC hr2 (by rfl) gC kC bC .nil pass0 (pa_cons (pv 0) (pa_cons (pv 2) pa_nil))) (pe_call GD hr1 (by rfl) gD kD bD .nil pass0 (pa_cons (pv 0) (pa_cons pe_int pa_nil))) (fun _ _ => rfl)))) pss_nil)
      (pss_cons (ps_if (pt_val (pe_call GL hr1 (by rfl) gL kL bL .nil pass0 (pa_cons (pv 4) (pa_cons (pv 3) pa_nil)))) (pss_one (ps_ret (pe_tup (pa_cons (pv 4) (pa_cons (pv 3) pa_nil))))) pss_nil)
      (pss_cons (ps_if (PW.pt (pw_and (pt_cmpR (op_eqD hr.units) (pv 4) (pv 3) (nomark _)) (pw_and1 (pt_cmpR op_gt (pv 5) pe_int (nomark _)))))
        (pss_one (ps_ret (pe_tup (pa_cons (pv 3) (pa_cons (pe_tup (pa_cons (pe_op op_add (pe_ix ix_tup (pv 3) pe_int (fun _ _ => rfl)) (pe_ix ix_tup (pv 3) pe_int (fun _ _ => rfl))) (pa_cons (pe_ix ix_tup (pv 3) pe_int (fun _ _ => rfl)) pa_nil))) pa_nil))))) pss_nil)
      (pss_one (ps_ret (pe_tup (pa_cons (pv 3) (pa_cons (pv 4) pa_nil))))))))))), ?_⟩
    refine ⟨_, rfl, _, rfl, a, l, sp, rfl, S, p1, p2, fun H1 t1 f1 k1 S1 n1 na1 e1 g1 => ?_⟩
    refine ⟨_, rfl, _, rfl, a, l, sp, rfl, S1, p1, p2, fun H2 t2 f2 k2 S2 n2 na2 e2 g2 => ?_⟩
    refine ⟨_, rfl, a, l, 6, rfl, S2, by decide, cnt_big (by decide) (by decide), fun H3 wy B3 S3 w0 w1 => ?_⟩
    have k3 : Keep a H H3 := (k1.trans k2).trans B3.keep
    have v1 : PrV K H3 (.ref t1) f1 := PrV.keep (PrV.keep ⟨t1, rfl, SqT.of e1⟩ k2 S1) B3.keep S2
    have v2 : PrV K H3 (.ref t2) f2 := PrV.keep ⟨t2, rfl, SqT.of e2⟩ B3.keep S2
    -- previous != [] and way == 0
    have ne_test : ∀ (H' : Hp), Keep a H H' → ∀ p, H' p = none → Dp K (upd H' p (.lst [])) (.ref c) (.list (ivs.map ivD)) ∧ Dp K (upd H' p (.lst [])) (.ref p) (.list []) := fun H' kk p np => by
      have kk' : Keep a H (upd H' p (.lst [])) := kk.trans (Keep.of (same_new np))
      exact ⟨.lst (SqL.of (kk' _ _ nca hc)) (ivs_dp (ivs_keep kk' S hv)), .lst (SqL.of upd_same) .nil⟩
    refine ⟨fun σ' H' => σ' = [some (.ref a), some (.int sp), some (.ref c), some (.ref t1), some (.ref t2), some (.int wy)] ∧ Keep a H3 H' ∧ Src H' a l, ?_, ?_⟩
    · refine ⟨_, rfl, Nat.zero_le _, fun p np => ⟨_, _, (ne_test H3 k3 p np).1, (ne_test H3 k3 p np).2, shp_ivs _, rfl, _, rfl, ?_⟩⟩
      rw [eqv_nil]
      have kp : Keep a H3 (upd H3 p (.lst [])) := Keep.of (same_new np)
      cases z : (ivs.map ivD).isEmpty with
      | true => exact iteF ⟨rfl, kp, S3.upd_new np⟩
      | false =>
        refine iteT ?_
        refine ⟨_, rfl, rfl, _, rfl, ite2 (fun e => ?_) (fun e => ⟨rfl, kp, S3.upd_new np⟩)⟩
        have zne : zs ≠ [] := fun y => by
          subst y
          cases hv
          cases z
        refine ⟨_, rfl, _, rfl, a, l, c, zs, rfl, S3.upd_new np, nca, SqL.of ((k3.trans kp) _ _ nca hc), zne, hl, fun H4 v B4 S4 hvz => ?_⟩
        obtain ⟨iv, him, hiv⟩ := ivs_mem hv hvz
        exact q _ v iv ((k3.trans kp).trans B4.keep) S4 (hiv.keep ((k3.trans kp).trans B4.keep) S) (gv iv him)
    · rintro σ' H4 ⟨rfl, k4, S4⟩
      have k4' := k3.trans k4
      refine ⟨fun σ' H' => ∃ (lv : V) (lf : Fr), σ' = [some (.ref a), some (.int sp), some (.ref c), some lv, some (.ref t2), some (.int wy)] ∧ Keep a H4 H' ∧ Src H' a l ∧ PrV K H' lv lf ∧ Bd2 lf ∧ (lf = f1 ∨ wy = 1), ?_, ?_⟩
      · refine ⟨_, rfl, Nat.zero_le _, fun p np => ⟨_, _, (ne_test H4 k4' p np).1, (ne_test H4 k4' p np).2, shp_ivs _, rfl, _, rfl, ?_⟩⟩
        rw [eqv_nil]
        have kp : Keep a H4 (upd H4 p (.lst [])) := Keep.of (same_new np)
        have v1' : PrV K (upd H4 p (.lst [])) (.ref t1) f1 := (v1.keep k4 S3).keep kp S4
        cases z : (ivs.map ivD).isEmpty with
        | true => exact iteF ⟨_, f1, rfl, kp, S4.upd_new np, v1', g1.two, .inl rfl⟩
        | false =>
          refine iteT ?_
          refine ⟨_, rfl, rfl, _, rfl, ite2 (fun e => ?_) (fun e => ⟨_, f1, rfl, kp, S4.upd_new np, v1', g1.two, .inl rfl⟩)⟩
          have w1' : wy = 1 := V.int.inj (of_decide_eq_true e)
          have zne : zs ≠ [] := fun y => by
            subst y
            cases hv
            cases z
          refine ⟨_, rfl, _, rfl, a, l, c, zs, rfl, S4.upd_new np, nca, SqL.of ((k4'.trans kp) _ _ nca hc), zne, hl, fun H5 v B5 S5 hvz => ?_⟩
          obtain ⟨iv, him, hiv⟩ := ivs_mem hv hvz
          have kk := (k4'.trans kp).trans B5.keep
          obtain ⟨tt, x, y, rfl, h1, h2, h3⟩ := hiv.keep kk S
          refine ⟨_, rfl, a, l, 2, rfl, S5, by decide, cnt_big (by decide) (by decide), fun H6 j B6 S6 j0 j1 => ?_⟩
          have gg := gv iv him
          have h1' := sqT_keep B6.keep S5 h1
          rcases (show j = 0 ∨ j = 1 by omega) with rfl | rfl
          · exact ⟨tt, _, _, x, rfl, rfl, h1', rfl, _, iv.1, rfl, (kp.trans B5.keep).trans B6.keep, S6, h2.keep B6.keep S5, gg.1, .inr w1'⟩
          · exact ⟨tt, _, _, y, rfl, rfl, h1', rfl, _, iv.2, rfl, (kp.trans B5.keep).trans B6.keep, S6, h3.keep B6.keep S5, gg.2.1, .inr w1'⟩
      · rintro σ' H5 ⟨lv, lf, rfl, k5, S5, hlv, bl, ow⟩
        have k5' := k4'.trans k5
        have v2' : PrV K H5 (.ref t2) f2 := v2.keep (k4.trans k5) S3
        -- less(high, low)
        refine ⟨_, rfl, _, rfl, _, _, f2, lf, rfl, v2', hlv, g2.two.sml, bl.sml, _, rfl, ?_⟩
        cases ol : lessF f2 lf with
        | true =>
          refine iteT ?_
          refine ⟨_, rfl, _, rfl, Nat.le_of_ble_eq_true rfl, fun p np => ?_⟩
          have sp' := same_new (o := .tup [.ref t2, lv]) np
          exact q _ _ (f2, lf) (k5'.trans (Keep.of sp')) (S5.upd_new np) ⟨p, _, _, rfl, SqT.of upd_same, v2'.same sp', hlv.same sp'⟩ ⟨g2.two, bl, less_asym ol⟩
        | false =>
          refine iteF ?_
          -- high == low and way > 2
          have last : ∀ (H' : Hp), H' = H5 → tRet (tTup (tCons (tVar 3) (tCons (tVar 4) tNil))) { nx := fun _ H' => Q .non H', rt := Q } [some (.ref a), some (.int sp), some (.ref c), some lv, some (.ref t2), some (.int wy)] H' := by
            rintro H' rfl
            refine ⟨_, rfl, _, rfl, Nat.le_of_ble_eq_true rfl, fun p np => ?_⟩
            have sp' := same_new (o := .tup [lv, .ref t2]) np
            exact q _ _ (lf, f2) (k5'.trans (Keep.of sp')) (S5.upd_new np) ⟨p, _, _, rfl, SqT.of upd_same, hlv.same sp', v2'.same sp'⟩ ⟨bl, g2.two, ol⟩
          refine ⟨_, rfl, _, rfl, _, _, v2'.dp, hlv.dp, rfl, rfl, _, rfl, ite2 (fun e => ?_) (fun e => iteF (last H5 rfl))⟩
          refine ⟨_, rfl, _, _, rfl, rfl, _, rfl, ite2 (fun e2 => ?_) (fun e2 => last H5 rfl)⟩
          have w2 : (2 : Int) < wy := of_decide_eq_true e2
          have elf : lf = f1 := by
            rcases ow with z | z
            · exact z
            · omega
          subst elf
          obtain ⟨b, rfl, hb⟩ := hlv
          refine ⟨_, rfl, _, rfl, b, _, _, _, rfl, rfl, hb, rfl, _, rfl, b, _, _, _, rfl, rfl, hb, rfl, _, _, rfl, rfl, _, rfl, b, _, _, _, rfl, rfl, hb, rfl, Nat.le_of_ble_eq_true rfl, fun t nt => ⟨Nat.le_of_ble_eq_true rfl, fun p np => ?_⟩⟩
          have st := same_new (o := .tup [.int (lf.1 + lf.2), .int lf.2]) nt
          have sp' := same_new (o := .tup [.ref b, .ref t]) np
          refine q _ _ (lf, (lf.1 + lf.2, lf.2)) ((k5'.trans (Keep.of st)).trans (Keep.of sp')) ((S5.upd_new nt).upd_new np) ⟨p, _, _, rfl, SqT.of upd_same, ⟨b, rfl, SqT.same (st.trans sp') hb⟩, ⟨t, rfl, SqT.of (sp' _ _ upd_same)⟩⟩ ⟨bl, ⟨isFr_next bl.1, ?_, ?_⟩, next_less bl.1⟩
          · have h1 := g1.2.1
            have h2 := g1.2.2
            show (lf.1 + lf.2).natAbs ≤ _
            omega
          · exact bl.2.2
end
end Dw
namespace Dw
open PySem PySem.Spec PyProof.Rows L2
/-! ### all but lists stays -/
def NL (H H' : Hp) : Prop := ∀ b o, (∀ xs, o ≠ .lst xs) → H b = some o → H' b = some o
theorem NL.refl (H : Hp) : NL H H := fun _ _ _ h => h
theorem NL.trans {H H1 H2 : Hp} (x : NL H H1) (y : NL H1 H2) : NL H H2 := fun b o n h => y b o n (x b o n h)
theorem NL.of {H H' : Hp} (s : Same H H') : NL H H' := fun b o _ h => s b o h
theorem NL.put {H : Hp} {q : Addr} {zs : List V} {o : HO} (e : H q = some (.lst zs)) : NL H (upd H q o) := fun b u n h => by
  rw [upd_ne (fun z => by rw [z, e] at h; exact n zs (Option.some.inj h).symm)]
  exact h
theorem NL.keep {H H' : Hp} {a l : Addr} (k : Keep a H H') (S : Src H a l) : NL H H' := fun b o n h => by
  obtain ⟨ms, i, r, s, S⟩ := S
  exact k b o (fun z => by rw [z, S.at_] at h; exact n _ (Option.some.inj h).symm) h
theorem sqT_nl {K : PySem.W.Frag} {H H' : Hp} {t : Addr} {xs : List V} (k : NL H H') (h : SqT K H t xs) : SqT K H' t xs := by
  rcases h with (h | ⟨o, h⟩) | h
  · exact .inl (.inl (k _ _ (fun _ z => nomatch z) h))
  · exact .inl (.inr ⟨o, k _ _ (fun _ z => nomatch z) h⟩)
  · exact .inr h
theorem PrV.nl {K : PySem.W.Frag} {H H' : Hp} {v : V} {p : Fr} (k : NL H H') (h : PrV K H v p) : PrV K H' v p := by
  obtain ⟨b, rfl, s⟩ := h
  exact ⟨b, rfl, sqT_nl k s⟩
theorem IvV.nl {K : PySem.W.Frag} {H H' : Hp} {v : V} {iv : Iv} (k : NL H H') (h : IvV K H v iv) : IvV K H' v iv := by
  obtain ⟨t, x, y, rfl, h1, h2, h3⟩ := h
  exact ⟨t, x, y, rfl, sqT_nl k h1, h2.nl k, h3.nl k⟩
theorem ivs_nl {K : PySem.W.Frag} {H H' : Hp} (k : NL H H') : ∀ {zs : List V} {ivs : List Iv}, Paired (IvV K H) zs ivs → Paired (IvV K H') zs ivs
  | _, _, .nil => .nil
  | _, _, .cons h r => .cons (h.nl k) (ivs_nl k r)
theorem EntV.nl {K : PySem.W.Frag} {H H' : Hp} {v : V} {e : Ent} (k : NL H H') (h : EntV K H v e) : EntV K H' v e := by
  obtain ⟨a, l, u, rfl, h1, h2, h3⟩ := h
  exact ⟨a, l, u, rfl, sqT_nl k h1, h2.nl k, h3.nl k⟩
theorem ents_nl {K : PySem.W.Frag} {H H' : Hp} (k : NL H H') : ∀ {xs : List V} {es : List Ent}, Ents K H xs es → Ents K H' xs es
  | _, _, .nil => .nil
  | _, _, .cons h t => .cons (h.nl k) (ents_nl k t)
/-! ### entries as data, sorted -/
def entD (e : Ent) : PyData := .tuple [.str e.name, frD e.lo, frD e.hi]
theorem EntV.dp {K : PySem.W.Frag} {H : Hp} {v : V} {e : Ent} (h : EntV K H v e) : Dp K H v (entD e) := by
  obtain ⟨a, l, u, rfl, h1, h2, h3⟩ := h
  exact .tup h1 (.cons (.str _) (.cons h2.dp (.cons h3.dp .nil)))
theorem ent_alike (x y : Ent) : PySem.W.alike (entD x) (entD y) = true := by
  simp [entD, frD, PySem.W.alike, PySem.W.alikeAll]
theorem ent_lt {x y : Ent} (h : x.name ≠ y.name) : PySem.W.dataLt (entD x) (entD y) = decide (x.name.cps.toList < y.name.cps.toList) := by
  unfold entD
  rw [PySem.W.dataLt_tuple, PySem.W.dataLt_cons (by simp [PySem.W.alike]), if_neg, PySem.W.dataLt_str]
  show ¬ (x.name == y.name) = true
  simpa using h
abbrev VE := V × Ent
def srtE (cs : List VE) : List VE := cs.mergeSort (PySem.W.dataLe false fun c => entD c.2)
theorem srt_perm (cs : List VE) : (srtE cs).Perm cs := List.mergeSort_perm _ _
theorem srt_asc {cs : List VE} (nd : (cs.map (·.2.name)).Nodup) : (srtE cs).Pairwise fun x y => x.2.name.cps.toList < y.2.name.cps.toList := by
  have h1 : (srtE cs).Pairwise fun x y => PySem.W.dataLe false (fun c : VE => entD c.2) x y = true := PySem.W.sort_pairwise (PySem.W.sortLe_total _ _ _) cs
  have h2 : ((srtE cs).map (·.2.name)).Nodup := ((srt_perm cs).map _).nodup_iff.mpr nd
  have h3 : (srtE cs).Pairwise fun x y => x.2.name ≠ y.2.name := by
    have := List.pairwise_map.mp h2
    exact this
  refine (h1.and h3).imp ?_
  rintro x y ⟨z, ne⟩
  have z' : (!PySem.W.dataLt (entD y.2) (entD x.2)) = true := z
  rw [ent_lt (Ne.symm ne)] at z'
  by_cases lt : y.2.name.cps.toList < x.2.name.cps.toList
  · rw [decide_eq_true lt] at z'
    cases z'
  · by_cases gt : x.2.name.cps.toList < y.2.name.cps.toList
    · exact gt
    · exact absurd (PyProof.Rows.ext_toList (List.le_antisymm (List.not_lt.mp lt) (List.not_lt.mp gt))) ne
/-! ### what the law's interval lists are -/
def names7 : List Str := ["a", "b", "bb", "item", "d", "xyzxyz", "z"]
structure GoodEs (es : List Ent) : Prop where
  ne : es ≠ []
  le : es.length ≤ 7
  each : ∀ e ∈ es, e.name ∈ names7 ∧ GIv (e.lo, e.hi)
  asc : es.Pairwise fun x y => x.name.cps.toList < y.name.cps.toList
theorem names7_ok : ∀ n ∈ names7, nmB n = true ∧ ("" : Str).cps.toList < n.cps.toList ∧ n.length ≤ 50 ∧ ∀ c ∈ n.cps.toList, c < 1114112 := by decide +kernel
theorem chk_good : ∀ {es : List Ent} {prev : Str}, (∀ e ∈ es, prev.cps.toList < e.name.cps.toList) → (∀ e ∈ es, nmB e.name = true ∧ GIv (e.lo, e.hi)) → (es.Pairwise fun x y => x.name.cps.toList < y.name.cps.toList) → chk prev es = none
  | [], _, _, _, _ => rfl
  | e :: r, prev, h1, h2, h3 => by
    have hp := List.pairwise_cons.mp h3
    obtain ⟨n1, g1, g2, g3⟩ := h2 e List.mem_cons_self
    have lt := h1 e List.mem_cons_self
    unfold chk
    rw [if_neg (by rw [g1.1]; decide), if_neg (by rw [g2.1]; decide), if_neg (by rw [n1]; decide), if_neg (by rw [decide_eq_true lt]; decide), if_neg (by rw [g3]; decide)]
    exact chk_good hp.1 (fun x hx => h2 x (List.mem_cons_of_mem _ hx)) hp.2
theorem GoodEs.passes {es : List Ent} (g : GoodEs es) : chkAll es = none := by
  unfold chkAll
  rw [if_neg (by have := g.le; omega)]
  exact chk_good (fun e he => (names7_ok _ (g.each e he).1).2.1) (fun e he => ⟨(names7_ok _ (g.each e he).1).1, (g.each e he).2⟩) g.asc
theorem GoodEs.fit {es : List Ent} (g : GoodEs es) : ∀ e ∈ es, FitE e := fun e he => by
  obtain ⟨n, g1, g2, _⟩ := g.each e he
  obtain ⟨_, _, l, c⟩ := names7_ok _ n
  exact ⟨l, c, g1.fit, g2.fit⟩
theorem perm_strs {ys : List V} {xs : List Str} (h : ys.Perm (xs.map V.str)) : ∃ zs : List Str, zs.Perm xs ∧ ys = zs.map V.str := by
  let g : V → Str := fun v => match v with | .str z => z | _ => ""
  refine ⟨ys.map g, ?_, ?_⟩
  · have := h.map g
    rw [List.map_map] at this
    have e : (g ∘ V.str) = id := rfl
    rw [e, List.map_id] at this
    exact this
  · rw [List.map_map]
    have e : ∀ v ∈ ys, (V.str ∘ g) v = v := fun v hv => by
      obtain ⟨z, _, rfl⟩ := List.mem_map.mp (h.mem_iff.mp hv)
      rfl
    rw [List.map_congr_left e, List.map_id']
theorem cut_take (xs : List V) (j : Nat) : cutV xs none (some (j : Int)) = xs.take j := by
  unfold cutV
  rw [HT.sIx_none, HT.sIx_nat, List.drop_zero, Nat.sub_zero]
  by_cases h : j ≤ xs.length
  · rw [Nat.min_eq_left h]
  · rw [Nat.min_eq_right (by omega), List.take_of_length_le (Nat.le_refl _), List.take_of_length_le (by omega)]
theorem ivs_get {K : PySem.W.Frag} {H : Hp} : ∀ {zs : List V} {ivs : List Iv} {i : Nat}, Paired (IvV K H) zs ivs → i < zs.length → ∃ v iv, zs[i]? = some v ∧ ivs[i]? = some iv ∧ IvV K H v iv
  | _, _, _, .nil, h => by simp at h
  | v :: _, iv :: _, 0, .cons r _, _ => ⟨v, iv, rfl, rfl, r⟩
  | _ :: zs, _ :: ivs, i + 1, .cons _ t, h => ivs_get (i := i) t (by simpa using h)
theorem ents_map {K : PySem.W.Frag} {H : Hp} : ∀ {cs : List VE}, (∀ c ∈ cs, EntV K H c.1 c.2) → Ents K H (cs.map (·.1)) (cs.map (·.2))
  | [], _ => .nil
  | c :: cs, h => .cons (h c List.mem_cons_self) (ents_map fun d hd => h d (List.mem_cons_of_mem _ hd))
theorem Src.extNS {H H1 : Hp} {a l : Addr} (h : Src H a l) (e : Same H H1) : Src H1 a l := by
  obtain ⟨ms, i, r, s, S⟩ := h
  exact ⟨ms, i, r, s, S.ne, e _ _ S.at_, e _ _ S.cells, S.i0, S.r0, S.s0, S.s1⟩
abbrev sIvs : Stmt := topS 38
abbrev nIvs : List Str := ["_law_source_here", "_law_most", "_law_spread", "_law_names", "_law_many", "_law_chosen", "_law_previous", "_law_name", "_law_at"]
theorem scIvs : FnScope nIvs ["_law_source_here", "_law_most", "_law_spread"] (defScope sIvs) := ⟨rfl, rfl, rfl, by decide +kernel, rfl, by decide +kernel, by decide +kernel⟩
section
variable {P : Program} {w : World} {K : PySem.W.Frag} {mg : Str → Option Value} {base : Heap}
def spIvs (K : PySem.W.Frag) : Sp := fun vs H Q _ => ∃ (a l : Addr) (mo sp : Int), vs = [.ref a, .int mo, .int sp] ∧ Src H a l ∧ 1 ≤ mo ∧ mo ≤ 7 ∧ 1 ≤ sp ∧ sp ≤ 1000 ∧
  ∀ H' p xs es, Keep a H H' → Src H' a l → H p = none → p ≠ a → H' p = some (.lst xs) → Ents K H' xs es → GoodEs es → Q (.ref p) H'
theorem ok_ivs {f fD fH fI : Addr} {fd fdD fdH fdI : FuncData} {k : Nat} (F : Fun K "_law_intervals" "_law_intervals" sIvs f fd) (GD : FnOk P w K mg base CX0 (k + 1) fD fdD ["_law_source_here", "_law_count"] spDraw) (gD : mg "_law_draw" = some (.ref fD)) (kD : PySem.W.keepIn K (.ref fD) = true)
    (bD : L2.Binds K fdD ["_law_source_here", "_law_count"] []) (GH : FnOk P w K mg base CX0 (k + 2) fH fdH ["_law_source_here", "_law_chosen"] (spShu K)) (gH : mg "_law_shuffled" = some (.ref fH)) (kH : PySem.W.keepIn K (.ref fH) = true) (bH : L2.Binds K fdH ["_law_source_here", "_law_chosen"] [])
    (GI : FnOk P w K mg base CX0 (k + 4) fI fdI ["_law_source_here", "_law_spread", "_law_previous"] (spIvl K)) (gI : mg "_law_interval" = some (.ref fI)) (kI : PySem.W.keepIn K (.ref fI) = true) (bI : L2.Binds K fdI ["_law_source_here", "_law_spread", "_law_previous"] [])
    (mS : mg "sorted" = none) (mR : mg "range" = none) : FnOk P w K mg base CX0 (k + 5) f fd ["_law_source_here", "_law_most", "_law_spread"] (spIvs K) := by
  refine F.ok scIvs (fun vs H Q E h => ?_) (fun cdv A outer s H vs Q E hr h => ?_)
  · obtain ⟨a, l, mo, sp, rfl, _⟩ := h
    rfl
  · obtain ⟨a, l, mo, sp, rfl, S, m1, m7, p1, p2, q⟩ := h
    have hr1 : Room (k + 1) _ := hr.mono (by omega)
    have hr2 : Room (k + 2) _ := hr.mono (by omega)
    refine ⟨_, pss_cons (ps_set (i := 3) scIvs.nd rfl (.inl rfl) (pe_lst (pa_cons pe_str (pa_cons pe_str (pa_cons pe_str (pa_cons pe_str (pa_cons pe_str (pa_cons pe_str (pa_cons pe_str pa_nil)))))))))
      (pss_cons (ps_set (i := 4) scIvs.nd rfl (.inl rfl) (pe_op op_add pe_int (pe_call GD hr1 (by rfl) gD kD bD .nil pass0 (pa_cons (pv 0) (pa_cons (pv 1) pa_nil)))))
      (pss_cons (ps_set (i := 5) scIvs.nd rfl (.inr rfl) (pe_slice sl_list (pe_call GH hr2 (by rfl) gH kH bH .nil pass0 (pa_cons (pv 0) (pa_cons (pv 3) pa_nil))) po_none (po_some (pv 4))))
      (pss_cons (ps_set (i := 6) scIvs.nd rfl (.inr rfl) (pe_lst pa_nil))
      (pss_cons (ps_for PassesOwn.never rfl (pi_list (pv 5)) (pg_name (i := 7) scIvs.nd rfl (Or.inl rfl))
        (pss_one (ps_expr (pe_bm PySem.F.plainAttrs_list PySem.F.slot_list_append PySem.F.type_list_append mt_append (pv 6) (pa_cons (pe_call GI hr (by rfl) gI kI bI .nil pass0 (pa_cons (pv 0) (pa_cons (pv 2) (pa_cons (pv 6) pa_nil)))) pa_nil)))))
      (pss_one (ps_ret (pe_callB (cr_sortData hr.units) (by rfl) mS (by decide +kernel) (pa_cons (pe_lc (own := [("_law_at", 8)]) (g := gName 8) (tt := tYes)
          (te := tTup (tCons (tOp (rIxL K) (tVar 5) (tVar 8)) (tCons (tOp (rIxT K) (tOp (rIxL K) (tVar 6) (tVar 8)) (tC (.int 0))) (tCons (tOp (rIxT K) (tOp (rIxL K) (tVar 6) (tVar 8)) (tC (.int 1))) tNil)))) rfl scIvs.nd
          (pi_range1 (by rfl) mR (pa_cons (pv 4) pa_nil)) (blkOk_by (N := nIvs) (sc := defScope sIvs) (by decide +kernel)) (fun _ _ _ _ _ => pg_name (i := 8) scIvs.nd rfl (Or.inl rfl)) (fun _ _ _ _ _ => pts_nil)
          (fun _ _ _ _ _ => pe_tup (pa_cons (pe_ix ix_list (pv 5) (pv 8) (fun _ _ => rfl)) (pa_cons (pe_ix ix_tup (pe_ix ix_list (pv 6) (pv 8) (fun _ _ => rfl)) pe_int (fun _ _ => rfl)) (pa_cons (pe_ix ix_tup (pe_ix ix_list (pv 6) (pv 8) (fun _ _ => rfl)) pe_int (fun _ _ => rfl)) pa_nil))))) pa_nil)))))))), ?_⟩
    refine ⟨Nat.le_of_ble_eq_true rfl, fun c nc => ?_⟩
    have nca := Src.ne_new S nc
    have S0 := S.upd_new (o := .lst (names7.map V.str)) nc
    refine ⟨_, rfl, _, rfl, a, l, mo, rfl, S0, by omega, cnt_big (by omega) (by omega), fun H1 d B1 S1 d0 d1 => ⟨_, _, rfl, rfl, ?_⟩⟩
    have c1 : H1 c = some (.lst (names7.map V.str)) := (B1 c nca).trans upd_same
    refine ⟨_, rfl, _, rfl, a, l, c, _, rfl, S1, nca, SqL.of c1, Nat.le_of_ble_eq_true rfl, fun H2 u ys k2 S2 nu nua e2 pm => ?_⟩
    obtain ⟨zs, pz, rfl⟩ := perm_strs pm
    obtain ⟨j, hj⟩ : ∃ j : Nat, (1 + d : Int) = (j : Int) := ⟨(1 + d).toNat, by omega⟩
    refine ⟨_, rfl, _, rfl, u, _, rfl, SqL.of e2, fun ch nch => ?_⟩
    rw [show ((fun i j => V.int (i + j)) 1 d) = V.int (j : Int) by show V.int (1 + d) = _; rw [hj]]
    rw [hj, cut_take, ← List.map_take]
    have lz : zs.length = 7 := pz.length_eq
    have j7 : j ≤ 7 := by omega
    have lj : (zs.take j).length = j := by
      rw [List.length_take, lz]
      omega
    have nda : (zs.take j).Nodup := (List.take_sublist j zs).nodup (pz.nodup_iff.mpr (by decide +kernel))
    have mem7 : ∀ n ∈ zs.take j, n ∈ names7 := fun n hn => pz.mem_iff.mp (List.mem_of_mem_take hn)
    have nch0 : ch ≠ a := Src.ne_new S2 nch
    have S3 := S2.upd_new (o := .lst ((zs.take j).map V.str)) nch
    refine ⟨Nat.zero_le _, fun pr npr => ?_⟩
    have npa : pr ≠ a := Src.ne_new S3 npr
    have npl : pr ≠ l := Src.ne_cells S3 npr
    have S4 := S3.upd_new (o := .lst []) npr
    have kk0 : Keep a H (upd H2 ch (.lst ((zs.take j).map V.str))) := (((Keep.of (same_new nc)).trans B1.keep).trans k2).trans (Keep.of (same_new nch))
    have eC : (upd H2 ch (.lst ((zs.take j).map V.str))) ch = some (.lst ((zs.take j).map V.str)) := upd_same
    have nprH : H pr = none := by
      cases z : H pr with
      | none => rfl
      | some o =>
        have y := kk0 pr o npa z
        rw [npr] at y
        cases y
    generalize (upd H2 ch (.lst ((zs.take j).map V.str))) = H3 at S3 npr S4 kk0 eC
    refine ⟨_, rfl, ch, rfl, ⟨_, (same_new npr).seq (SqL.of eC)⟩, for_list (K := K) (a := ch) (xs := (zs.take j).map V.str) (fun i σ' H' => ∃ (y7 : Option V) (ps : List V) (ivs : List Iv), σ' = [some (.ref a), some (.int mo), some (.int sp), some (.ref c), some (.int (j : Int)), some (.ref ch), some (.ref pr), y7, none] ∧ Keep a H3 H' ∧ Src H' a l ∧ H' pr = some (.lst ps) ∧ Paired (IvV K H') ps ivs ∧ (∀ iv ∈ ivs, GIv iv) ∧ ps.length = i)
      ⟨none, [], [], rfl, Keep.of (same_new npr), S4, upd_same, .nil, (fun _ h => absurd h List.not_mem_nil), rfl⟩ (fun i σ' H' _ h => ?_) (fun i x σ' H' hx h => ?_) (fun σ' H' h => ?_)⟩
    · obtain ⟨_, _, _, _, kp, _⟩ := h
      exact SqL.of (kp _ _ nch0 eC)
    · obtain ⟨y7, ps, ivs, rfl, kp, S', ep, hv, gv, le⟩ := h
      have hi : i < 7 := by
        have := (List.getElem?_eq_some_iff.mp hx).1
        rw [List.length_map, lj] at this
        omega
      refine ⟨_, rfl, .inl ⟨rfl, _, SqL.of ep⟩, _, rfl, _, rfl, _, rfl, a, l, sp, pr, ps, ivs, rfl, S', p1, p2, npa, ep, hv, gv, by omega, fun H5 v iv k5 S5 hiv giv => ?_⟩
      have ep5 := k5 _ _ npa ep
      have n5 : NL H' H5 := NL.keep k5 S'
      refine ⟨pr, ps, v, rfl, rfl, ep5, small1000 (by omega), _, ps ++ [v], ivs ++ [iv], rfl, fun b o nb e => ?_, S5.put npa npl, upd_same, ?_, ?_, ?_⟩
      · rw [upd_ne (ne_of_none e npr)]
        exact k5 _ _ nb (kp _ _ nb e)
      · exact pair_snoc (ivs_nl (n5.trans (NL.put ep5)) hv) (hiv.nl (NL.put ep5))
      · intro z hz
        rcases List.mem_append.mp hz with hz | hz
        · exact gv z hz
        · rw [List.mem_singleton.mp hz]
          exact giv
      · rw [List.length_append, le]
        rfl
    · obtain ⟨y7, ps, ivs, rfl, kp, S', ep, hv, gv, le⟩ := h
      rw [List.length_map, lj] at le
      have eC' := kp _ _ nch0 eC
      refine ⟨_, rfl, (j : Int), rfl, by omega, by omega, fun D nD => ?_⟩
      rw [Int.toNat_natCast]
      have nDp : D ≠ pr := fun z => by
        rw [z, ep] at nD
        cases nD
      have nDa : D ≠ a := Src.ne_new S' nD
      refine lc_range (lo := 0) (n := j) (fun i H'' => Same H' H'' ∧ ∃ cs : List VE, H'' D = some (.lst (cs.map (·.1))) ∧ (∀ c ∈ cs, EntV K H'' c.1 c.2) ∧ cs.map (·.2.name) = (zs.take j).take i ∧ (∀ c ∈ cs, GIv (c.2.lo, c.2.hi)) ∧ cs.length = i) ⟨same_new nD, [], upd_same, (fun _ h => absurd h List.not_mem_nil), rfl, (fun _ h => absurd h List.not_mem_nil), rfl⟩ (fun i H'' hi h => ?_) (fun H'' h => ?_)
      · obtain ⟨sm, cs, eD, ce, cn, cg, cl⟩ := h
        obtain ⟨v, iv, ev, eiv, t, x, y, rfl, h1, h2, h3⟩ := ivs_get hv (show i < ps.length by omega)
        have gi := gv iv (List.mem_of_getElem? eiv)
        have en : (zs.take j)[i]? = some ((zs.take j)[i]'(by omega)) := List.getElem?_eq_getElem (by omega)
        have en' : ((zs.take j).map V.str)[i]? = some (.str ((zs.take j)[i]'(by omega))) := by
          rw [List.getElem?_map, en]
          rfl
        have ei : (0 + (i : Int)) = (i : Int) := by omega
        rw [ei]
        refine ⟨rfl, _, rfl, _, rfl, ch, _, _, _, rfl, rfl, SqL.of (sm _ _ eC'), atI_nat en', _, rfl, _, rfl, pr, _, _, _, rfl, rfl, SqL.of (sm _ _ ep), atI_nat ev, t, _, _, x, rfl, rfl, SqT.same sm h1, rfl, _, rfl, _, rfl, pr, _, _, _, rfl, rfl, SqL.of (sm _ _ ep), atI_nat ev, t, _, _, y, rfl, rfl, SqT.same sm h1, rfl, Nat.le_of_ble_eq_true rfl, fun b nb => ?_⟩
        have sb := same_new (o := .tup [.str ((zs.take j)[i]'(by omega)), x, y]) nb
        have eDb := sb _ _ eD
        refine ⟨_, eDb, ?_, same_upd (sm.trans sb) nD, cs ++ [(.ref b, ⟨(zs.take j)[i]'(by omega), iv.1, iv.2⟩)], ?_, ?_, ?_, ?_, ?_⟩
        · rw [List.length_map, cl]
          exact small1000 (by omega)
        · rw [upd_same, List.map_append]
          rfl
        · intro c hc
          rcases List.mem_append.mp hc with hc | hc
          · exact (ce c hc).nl ((NL.of sb).trans (NL.put eDb))
          · rw [List.mem_singleton.mp hc]
            have nbD : b ≠ D := (ne_of_none eD nb).symm
            refine ⟨b, x, y, rfl, SqT.of ?_, (h2.same (sm.trans sb)).nl (NL.put eDb), (h3.same (sm.trans sb)).nl (NL.put eDb)⟩
            rw [upd_ne nbD, upd_same]
        · rw [List.map_append, cn, take_snoc en]
          rfl
        · intro c hc
          rcases List.mem_append.mp hc with hc | hc
          · exact cg c hc
          · rw [List.mem_singleton.mp hc]
            exact gi
        · rw [List.length_append, cl]
          rfl
      · obtain ⟨sm, cs, eD, ce, cn, cg, cl⟩ := h
        rw [List.take_of_length_le (by omega)] at cn
        refine ⟨D, cs.map fun c => (c.1, entD c.2), rfl, ?_, ?_, ?_, ?_, ?_, fun r nr => ?_⟩
        · rw [List.map_map]
          exact SqL.of eD
        · intro b hb
          obtain ⟨c, hc, rfl⟩ := List.mem_map.mp hb
          exact (ce c hc).dp
        · intro d1 h1 d2 h2
          rw [List.map_map] at h1 h2
          obtain ⟨c1, _, rfl⟩ := List.mem_map.mp h1
          obtain ⟨c2, _, rfl⟩ := List.mem_map.mp h2
          exact ent_alike _ _
        · refine .inl fun d1 h1 => ?_
          rw [List.map_map] at h1
          obtain ⟨c1, _, rfl⟩ := List.mem_map.mp h1
          exact ⟨_, _, rfl⟩
        · intro b hb
          obtain ⟨c, hc, rfl⟩ := List.mem_map.mp hb
          exact Nat.le_of_ble_eq_true rfl
        · have em : ((cs.map fun c => (c.1, entD c.2)).mergeSort (PySem.W.dataLe false (·.2))).map (·.1) = (srtE cs).map (·.1) := by
            unfold srtE
            rw [← PySem.W.sort_maps (r := PySem.W.dataLe false fun c : VE => entD c.2) (s := PySem.W.dataLe false (·.2)) (fun c : VE => (c.1, entD c.2)) (fun _ _ _ _ => rfl), List.map_map]
            rfl
          rw [em]
          have nra : r ≠ a := Src.ne_new (S'.extNS sm) nr
          have pmv := srt_perm cs
          refine q _ r ((srtE cs).map (·.1)) ((srtE cs).map (·.2)) (((kk0.trans kp).trans (Keep.of sm)).trans (Keep.of (same_new nr))) ((S'.extNS sm).upd_new nr) ?_ nra upd_same (ents_map fun c hc => (ce c (pmv.mem_iff.mp hc)).same (same_new nr)) ⟨?_, ?_, ?_, ?_⟩
          · cases z : H r with
            | none => rfl
            | some o =>
              have y := sm _ _ (kp _ _ nra (kk0 _ _ nra z))
              rw [nr] at y
              cases y
          · intro z
            have := congrArg List.length z
            rw [List.length_map, pmv.length_eq, cl] at this
            simp at this
            omega
          · rw [List.length_map, pmv.length_eq, cl]
            omega
          · intro e he
            obtain ⟨c, hc, rfl⟩ := List.mem_map.mp he
            have hc' := pmv.mem_iff.mp hc
            refine ⟨mem7 _ ?_, cg c hc'⟩
            rw [← cn]
            exact List.mem_map.mpr ⟨c, hc', rfl⟩
          · exact List.pairwise_map.mpr (srt_asc (by rw [cn]; exact nda))
end
end Dw
namespace Dw
open PySem PySem.Spec PyProof.Rows L2
/-! ### the mathematics of the bent lists -/
def lastN : Str → List Ent → Str
  | p, [] => p
  | _, e :: r => lastN e.name r
theorem chk_pre : ∀ {pre : List Ent} {prev : Str} (rest : List Ent), (∀ e ∈ pre, prev.cps.toList < e.name.cps.toList) → (∀ e ∈ pre, nmB e.name = true ∧ GIv (e.lo, e.hi)) → (pre.Pairwise fun x y => x.name.cps.toList < y.name.cps.toList) → chk prev (pre ++ rest) = chk (lastN prev pre) rest
  | [], _, _, _, _, _ => rfl
  | e :: r, prev, rest, h1, h2, h3 => by
    have hp := List.pairwise_cons.mp h3
    obtain ⟨n1, g1, g2, g3⟩ := h2 e List.mem_cons_self
    have lt := h1 e List.mem_cons_self
    show chk prev (e :: (r ++ rest)) = chk (lastN e.name r) rest
    rw [chk, if_neg (by rw [g1.1]; decide), if_neg (by rw [g2.1]; decide), if_neg (by rw [n1]; decide), if_neg (by rw [decide_eq_true lt]; decide), if_neg (by rw [g3]; decide)]
    exact chk_pre rest hp.1 (fun x hx => h2 x (List.mem_cons_of_mem _ hx)) hp.2
theorem lastN_mem : ∀ {pre : List Ent} {prev : Str}, lastN prev pre = prev ∨ ∃ e ∈ pre, lastN prev pre = e.name
  | [], _ => .inl rfl
  | e :: r, _ => by
    rcases lastN_mem (pre := r) (prev := e.name) with h | ⟨x, hx, h⟩
    · exact .inr ⟨e, List.mem_cons_self, h⟩
    · exact .inr ⟨x, List.mem_cons_of_mem _ hx, h⟩
/-- a good list up to a place -/
theorem GoodEs.upto {es : List Ent} (g : GoodEs es) (i : Nat) (rest : List Ent) : chk "" (es.take i ++ rest) = chk (lastN "" (es.take i)) rest :=
  chk_pre rest (fun e he => (names7_ok _ (g.each e (List.mem_of_mem_take he)).1).2.1) (fun e he => ⟨(names7_ok _ (g.each e (List.mem_of_mem_take he)).1).1, (g.each e (List.mem_of_mem_take he)).2⟩) (g.asc.sublist (List.take_sublist _ _))
theorem GoodEs.below {es : List Ent} (g : GoodEs es) {i : Nat} {e : Ent} (h : es[i]? = some e) : (lastN "" (es.take i)).cps.toList < e.name.cps.toList := by
  have hm := List.mem_of_getElem? h
  rcases lastN_mem (pre := es.take i) (prev := "") with z | ⟨x, hx, z⟩
  · rw [z]
    exact (names7_ok _ (g.each e hm).1).2.1
  · rw [z]
    have hi : i < es.length := (List.getElem?_eq_some_iff.mp h).1
    have e1 : es.take (i + 1) = es.take i ++ [e] := take_snoc h
    have pw := g.asc.sublist (List.take_sublist (i + 1) es)
    rw [e1] at pw
    exact (List.pairwise_append.mp pw).2.2 x hx e (List.mem_singleton.mpr rfl)
theorem chk_bad {prev : Str} {e : Ent} {r : List Ent} (h1 : isFr e.lo = true) (h2 : isFr e.hi = true) (h3 : nmB e.name = false ∨ ¬ prev.cps.toList < e.name.cps.toList ∨ lessF e.hi e.lo = true) : chk prev (e :: r) = some ("intervals" : Str) := by
  rw [chk, if_neg (by rw [h1]; decide), if_neg (by rw [h2]; decide)]
  by_cases n : nmB e.name = false
  · rw [if_pos n]
  · rw [if_neg n]
    by_cases o : prev.cps.toList < e.name.cps.toList
    · rw [if_neg (by rw [decide_eq_true o]; decide)]
      rcases h3 with z | z | z
      · exact absurd z n
      · exact absurd o z
      · rw [if_pos z]
    · rw [if_pos (by rw [decide_eq_false o]; rfl)]
theorem chk_frac {prev : Str} {e : Ent} {r : List Ent} (h : isFr e.lo = false ∨ isFr e.hi = false) : chk prev (e :: r) = some ("fraction" : Str) := by
  rw [chk]
  by_cases z : isFr e.lo = false
  · rw [if_pos z]
  · rw [if_neg z]
    rcases h with y | y
    · exact absurd y z
    · rw [if_pos y]
theorem chk_ok1 {prev : Str} {e : Ent} {r : List Ent} (n1 : nmB e.name = true) (g : GIv (e.lo, e.hi)) (lt : prev.cps.toList < e.name.cps.toList) : chk prev (e :: r) = chk e.name r := by
  obtain ⟨g1, g2, g3⟩ := g
  rw [chk, if_neg (by rw [g1.1]; decide), if_neg (by rw [g2.1]; decide), if_neg (by rw [n1]; decide), if_neg (by rw [decide_eq_true lt]; decide), if_neg (by rw [g3]; decide)]
theorem set_split {es : List Ent} {i : Nat} {e : Ent} (x : Ent) (h : es[i]? = some e) : es.set i x = es.take i ++ x :: es.drop (i + 1) := by
  have hi : i < es.length := (List.getElem?_eq_some_iff.mp h).1
  rw [List.set_eq_take_append_cons_drop, if_pos hi]
theorem self_split {es : List Ent} {i : Nat} {e : Ent} (h : es[i]? = some e) : es.drop i = e :: es.drop (i + 1) := by
  have hi : i < es.length := (List.getElem?_eq_some_iff.mp h).1
  rw [List.drop_eq_getElem_cons hi]
  have := List.getElem?_eq_some_iff.mp h
  rw [this.2]
def badNames : List Str := ["", "A", "a1", "abcdefg", "a b"]
theorem badNames_ok : ∀ n ∈ badNames, nmB n = false ∧ n.length ≤ 50 ∧ ∀ c ∈ n.cps.toList, c < 1114112 := by decide +kernel
theorem names7_zz : ∀ n ∈ names7, n.cps.toList < ("zz" : Str).cps.toList := by decide +kernel
theorem all_if {es : List Ent} {o : Option Str} (h : es.length ≤ 24) (e : chk "" es = o) : chkAll es = o := by
  unfold chkAll
  rw [if_neg (by omega)]
  exact e
section
variable {es : List Ent} {i : Nat} {e : Ent}
/-- way 0 -/
theorem bent0 (g : GoodEs es) (h : es[i]? = some e) {n : Str} (hn : n ∈ badNames) : chkAll (es.set i ⟨n, e.lo, e.hi⟩) = some ("intervals" : Str) := by
  have ge := (g.each e (List.mem_of_getElem? h)).2
  refine all_if (by rw [List.length_set]; have := g.le; omega) ?_
  rw [set_split _ h, g.upto]
  exact chk_bad ge.1.1 ge.2.1.1 (.inl (badNames_ok n hn).1)
/-- way 1 -/
theorem bent1 (g : GoodEs es) (h : es[i]? = some e) : chkAll (es.take i ++ [e] ++ es.drop i) = some ("intervals" : Str) := by
  have ge := g.each e (List.mem_of_getElem? h)
  have l : (es.take i ++ [e] ++ es.drop i).length ≤ 24 := by
    have := g.le
    simp only [List.length_append, List.length_take, List.length_drop, List.length_singleton]
    omega
  refine all_if l ?_
  rw [self_split h, List.append_assoc, g.upto, List.singleton_append, chk_ok1 (names7_ok _ ge.1).1 ge.2 (g.below h)]
  exact chk_bad ge.2.1.1 ge.2.2.1.1 (.inr (.inl (List.lt_irrefl _)))
/-- way 2 -/
theorem bent2 (g : GoodEs es) (h : es[i]? = some e) : chkAll (es.set i ⟨e.name, (e.hi.1 + e.hi.2, e.hi.2), e.hi⟩) = some ("intervals" : Str) := by
  have ge := g.each e (List.mem_of_getElem? h)
  refine all_if (by rw [List.length_set]; have := g.le; omega) ?_
  rw [set_split _ h, g.upto]
  refine chk_bad (isFr_next ge.2.2.1.1) ge.2.2.1.1 (.inr (.inr (decide_eq_true ?_)))
  have h1 : 1 ≤ e.hi.2 := isFr_pos ge.2.2.1.1
  show e.hi.1 * e.hi.2 < (e.hi.1 + e.hi.2) * e.hi.2
  rw [Int.add_mul]
  have : 0 < e.hi.2 * e.hi.2 := Int.mul_pos (by omega) (by omega)
  omega
/-- way 3 -/
theorem bent3 (g : GoodEs es) (h : es[i]? = some e) {n : Str} {lo hi : Fr} (hf : isFr lo = false ∨ isFr hi = false) : chkAll (es.set i ⟨n, lo, hi⟩) = some ("fraction" : Str) := by
  refine all_if (by rw [List.length_set]; have := g.le; omega) ?_
  rw [set_split _ h, g.upto]
  exact chk_frac hf
/-- way 4 -/
theorem bent4 (g : GoodEs es) (h : es[i]? = some e) : chkAll (es.set i ⟨"zz", e.lo, e.hi⟩ ++ [⟨"zy", e.lo, e.hi⟩]) = some ("intervals" : Str) := by
  have ge := g.each e (List.mem_of_getElem? h)
  refine all_if (by rw [List.length_append, List.length_set]; have := g.le; show es.length + 1 ≤ 24; omega) ?_
  have lt : (lastN "" (es.take i)).cps.toList < ("zz" : Str).cps.toList := List.lt_trans (g.below h) (names7_zz _ ge.1)
  rw [set_split _ h, List.append_assoc, g.upto, List.cons_append, chk_ok1 (e := ⟨"zz", e.lo, e.hi⟩) (show nmB "zz" = true by decide +kernel) ge.2 lt]
  cases z : es.drop (i + 1) with
  | nil => exact chk_bad ge.2.1.1 ge.2.2.1.1 (.inr (.inl (show ¬ ("zz" : Str).cps.toList < ("zy" : Str).cps.toList by decide +kernel)))
  | cons x r =>
    have gx := g.each x (List.mem_of_mem_drop (by rw [z]; exact List.mem_cons_self))
    refine chk_bad gx.2.1.1 gx.2.2.1.1 (.inr (.inl fun y => ?_))
    exact List.lt_irrefl _ (List.lt_trans y (names7_zz _ gx.1))
end
end Dw
namespace Dw
open PySem PySem.Spec PyProof.Rows L2
abbrev sBent : Stmt := topS 39
abbrev nBent : List Str := ["_law_source_here", "_law_intervals_here", "_law_at", "_law_name", "_law_low", "_law_high", "_law_way", "_law_entries", "_law_invalid", "_law_letters", "_law_sign"]
theorem scBent : FnScope nBent ["_law_source_here", "_law_intervals_here"] (defScope sBent) := ⟨rfl, rfl, rfl, by decide +kernel, rfl, by decide +kernel, by decide +kernel⟩
theorem pair_set {α β : Type} {F : α → β → Prop} {a : α} {b : β} (h : F a b) : ∀ {l : List α} {m : List β} (i : Nat), Paired F l m → Paired F (l.set i a) (m.set i b)
  | _, _, _, .nil => .nil
  | _, _, 0, .cons _ t => .cons h t
  | _, _, i + 1, .cons r t => .cons r (pair_set h i t)
theorem pair_take {α β : Type} {F : α → β → Prop} : ∀ {l : List α} {m : List β} (i : Nat), Paired F l m → Paired F (l.take i) (m.take i)
  | _, _, 0, _ => .nil
  | _, _, _ + 1, .nil => .nil
  | _, _, i + 1, .cons r t => .cons r (pair_take i t)
theorem pair_drop {α β : Type} {F : α → β → Prop} : ∀ {l : List α} {m : List β} (i : Nat), Paired F l m → Paired F (l.drop i) (m.drop i)
  | _, _, 0, h => h
  | _, _, _ + 1, .nil => .nil
  | _, _, i + 1, .cons _ t => pair_drop i t
theorem pair_app {α β : Type} {F : α → β → Prop} : ∀ {l l' : List α} {m m' : List β}, Paired F l m → Paired F l' m' → Paired F (l ++ l') (m ++ m')
  | _, _, _, _, .nil, h => h
  | _, _, _, _, .cons r t, h => .cons r (pair_app t h)
theorem ixN_nat {n i : Nat} (h : i < n) : ixN n (i : Int) = some i := by
  unfold ixN
  rw [if_pos (by omega), if_pos (by omega), Int.toNat_natCast]
def badFr : List Fr := [(2, 4), (1, 0), (1, -1), (0, 2), (3, -3)]
theorem badFr_ok : ∀ p ∈ badFr, isFr p = false ∧ p.1.natAbs ≤ 10 ∧ p.2.natAbs ≤ 10 := by decide +kernel
theorem small_fit {p : Fr} (h1 : p.1.natAbs ≤ 10) (h2 : p.2.natAbs ≤ 10) : FitF p := by
  have e : (10 : Nat) < 10 ^ 200 := by decide +kernel
  exact ⟨Nat.lt_of_le_of_lt h1 e, Nat.lt_of_le_of_lt h2 e⟩
theorem zFit : ("zz" : Str).length ≤ 50 ∧ (∀ c ∈ ("zz" : Str).cps.toList, c < 1114112) ∧ ("zy" : Str).length ≤ 50 ∧ (∀ c ∈ ("zy" : Str).cps.toList, c < 1114112) := by decide +kernel
def letters25 : Str := "abcdefghijklmnopqrstuvwxy"
theorem letters25_ok : letters25.cps.toList.length = 25 ∧ ∀ c ∈ letters25.cps.toList, c < 1114112 := by decide +kernel
theorem fit_set {es : List Ent} {i : Nat} {e : Ent} (h : ∀ x ∈ es, FitE x) (he : FitE e) : ∀ x ∈ es.set i e, FitE x := fun x hx => by
  rcases List.mem_or_eq_of_mem_set hx with z | z
  · exact h x z
  · rw [z]
    exact he
section
variable {P : Program} {w : World} {K : PySem.W.Frag} {mg : Str → Option Value} {base : Heap}
def spBent (K : PySem.W.Frag) : Sp := fun vs H Q _ => ∃ (a l ih : Addr) (xs : List V) (es : List Ent), vs = [.ref a, .ref ih] ∧ Src H a l ∧ ih ≠ a ∧ SqL K H ih xs ∧ Ents K H xs es ∧ GoodEs es ∧
  ∀ H' p en ys fs code, Keep a H H' → Src H' a l → H' p = some (.tup [.ref en, .str code]) → H en = none → en ≠ a → H' en = some (.lst ys) → Ents K H' ys fs → (∀ e ∈ fs, FitE e) → ((code = "" ∧ fs = es) ∨ (code ≠ "" ∧ chkAll fs = some code)) → Q (.ref p) H'
theorem ok_bent {f fD fC : Addr} {fd fdD fdC : FuncData} {k : Nat} (F : Fun K "_law_bent" "_law_bent" sBent f fd) (GD : FnOk P w K mg base CX0 (k + 1) fD fdD ["_law_source_here", "_law_count"] spDraw) (gD : mg "_law_draw" = some (.ref fD)) (kD : PySem.W.keepIn K (.ref fD) = true)
    (bD : L2.Binds K fdD ["_law_source_here", "_law_count"] []) (GC : FnOk P w K mg base CX0 (k + 2) fC fdC ["_law_source_here", "_law_chosen"] (spCho K)) (gC : mg "_law_choice" = some (.ref fC)) (kC : PySem.W.keepIn K (.ref fC) = true) (bC : L2.Binds K fdC ["_law_source_here", "_law_chosen"] [])
    (mL : mg "len" = none) (mLi : mg "list" = none) : FnOk P w K mg base CX0 (k + 3) f fd ["_law_source_here", "_law_intervals_here"] (spBent K) := by
  refine F.ok scBent (fun vs H Q E h => ?_) (fun cdv A outer s H vs Q E hr h => ?_)
  · obtain ⟨a, l, ih, xs, es, rfl, _⟩ := h
    rfl
  · obtain ⟨a, l, ih, xs, es, rfl, S, nia, hS, hE, g, q⟩ := h
    have hr1 : Room (k + 1) _ := hr.mono (by omega)
    refine ⟨_, pss_cons (ps_set (i := 2) scBent.nd rfl (.inl rfl) (pe_call GD hr1 (by rfl) gD kD bD .nil pass0 (pa_cons (pv 0) (pa_cons (pe_callB call_len_seq (by rfl) mL PySem.boot_len (pa_cons (pv 1) pa_nil)) pa_nil))))
      (pss_cons (ps_asg (pe_ix ix_list (pv 1) (pv 2) (fun _ _ => rfl)) (pg_tup rfl (pgs_cons (pg_name (i := 3) scBent.nd rfl (Or.inl rfl)) (pgs_cons (pg_name (i := 4) scBent.nd rfl (Or.inr rfl)) (pgs_cons (pg_name (i := 5) scBent.nd rfl (Or.inr rfl)) pgs_nil)))))
      (pss_cons (ps_set (i := 6) scBent.nd rfl (.inl rfl) (pe_call GD hr1 (by rfl) gD kD bD .nil pass0 (pa_cons (pv 0) (pa_cons pe_int pa_nil))))
      (pss_cons (ps_set (i := 7) scBent.nd rfl (.inl rfl) (pe_callTy call_list_of (by rfl) mLi (by decide +kernel) (pa_cons (pv 1) pa_nil)))
      (pss_cons (ps_if (pt_cmpR op_eq (pv 6) pe_int (nomark _)) (pss_cons (ps_asg (pe_tup (pa_cons (pe_call GC hr (by rfl) gC kC bC .nil pass0 (pa_cons (pv 0) (pa_cons (pe_lst (pa_cons pe_str (pa_cons pe_str (pa_cons pe_str (pa_cons pe_str (pa_cons pe_str pa_nil)))))) pa_nil))) (pa_cons (pv 4) (pa_cons (pv 5) pa_nil)))) (pg_sub (pv 7) (pv 2) set_list)) (pss_one (ps_ret (pe_tup (pa_cons (pv 7) (pa_cons pe_str pa_nil)))))) pss_nil)
      (pss_cons (ps_if (pt_cmpR op_eq (pv 6) pe_int (nomark _)) (pss_cons (ps_expr (pe_bm PySem.F.plainAttrs_list PySem.F.slot_list_insert PySem.F.type_list_insert mt_insert (pv 7) (pa_cons (pv 2) (pa_cons (pe_ix ix_list (pv 7) (pv 2) (fun _ _ => rfl)) pa_nil)))) (pss_one (ps_ret (pe_tup (pa_cons (pv 7) (pa_cons pe_str pa_nil)))))) pss_nil)
      (pss_cons (ps_if (pt_cmpR op_eq (pv 6) pe_int (nomark _)) (pss_cons (ps_asg (pe_tup (pa_cons (pv 3) (pa_cons (pe_tup (pa_cons (pe_op op_add (pe_ix ix_tup (pv 5) pe_int (fun _ _ => rfl)) (pe_ix ix_tup (pv 5) pe_int (fun _ _ => rfl))) (pa_cons (pe_ix ix_tup (pv 5) pe_int (fun _ _ => rfl)) pa_nil))) (pa_cons (pv 5) pa_nil)))) (pg_sub (pv 7) (pv 2) set_list)) (pss_one (ps_ret (pe_tup (pa_cons (pv 7) (pa_cons pe_str pa_nil)))))) pss_nil)
      (pss_cons (ps_if (pt_cmpR op_eq (pv 6) pe_int (nomark _)) (pss_cons (ps_set (i := 8) scBent.nd rfl (.inl rfl) (pe_call GC hr (by rfl) gC kC bC .nil pass0 (pa_cons (pv 0) (pa_cons (pe_lst (pa_cons (pe_tup (pa_cons pe_int (pa_cons pe_int pa_nil))) (pa_cons (pe_tup (pa_cons pe_int (pa_cons pe_int pa_nil))) (pa_cons (pe_tup (pa_cons pe_int (pa_cons (pe_un un_neg pe_int) pa_nil))) (pa_cons (pe_tup (pa_cons pe_int (pa_cons pe_int pa_nil))) (pa_cons (pe_tup (pa_cons pe_int (pa_cons (pe_un un_neg pe_int) pa_nil))) pa_nil)))))) pa_nil))))
          (pss_cons (ps_asg (pe_call GC hr (by rfl) gC kC bC .nil pass0 (pa_cons (pv 0) (pa_cons (pe_lst (pa_cons (pe_tup (pa_cons (pv 3) (pa_cons (pv 8) (pa_cons (pv 5) pa_nil)))) (pa_cons (pe_tup (pa_cons (pv 3) (pa_cons (pv 4) (pa_cons (pv 8) pa_nil)))) (pa_cons (pe_tup (pa_cons pe_str (pa_cons (pv 4) (pa_cons (pv 8) pa_nil)))) pa_nil)))) pa_nil))) (pg_sub (pv 7) (pv 2) set_list)) (pss_one (ps_ret (pe_tup (pa_cons (pv 7) (pa_cons pe_str pa_nil))))))) pss_nil)
      (pss_cons (ps_if (pt_cmpR op_eq (pv 6) pe_int (nomark _)) (pss_cons (ps_asg (pe_tup (pa_cons pe_str (pa_cons (pv 4) (pa_cons (pv 5) pa_nil)))) (pg_sub (pv 7) (pv 2) set_list)) (pss_cons (ps_expr (pe_bm PySem.F.plainAttrs_list PySem.F.slot_list_append PySem.F.type_list_append mt_append (pv 7) (pa_cons (pe_tup (pa_cons pe_str (pa_cons (pv 4) (pa_cons (pv 5) pa_nil)))) pa_nil))) (pss_one (ps_ret (pe_tup (pa_cons (pv 7) (pa_cons pe_str pa_nil))))))) pss_nil)
      (pss_cons (ps_if (pt_cmpR op_eq (pv 6) pe_int (nomark _)) (pss_cons (ps_set (i := 9) scBent.nd rfl (.inl rfl) pe_str) (pss_one (ps_ret (pe_tup (pa_cons (pe_lc (own := [("_law_sign", 10)]) (g := gName 10) (tt := tYes) (te := tTup (tCons (tVar 10) (tCons (tVar 4) (tCons (tVar 5) tNil)))) rfl scBent.nd (pi_str (pv 9)) (blkOk_by (N := nBent) (sc := defScope sBent) (by decide +kernel))
            (fun _ _ _ _ _ => pg_name (i := 10) scBent.nd rfl (Or.inl rfl)) (fun _ _ _ _ _ => pts_nil) (fun _ _ _ _ _ => pe_tup (pa_cons (pv 10) (pa_cons (pv 4) (pa_cons (pv 5) pa_nil))))) (pa_cons pe_str pa_nil)))))) pss_nil)
      (pss_one (ps_ret (pe_tup (pa_cons (pv 7) (pa_cons pe_str pa_nil)))))))))))))), ?_⟩
    have ln := hE.length
    have l0 : 0 < xs.length := by
      rw [ln]
      exact List.length_pos_iff.mpr g.ne
    have l7 : xs.length ≤ 7 := by
      rw [ln]
      exact g.le
    refine ⟨_, rfl, _, rfl, ih, xs, rfl, .inl hS, a, l, _, rfl, S, by omega, cnt_big (by omega) (by omega), fun H1 at' B1 S1 a0 a1 => ?_⟩
    obtain ⟨i, rfl⟩ : ∃ i : Nat, at' = (i : Int) := ⟨at'.toNat, by omega⟩
    have hi : i < xs.length := by omega
    have n1 : NL H H1 := NL.keep B1.keep S
    obtain ⟨e, he, t, lv, hv, ex, h1, h2, h3⟩ := hE.get (List.getElem?_eq_getElem hi)
    have exi : xs[i]? = some (.ref t) := by rw [List.getElem?_eq_getElem hi, ex]
    have ge := g.each e (List.mem_of_getElem? he)
    have fe := g.fit e (List.mem_of_getElem? he)
    refine ⟨_, rfl, _, rfl, ih, xs, _, .ref t, rfl, rfl, B1.keep.seq nia hS, atI_nat exi, ?_⟩
    refine ⟨t, _, rfl, sqT_nl n1 h1, rfl, _, _, rfl, _, _, rfl, _, _, rfl, rfl, ?_⟩
    refine ⟨_, rfl, a, l, 7, rfl, S1, by decide, cnt_big (by decide) (by decide), fun H2 wy B2 S2 w0 w1 => ?_⟩
    have k2 : Keep a H H2 := B1.keep.trans B2.keep
    refine ⟨_, rfl, ih, xs, rfl, .inl (k2.seq nia hS), fun en nen => ?_⟩
    have nea : en ≠ a := Src.ne_new S2 nen
    have nel : en ≠ l := Src.ne_cells S2 nen
    have neH : H en = none := by
      rw [B2 en nea, B1 en nea] at nen
      exact nen
    have k3 : Keep a H (upd H2 en (.lst xs)) := k2.trans (Keep.of (same_new nen))
    have S3 := S2.upd_new (o := .lst xs) nen
    have e3 : (upd H2 en (.lst xs)) en = some (.lst xs) := upd_same
    generalize (upd H2 en (.lst xs)) = H3 at k3 S3 e3
    -- the end of each way
    have fin : ∀ (H4 : Hp) (ys : List V) (fs : List Ent) (code : Str), Keep a H H4 → Src H4 a l → H4 en = some (.lst ys) → Ents K H4 ys fs → (∀ x ∈ fs, FitE x) → ((code = "" ∧ fs = es) ∨ (code ≠ "" ∧ chkAll fs = some code)) → ∀ p, H4 p = none → Q (.ref p) (upd H4 p (.tup [.ref en, .str code])) := fun H4 ys fs code k4 S4 e4 E4 f4 c4 p np => by
      have sp := same_new (o := .tup [.ref en, .str code]) np
      exact q _ p en ys fs code (k4.trans (Keep.of sp)) (S4.upd_new np) upd_same neH nea (sp _ _ e4) (E4.same sp) f4 c4
    -- entries[at] = v
    have putE : ∀ (H5 : Hp) (v : V) (e' : Ent) (fs : List Ent) (σ : L2.St) (R : L2.St → Hp → Prop), Keep a H H5 → Src H5 a l → H5 en = some (.lst xs) → EntV K H5 v e' → FitE e' → σ[7]? = some (some (.ref en)) → σ[2]? = some (some (.int (i : Int))) →
        (∀ H6, Keep a H H6 → Src H6 a l → H6 en = some (.lst (xs.set i v)) → Ents K H6 (xs.set i v) (es.set i e') → (∀ x ∈ es.set i e', FitE x) → NL H5 H6 → R σ H6) → gSub (tVar 7) (tVar 2) rSetL v σ H5 R := fun H5 v e' fs σ R k5 S5 e5 v5 f5 s7 s2 rr => by
      refine ⟨_, s7, _, s2, en, xs, _, i, rfl, rfl, e5, ixN_nat hi, ?_⟩
      have n5 : NL H H5 := NL.keep k5 S
      have np : NL H5 (upd H5 en (.lst (xs.set i v))) := NL.put e5
      refine rr _ (fun b o nb z => ?_) (S5.put nea nel) upd_same (pair_set (v5.nl np) i (ents_nl (n5.trans np) hE)) (fit_set g.fit f5) np
      rw [upd_ne (ne_of_none z neH)]
      exact k5 _ _ nb z
    have pl : PrV K H3 lv e.lo := h2.keep k3 S
    have ph : PrV K H3 hv e.hi := h3.keep k3 S
    refine ⟨_, rfl, rfl, _, rfl, ite2 (fun c => ?_) (fun c0 => ?_)⟩
    · -- way 0: a bad name
      refine ⟨_, rfl, Nat.le_of_ble_eq_true rfl, fun c1 n1' => ⟨a, l, c1, _, rfl, S3.upd_new n1', Src.ne_new S3 n1', SqL.of upd_same, by simp, by simp, fun H4 v B4 S4 hvm => ?_⟩⟩
      obtain ⟨n, hn, rfl⟩ : ∃ n ∈ badNames, v = .str n := by
        simp only [List.mem_cons, List.not_mem_nil, or_false] at hvm
        rcases hvm with z | z | z | z | z
        · exact ⟨"", by decide +kernel, z⟩
        · exact ⟨"A", by decide +kernel, z⟩
        · exact ⟨"a1", by decide +kernel, z⟩
        · exact ⟨"abcdefg", by decide +kernel, z⟩
        · exact ⟨"a b", by decide +kernel, z⟩
      have k34 : Keep a H3 H4 := (Keep.of (same_new n1')).trans B4.keep
      refine ⟨_, rfl, _, rfl, Nat.le_of_ble_eq_true rfl, fun b nb => ?_⟩
      have sb := same_new (o := .tup [.str n, lv, hv]) nb
      obtain ⟨_, b2, b3⟩ := badNames_ok n hn
      refine putE _ (.ref b) ⟨n, e.lo, e.hi⟩ es _ _ ((k3.trans k34).trans (Keep.of sb)) (S4.upd_new nb) (sb _ _ (k34 _ _ nea e3)) ⟨b, lv, hv, rfl, SqT.of upd_same, (pl.keep k34 S3).same sb, (ph.keep k34 S3).same sb⟩ ⟨b2, b3, fe.2.2⟩ rfl rfl fun H6 k6 S6 e6 E6 f6 _ => ?_
      exact ⟨_, rfl, Nat.le_of_ble_eq_true rfl, fun p np => fin H6 _ _ "intervals" k6 S6 e6 E6 f6 (.inr ⟨by decide +kernel, bent0 g he hn⟩) p np⟩
    refine ⟨_, rfl, rfl, _, rfl, ite2 (fun c => ?_) (fun c1 => ?_)⟩
    · -- way 1: twice
      refine ⟨_, rfl, .inl ⟨rfl, _, SqL.of e3⟩, _, rfl, _, rfl, _, rfl, en, xs, _, .ref t, rfl, rfl, SqL.of e3, atI_nat exi, en, xs, (i : Int), .ref t, rfl, rfl, e3, small1000 (by omega), by omega, by omega, ?_⟩
      rw [Int.toNat_natCast]
      have np : NL H3 (upd H3 en (.lst (xs.take i ++ [.ref t] ++ xs.drop i))) := NL.put e3
      have nH := (NL.keep k3 S).trans np
      refine ⟨_, rfl, Nat.le_of_ble_eq_true rfl, fun p np' => fin _ _ (es.take i ++ [e] ++ es.drop i) "intervals" (fun b o nb z => ?_) (S3.put nea nel) upd_same ?_ ?_ (.inr ⟨by decide +kernel, bent1 g he⟩) p np'⟩
      · rw [upd_ne (ne_of_none z neH)]
        exact k3 _ _ nb z
      · exact pair_app (pair_app (pair_take i (ents_nl nH hE)) (.cons (EntV.nl nH ⟨t, lv, hv, rfl, h1, h2, h3⟩) .nil)) (pair_drop i (ents_nl nH hE))
      · intro x hx
        rcases List.mem_append.mp hx with hx | hx
        · rcases List.mem_append.mp hx with hx | hx
          · exact g.fit x (List.mem_of_mem_take hx)
          · rw [List.mem_singleton.mp hx]
            exact fe
        · exact g.fit x (List.mem_of_mem_drop hx)
    refine ⟨_, rfl, rfl, _, rfl, ite2 (fun c => ?_) (fun c2 => ?_)⟩
    · -- way 2: swapped bounds
      obtain ⟨hb, rfl, hbs⟩ := ph
      refine ⟨_, rfl, _, rfl, hb, _, _, _, rfl, rfl, hbs, rfl, _, rfl, hb, _, _, _, rfl, rfl, hbs, rfl, _, _, rfl, rfl, _, rfl, hb, _, _, _, rfl, rfl, hbs, rfl, Nat.le_of_ble_eq_true rfl, fun t2 nt2 => ⟨_, rfl, Nat.le_of_ble_eq_true rfl, fun b nb => ?_⟩⟩
      have st := same_new (o := .tup [.int (e.hi.1 + e.hi.2), .int e.hi.2]) nt2
      have sb := same_new (o := .tup [.str e.name, .ref t2, .ref hb]) nb
      have gh := ge.2.2.1
      refine putE _ (.ref b) ⟨e.name, (e.hi.1 + e.hi.2, e.hi.2), e.hi⟩ es _ _ ((k3.trans (Keep.of st)).trans (Keep.of sb)) ((S3.upd_new nt2).upd_new nb) (sb _ _ (st _ _ e3)) ⟨b, .ref t2, .ref hb, rfl, SqT.of upd_same, ⟨t2, rfl, SqT.of (sb _ _ upd_same)⟩, ⟨hb, rfl, SqT.same (st.trans sb) hbs⟩⟩ ⟨fe.1, fe.2.1, ?_, fe.2.2.2⟩ rfl rfl fun H6 k6 S6 e6 E6 f6 _ => ?_
      · have b1 := gh.2.1
        have b2 := gh.2.2
        have ee : (40000000 : Nat) < 10 ^ 200 := by decide +kernel
        refine ⟨Nat.lt_of_le_of_lt (show (e.hi.1 + e.hi.2).natAbs ≤ 40000000 from ?_) ee, fe.2.2.2.2⟩
        have b1' : e.hi.1.natAbs ≤ 20000000 := b1
        have b2' : e.hi.2.natAbs ≤ 20000000 := b2
        omega
      · exact ⟨_, rfl, Nat.le_of_ble_eq_true rfl, fun p np => fin H6 _ _ "intervals" k6 S6 e6 E6 f6 (.inr ⟨by decide +kernel, bent2 g he⟩) p np⟩
    refine ⟨_, rfl, rfl, _, rfl, ite2 (fun c => ?_) (fun c3 => ?_)⟩
    · -- way 3: not a fraction
      refine ⟨_, rfl, Nat.le_of_ble_eq_true rfl, fun t1 m1 => ⟨Nat.le_of_ble_eq_true rfl, fun t2 m2 => ⟨_, rfl, Nat.le_of_ble_eq_true rfl, fun t3 m3 => ⟨Nat.le_of_ble_eq_true rfl, fun t4 m4 => ⟨_, rfl, Nat.le_of_ble_eq_true rfl, fun t5 m5 => ⟨Nat.le_of_ble_eq_true rfl, fun c1 m6 => ?_⟩⟩⟩⟩⟩⟩
      have s1 := same_new (o := .tup [.int 2, .int 4]) m1
      have s2 := same_new (o := .tup [.int 1, .int 0]) m2
      have s3 := same_new (o := .tup [.int 1, .int (-1)]) m3
      have s4 := same_new (o := .tup [.int 0, .int 2]) m4
      have s5 := same_new (o := .tup [.int 3, .int (-3)]) m5
      have s6 := same_new (o := .lst [.ref t1, .ref t2, .ref t3, .ref t4, .ref t5]) m6
      have S4 := (((((S3.upd_new (o := .tup [.int 2, .int 4]) m1).upd_new (o := .tup [.int 1, .int 0]) m2).upd_new (o := .tup [.int 1, .int (-1)]) m3).upd_new (o := .tup [.int 0, .int 2]) m4).upd_new (o := .tup [.int 3, .int (-3)]) m5)
      refine ⟨a, l, c1, _, rfl, S4.upd_new m6, Src.ne_new S4 m6, SqL.of upd_same, by simp, by simp, fun H4 v B4 S4' hvm => ?_⟩
      have s16 := ((((s1.trans s2).trans s3).trans s4).trans s5).trans s6
      have k34 : Keep a H3 H4 := (Keep.of s16).trans B4.keep
      have S46 := S4.upd_new (o := .lst [.ref t1, .ref t2, .ref t3, .ref t4, .ref t5]) m6
      obtain ⟨p, hp, hv8⟩ : ∃ p ∈ badFr, PrV K H4 v p := by
        simp only [List.mem_cons, List.not_mem_nil, or_false] at hvm
        rcases hvm with z | z | z | z | z
        · exact ⟨(2, 4), by decide +kernel, PrV.keep (K := K) ⟨t1, z, SqT.of (s6 _ _ (s5 _ _ (s4 _ _ (s3 _ _ (s2 _ _ upd_same)))))⟩ B4.keep S46⟩
        · exact ⟨(1, 0), by decide +kernel, PrV.keep (K := K) ⟨t2, z, SqT.of (s6 _ _ (s5 _ _ (s4 _ _ (s3 _ _ upd_same))))⟩ B4.keep S46⟩
        · exact ⟨(1, -1), by decide +kernel, PrV.keep (K := K) ⟨t3, z, SqT.of (s6 _ _ (s5 _ _ (s4 _ _ upd_same)))⟩ B4.keep S46⟩
        · exact ⟨(0, 2), by decide +kernel, PrV.keep (K := K) ⟨t4, z, SqT.of (s6 _ _ (s5 _ _ upd_same))⟩ B4.keep S46⟩
        · exact ⟨(3, -3), by decide +kernel, PrV.keep (K := K) ⟨t5, z, SqT.of (s6 _ _ upd_same)⟩ B4.keep S46⟩
      obtain ⟨p1, p2, p3⟩ := badFr_ok p hp
      have fp := small_fit p2 p3
      have pl4 := pl.keep k34 S3
      have ph4 := ph.keep k34 S3
      have e4 := k34 _ _ nea e3
      have k4 := k3.trans k34
      refine ⟨_, rfl, _, rfl, _, rfl, _, rfl, Nat.le_of_ble_eq_true rfl, fun u1 o1 => ⟨_, rfl, _, rfl, _, rfl, Nat.le_of_ble_eq_true rfl, fun u2 o2 => ⟨_, rfl, _, rfl, Nat.le_of_ble_eq_true rfl, fun u3 o3 => ⟨Nat.le_of_ble_eq_true rfl, fun c2 o4 => ?_⟩⟩⟩⟩
      have z1 := same_new (o := .tup [.str e.name, v, hv]) o1
      have z2 := same_new (o := .tup [.str e.name, lv, v]) o2
      have z3 := same_new (o := .tup [.str "A", lv, v]) o3
      have z4 := same_new (o := .lst [.ref u1, .ref u2, .ref u3]) o4
      have S5 := ((S4'.upd_new (o := .tup [.str e.name, v, hv]) o1).upd_new (o := .tup [.str e.name, lv, v]) o2).upd_new (o := .tup [.str "A", lv, v]) o3
      have S56 := S5.upd_new (o := .lst [.ref u1, .ref u2, .ref u3]) o4
      have z14 := ((z1.trans z2).trans z3).trans z4
      refine ⟨a, l, c2, _, rfl, S56, Src.ne_new S5 o4, SqL.of upd_same, by simp, by simp, fun H5 v2 B5 S5' hvm2 => ?_⟩
      have k45 : Keep a H4 H5 := (Keep.of z14).trans B5.keep
      have pl5 := pl4.keep k45 S4'
      have ph5 := ph4.keep k45 S4'
      have pv5 := hv8.keep k45 S4'
      have nl5 := NL.keep B5.keep S56
      obtain ⟨e', f5, v5, c5⟩ : ∃ e' : Ent, FitE e' ∧ EntV K H5 v2 e' ∧ (isFr e'.lo = false ∨ isFr e'.hi = false) := by
        simp only [List.mem_cons, List.not_mem_nil, or_false] at hvm2
        rcases hvm2 with z | z | z
        · exact ⟨⟨e.name, p, e.hi⟩, ⟨fe.1, fe.2.1, fp, fe.2.2.2⟩, ⟨u1, v, hv, z, sqT_nl nl5 (SqT.of (z4 _ _ (z3 _ _ (z2 _ _ upd_same)))), pv5, ph5⟩, .inl p1⟩
        · exact ⟨⟨e.name, e.lo, p⟩, ⟨fe.1, fe.2.1, fe.2.2.1, fp⟩, ⟨u2, lv, v, z, sqT_nl nl5 (SqT.of (z4 _ _ (z3 _ _ upd_same))), pl5, pv5⟩, .inr p1⟩
        · exact ⟨⟨"A", e.lo, p⟩, ⟨(badNames_ok "A" (by decide +kernel)).2.1, (badNames_ok "A" (by decide +kernel)).2.2, fe.2.2.1, fp⟩, ⟨u3, lv, v, z, sqT_nl nl5 (SqT.of (z4 _ _ upd_same)), pl5, pv5⟩, .inr p1⟩
      refine putE _ v2 e' es _ _ (k4.trans k45) S5' (k45 _ _ nea e4) v5 f5 rfl rfl fun H6 k6 S6 e6 E6 f6 _ => ?_
      exact ⟨_, rfl, Nat.le_of_ble_eq_true rfl, fun p np => fin H6 _ _ "fraction" k6 S6 e6 E6 f6 (.inr ⟨by decide +kernel, bent3 g he c5⟩) p np⟩
    refine ⟨_, rfl, rfl, _, rfl, ite2 (fun c => ?_) (fun c4 => ?_)⟩
    · -- way 4: the wrong order
      refine ⟨_, rfl, _, rfl, Nat.le_of_ble_eq_true rfl, fun b nb => ?_⟩
      have sb := same_new (o := .tup [.str "zz", lv, hv]) nb
      refine putE _ (.ref b) ⟨"zz", e.lo, e.hi⟩ es _ _ (k3.trans (Keep.of sb)) (S3.upd_new nb) (sb _ _ e3) ⟨b, lv, hv, rfl, SqT.of upd_same, pl.same sb, ph.same sb⟩ ⟨zFit.1, zFit.2.1, fe.2.2⟩ rfl rfl fun H6 k6 S6 e6 E6 f6 n6 => ?_
      refine ⟨_, rfl, .inl ⟨rfl, _, SqL.of e6⟩, _, rfl, _, rfl, Nat.le_of_ble_eq_true rfl, fun d nd => ?_⟩
      have sd := same_new (o := .tup [.str "zy", lv, hv]) nd
      refine ⟨en, _, _, rfl, rfl, sd _ _ e6, small1000 (by rw [List.length_set]; omega), ?_⟩
      have np := NL.put (o := .lst (xs.set i (.ref b) ++ [.ref d])) (sd _ _ e6)
      have n7 := (NL.keep (Keep.of sd) S6).trans np
      have plz : PrV K _ lv e.lo := (pl.same sb).nl (n6.trans n7)
      have phz : PrV K _ hv e.hi := (ph.same sb).nl (n6.trans n7)
      refine ⟨_, rfl, Nat.le_of_ble_eq_true rfl, fun p np' => fin _ _ (es.set i ⟨"zz", e.lo, e.hi⟩ ++ [⟨"zy", e.lo, e.hi⟩]) "intervals" (fun x o nx z => ?_) ((S6.upd_new nd).put nea nel) upd_same ?_ ?_ (.inr ⟨by decide +kernel, bent4 g he⟩) p np'⟩
      · rw [upd_ne (ne_of_none z neH)]
        exact sd _ _ (k6 _ _ nx z)
      · exact pair_app (ents_nl n7 E6) (.cons ⟨d, lv, hv, rfl, sqT_nl np (SqT.of upd_same), plz, phz⟩ .nil)
      · intro x hx
        rcases List.mem_append.mp hx with hx | hx
        · exact f6 x hx
        · rw [List.mem_singleton.mp hx]
          exact ⟨zFit.2.2.1, zFit.2.2.2, fe.2.2⟩
    refine ⟨_, rfl, rfl, _, rfl, ite2 (fun c => ?_) (fun c5 => ?_)⟩
    · -- way 5: too many
      refine ⟨_, rfl, letters25, rfl, fun D nD => lc_text (x := letters25) (fun j H' => Same H3 H' ∧ ∃ ys, H' D = some (.lst ys) ∧ Ents K H' ys ((letters25.cps.toList.take j).map fun c => ⟨⟨#[c]⟩, e.lo, e.hi⟩)) ⟨same_new nD, [], upd_same, .nil⟩ (fun j c H' hc h => ?_) (fun H' h => ?_)⟩
      · obtain ⟨sm, ys, hD, hY⟩ := h
        have hy : ys.length ≤ 25 := by
          have := Paired.length hY
          rw [List.length_map, List.length_take, letters25_ok.1] at this
          omega
        have hj : j < 25 := by
          have := (List.getElem?_eq_some_iff.mp hc).1
          rw [letters25_ok.1] at this
          exact this
        refine ⟨rfl, ?_⟩
        refine ⟨_, rfl, _, rfl, _, rfl, Nat.le_of_ble_eq_true rfl, fun b nb => ?_⟩
        have sb := same_new (o := .tup [.str ⟨#[c]⟩, lv, hv]) nb
        refine ⟨ys, sb _ _ hD, small1000 (by omega), same_upd (sm.trans sb) nD, _, upd_same, ?_⟩
        have np := NL.put (o := .lst (ys ++ [.ref b])) (sb _ _ hD)
        have n2 : NL H' (upd (upd H' b (.tup [.str ⟨#[c]⟩, lv, hv])) D (.lst (ys ++ [.ref b]))) := NL.trans (fun x o n z => sb _ _ z) np
        rw [List.take_add_one, hc, List.map_append]
        exact pair_app (ents_nl n2 hY) (.cons ⟨b, lv, hv, rfl, sqT_nl np (SqT.of upd_same), (pl.same sm).nl n2, (ph.same sm).nl n2⟩ .nil)
      · obtain ⟨sm, ys, hD, hY⟩ := h
        refine ⟨Nat.le_of_ble_eq_true rfl, fun p np => ?_⟩
        have sp := same_new (o := .tup [.ref D, .str "intervals"]) np
        have nDa : D ≠ a := Src.ne_new S3 nD
        have nDH : H D = none := by
          cases z : H D with
          | none => rfl
          | some o => exact absurd ((k3 _ _ nDa z).symm.trans nD) (by simp)
        refine q _ p D ys _ "intervals" ((k3.trans (Keep.of sm)).trans (Keep.of sp)) ((S3.extNS sm).extNS sp) upd_same nDH nDa (sp _ _ hD) (hY.same sp) ?_ (.inr ⟨by decide +kernel, ?_⟩)
        · intro x hx
          obtain ⟨c, hc, rfl⟩ := List.mem_map.mp hx
          exact ⟨Nat.le_of_ble_eq_true rfl, fun y hy => by
            rw [List.mem_singleton.mp hy]
            exact letters25_ok.2 c (List.mem_of_mem_take hc), fe.2.2⟩
        · unfold chkAll
          rw [if_pos (by rw [List.length_map, List.take_length, letters25_ok.1]; decide)]
    · exact ⟨_, rfl, Nat.le_of_ble_eq_true rfl, fun p np => fin H3 xs es "" k3 S3 e3 (ents_nl (NL.keep k3 S) hE) g.fit (.inl ⟨rfl, rfl⟩) p np⟩
end
end Dw
namespace Dw
open PySem PySem.Spec PyProof.Rows L2 LamX
/-! ### a call of reveal as an outcome -/
theorem Src.extN {H H1 : Hp} {a l : Addr} (h : Src H a l) (e : ExtN H H1) : Src H1 a l := by
  obtain ⟨ms, i, r, s, S⟩ := h
  exact ⟨ms, i, r, s, S.ne, e _ _ S.at_ (fun _ z => nomatch z), e _ _ S.cells (fun _ z => nomatch z), S.i0, S.r0, S.s0, S.s1⟩
theorem tabs_keep {T : List (Addr × Str)} {H H1 : Hp} {a l : Addr} (t : Tabs T H) (S : Src H a l) (k : Keep a H H1) : Tabs T H1 := by
  obtain ⟨ms, i, r, s, S⟩ := S
  intro p hp
  obtain ⟨ps, h1, h2, h3⟩ := t p hp
  refine ⟨ps, k _ _ (fun z => ?_) h1, h2, fun pos cv hc => ?_⟩
  · rw [z, S.at_] at h1
    cases h1
  · obtain ⟨c, e1, e2⟩ := h3 pos cv hc
    refine ⟨c, e1, k _ _ (fun z => ?_) e2⟩
    rw [z, S.at_] at e2
    have e2' := Option.some.inj e2
    unfold CodeO at e2'
    cases e2'
theorem extN_sqT {K : PySem.W.Frag} {H H' : Hp} {t : Addr} {xs : List V} (k : ExtN H H') (h : SqT K H t xs) : SqT K H' t xs := by
  rcases h with (h | ⟨o, h⟩) | h
  · exact .inl (.inl (k _ _ h (fun _ z => nomatch z)))
  · exact .inl (.inr ⟨o, k _ _ h (fun _ z => nomatch z)⟩)
  · exact .inr h
theorem extN_sqL {K : PySem.W.Frag} {H H' : Hp} {t : Addr} {xs : List V} (k : ExtN H H') (h : SqL K H t xs) : SqL K H' t xs := by
  rcases h with (h | ⟨o, h⟩) | h
  · exact .inl (.inl (k _ _ h (fun _ z => nomatch z)))
  · exact .inl (.inr ⟨o, k _ _ h (fun _ z => nomatch z)⟩)
  · exact .inr h
theorem extN_prv {K : PySem.W.Frag} {H H' : Hp} {v : V} {p : Fr} (k : ExtN H H') (h : PrV K H v p) : PrV K H' v p := by
  obtain ⟨t, rfl, h⟩ := h
  exact ⟨t, rfl, extN_sqT k h⟩
theorem extN_ents {K : PySem.W.Frag} {H H' : Hp} (k : ExtN H H') : ∀ {xs : List V} {es : List Ent}, Ents K H xs es → Ents K H' xs es
  | _, _, .nil => .nil
  | _, _, .cons ⟨t, l, u, h1, h2, h3, h4⟩ r => .cons ⟨t, l, u, h1, extN_sqT k h2, extN_prv k h3, extN_prv k h4⟩ (extN_ents k r)
theorem extN_trans' {H H1 H2 : Hp} (x : ExtN H H1) (y : ExtN H1 H2) : ExtN H H2 := fun b o h n => y b o (x b o h n) n
theorem extN_keep {H H1 : Hp} {a : Addr} (x : ExtN H H1) : ∀ b o, b ≠ a → H b = some o → (∀ ps, o ≠ .tbl ps) → H1 b = some o := fun b o _ h n => x b o h n
/-- all but the source and the tables stay -/
def KeepN (a : Addr) (H H' : Hp) : Prop := ∀ b o, b ≠ a → H b = some o → (∀ ps, o ≠ .tbl ps) → H' b = some o
theorem KeepN.trans {a : Addr} {H H1 H2 : Hp} (x : KeepN a H H1) (y : KeepN a H1 H2) : KeepN a H H2 := fun b o nb h n => y b o nb (x b o nb h n) n
theorem KeepN.of {a : Addr} {H H1 : Hp} (x : Keep a H H1) : KeepN a H H1 := fun b o nb h _ => x b o nb h
theorem KeepN.ext {a : Addr} {H H1 : Hp} (x : ExtN H H1) : KeepN a H H1 := fun b o _ h n => x b o h n
theorem KeepN.same {a : Addr} {H H1 : Hp} (x : Same H H1) : KeepN a H H1 := fun b o _ h _ => x b o h
/-- an error class of ours -/
structure XC (K : PySem.W.Frag) (CQ C : Addr) : Prop where
  xf : XfC K C
  nf : PySem.W.findIn K (.ref C) "code" = some none
  ex : PySem.W.exmOne K (.ref C) (.ref CQ) = some true
/-- what the outcome of reveal is -/
def OutR (K : PySem.W.Frag) (es : List Ent) (H1 H' : Hp) (v : V) (code : Str) : Prop := (chkAll es = none ∧ code = "" ∧ ∃ q ys, v = .ref q ∧ H1 q = none ∧ H' q = some (.lst ys) ∧ Ents K H' ys es) ∨ (chkAll es = some code ∧ v = .non)
theorem rev_tail {K : PySem.W.Frag} {CQ CN CI CV : Addr} (x1 : XC K CQ CI) (x2 : XC K CQ CV) {σ : L2.St} {H1 : Hp} {Q : VK} {a : Addr} {xs : List V} {es : List Ent} (hS : SqL K H1 a xs) (hE : Ents K H1 xs es) (fit : ∀ e ∈ es, FitE e)
    (kq : ∀ H' p v code, Same H1 H' → H1 p = none → H' p = some (.tup [v, .str code]) → OutR K es H1 H' v code → Q (.ref p) H') :
    tCons tDNewK (tCons (tLst tNil) tNil) σ H1 (fun ws H2 => spRev0 K CI CV ((.ref a :: ws) ++ []) H2 (fun v H' => ∀ p, H' p = none → Q (.ref p) (upd H' p (.tup [v, .str ""]))) (EOut K CQ CN Q)) := by
  intro d nd
  refine ⟨Nat.le_of_ble_eq_true rfl, fun n nn => ?_⟩
  have s1 := same_new (o := .dK []) nd
  have s2 := same_new (o := .lst []) nn
  have s12 := s1.trans s2
  refine ⟨a, n, .ref d, xs, es, rfl, ?_, hE.same s12, fit, SqL.of upd_same, fun c H' p ys s np e1 e2 t nt => ?_, fun code c x H' s nx e1 => ?_⟩
  · rcases hS with (h | ⟨o, h⟩) | h
    · exact .inl (.inl (s12 _ _ h))
    · exact .inl (.inr ⟨o, s12 _ _ h⟩)
    · exact .inr h
  · have st := same_new (o := .tup [.ref p, .str ""]) nt
    refine kq _ t (.ref p) "" ((s12.trans s).trans st) ((s12.trans s).free nt) upd_same (.inl ⟨c, rfl, p, ys, rfl, s12.free np, st _ _ e1, e2.same st⟩)
  · have hx : XC K CQ (clsC CI CV code) := by
      unfold clsC
      split
      · exact x1
      · exact x2
    refine ⟨_, x, _, .str code, rfl, rfl, e1, rfl, hx.xf, hx.nf, .inl hx.ex, fun t nt => ?_⟩
    have st := same_new (o := .tup [.non, .str code]) nt
    exact kq _ t .non code ((s12.trans s).trans st) ((s12.trans s).free nt) upd_same (.inr ⟨c, rfl⟩)
theorem out_var {K : PySem.W.Frag} {CQ CN CI CV : Addr} (x1 : XC K CQ CI) (x2 : XC K CQ CV) {i : Nat} {σ : L2.St} {H1 : Hp} {Q : VK} {a : Addr} {xs : List V} {es : List Ent} (hv : σ[i]? = some (some (.ref a))) (hS : SqL K H1 a xs) (hE : Ents K H1 xs es) (fit : ∀ e ∈ es, FitE e)
    (kq : ∀ H' p v code, Same H1 H' → H1 p = none → H' p = some (.tup [v, .str code]) → OutR K es H1 H' v code → Q (.ref p) H') :
    TOut K CQ CN (fun E H' Q' => tCall (spRev0 K CI CV) [] E (tCons (tVar i) (tCons tDNewK (tCons (tLst tNil) tNil))) σ H' Q') H1 Q := ⟨_, hv, rev_tail (Q := Q) x1 x2 hS hE fit kq⟩
theorem pair_rev {α β : Type} {F : α → β → Prop} : ∀ {l : List α} {m : List β}, Paired F l m → Paired F l.reverse m.reverse
  | _, _, .nil => .nil
  | _, _, .cons r t => by
    rw [List.reverse_cons, List.reverse_cons]
    exact pair_app (pair_rev t) (.cons r .nil)
theorem OutR.back {K : PySem.W.Frag} {es : List Ent} {H0 H1 H' : Hp} {v : V} {code : Str} (s : Same H0 H1) (h : OutR K es H1 H' v code) : OutR K es H0 H' v code := by
  rcases h with ⟨h1, h2, q, ys, h3, h4, h5⟩ | h
  · exact .inl ⟨h1, h2, q, ys, h3, s.free h4, h5⟩
  · exact .inr h
theorem out_revL {K : PySem.W.Frag} {CQ CN CI CV : Addr} (x1 : XC K CQ CI) (x2 : XC K CQ CV) {i : Nat} {σ : L2.St} {H1 : Hp} {Q : VK} {a : Addr} {xs : List V} {es : List Ent} (hv : σ[i]? = some (some (.ref a))) (hS : SqL K H1 a xs) (hE : Ents K H1 xs es) (fit : ∀ e ∈ es, FitE e)
    (kq : ∀ H' p v code, Same H1 H' → H1 p = none → H' p = some (.tup [v, .str code]) → OutR K es.reverse H1 H' v code → Q (.ref p) H') :
    TOut K CQ CN (fun E H' Q' => tCall (spRev0 K CI CV) [] E (tCons (tRevL K (tVar i)) (tCons tDNewK (tCons (tLst tNil) tNil))) σ H' Q') H1 Q := by
  refine ⟨_, hv, a, xs, rfl, hS, fun p np => ?_⟩
  have sp := same_new (o := .lst xs.reverse) np
  exact rev_tail (Q := Q) x1 x2 (SqL.of upd_same) (pair_rev (hE.same sp)) (fun e he => fit e (List.mem_reverse.mp he)) fun H' t v code s nt et oR => kq H' t v code (sp.trans s) (sp.free nt) et (oR.back sp)
end Dw
namespace Dw
open PySem PySem.Spec PyProof.Rows L2 LamX
abbrev sTwo : Stmt := topS 40
abbrev nTwo : List Str := ["_law_source_here", "_law_bad", "_law_first", "_law_codes", "_law_rows"]
theorem scTwo : FnScope nTwo ["_law_source_here"] (defScope sTwo) := ⟨rfl, rfl, rfl, by decide +kernel, rfl, by decide +kernel, by decide +kernel⟩
abbrev qTwo : Str := (envOfC "_law_two_defects" (defScope sTwo) 0 0 .none).qual ++ "<lambda>"
/-! ### _law_two_defects -/
def bads2 : List Fr := [(2, 4), (1, 0), (3, -1)]
def firsts2 : List Ent := [⟨"A", (0, 1), (1, 1)⟩, ⟨"", (0, 1), (1, 1)⟩, ⟨"a", (2, 1), (1, 1)⟩]
theorem two_ok : ∀ p ∈ bads2, ∀ e ∈ firsts2, chkAll [e, ⟨"b", (0, 1), p⟩] = some ("intervals" : Str) ∧ chkAll [⟨"b", (0, 1), p⟩, e] = some ("fraction" : Str) := by
  intro p hp e he
  simp only [bads2, firsts2, List.mem_cons, List.not_mem_nil, or_false] at hp he
  rcases hp with rfl | rfl | rfl <;> rcases he with rfl | rfl | rfl <;> decide +kernel
theorem two_fit : (∀ p ∈ bads2, FitF p) ∧ (∀ e ∈ firsts2, FitE e) := by
  have s : ∀ n ∈ (["A", "", "a"] : List Str), n.length ≤ 50 ∧ ∀ c ∈ n.cps.toList, c < 1114112 := by decide +kernel
  refine ⟨fun p hp => ?_, fun e he => ?_⟩
  · simp only [bads2, List.mem_cons, List.not_mem_nil, or_false] at hp
    rcases hp with rfl | rfl | rfl <;> exact small_fit (by decide) (by decide)
  · simp only [firsts2, List.mem_cons, List.not_mem_nil, or_false] at he
    rcases he with rfl | rfl | rfl
    · exact ⟨(s "A" (by decide +kernel)).1, (s "A" (by decide +kernel)).2, small_fit (by decide) (by decide), small_fit (by decide) (by decide)⟩
    · exact ⟨(s "" (by decide +kernel)).1, (s "" (by decide +kernel)).2, small_fit (by decide) (by decide), small_fit (by decide) (by decide)⟩
    · exact ⟨(s "a" (by decide +kernel)).1, (s "a" (by decide +kernel)).2, small_fit (by decide) (by decide), small_fit (by decide) (by decide)⟩
theorem b_fit {p : Fr} (h : FitF p) : FitE ⟨"b", (0, 1), p⟩ := by
  have s : ("b" : Str).length ≤ 50 ∧ ∀ c ∈ ("b" : Str).cps.toList, c < 1114112 := by decide +kernel
  exact ⟨s.1, s.2, small_fit (p := (0, 1)) (by decide) (by decide), h⟩
section
variable {P : Program} {w : World} {K : PySem.W.Frag} {mg : Str → Option Value} {base : Heap}
/-- _law_outcome as it stands -/
def OutAt (K : PySem.W.Frag) (mg : Str → Option Value) (g : Addr) : Prop := ∃ (oc : Value) (od : Option Addr) (kV doc pm : Value) (an : Option Addr) (cdv ct : Value) (osl : Array (Option Value)),
  mg "_law_outcome" = some (.ref g) ∧ PySem.W.keepIn K (.ref g) = true ∧ K.lookup g = some ⟨oc, od, .func (PySem.W.fnOf "_law_outcome" "_law_outcome" (defArgs sOut) (defBody sOut) (defScope sOut) .none kV doc pm an cdv ct), osl⟩ ∧ PySem.W.codeIn K cdv "_law_outcome" = true ∧
    L2.Binds K (PySem.W.fnOf "_law_outcome" "_law_outcome" (defArgs sOut) (defBody sOut) (defScope sOut) .none kV doc pm an cdv ct) ["_law_call"] []
def spTwo (K : PySem.W.Frag) (tab : Addr) : Sp := fun vs H Q _ => ∃ (a l : Addr), vs = [.ref a] ∧ Src H a l ∧ Tabs [(tab, qTwo)] H ∧ ∀ H', KeepN a H H' → Q (.bl true) H'
theorem ok_two {CQ CN CI CV fC fO fR fT c tab : Addr} {fdC fdR : FuncData} {oc : Value} {od : Option Addr} {kV doc pm ct : Value} {an : Option Addr} {osl : Array (Option Value)} (O : OutAt K mg fO) (gQ : mg "QueryError" = some (.ref CQ)) (gN : mg "NotFound" = some (.ref CN)) (x1 : XC K CQ CI) (x2 : XC K CQ CV)
    (GC : FnOk P w K mg base CX0 2 fC fdC ["_law_source_here", "_law_chosen"] (spCho K)) (gC : mg "_law_choice" = some (.ref fC)) (kC : PySem.W.keepIn K (.ref fC) = true) (bC : L2.Binds K fdC ["_law_source_here", "_law_chosen"] [])
    (GR : FnOk P w K mg base (L2.CX P w) 6 fR fdR ["intervals", "values", "names"] (spRev0 K CI CV)) (gR : mg "reveal" = some (.ref fR)) (kR : PySem.W.keepIn K (.ref fR) = true) (bR : L2.Binds K fdR ["intervals", "values", "names"] [])
    (lk : K.lookup fT = some ⟨oc, od, .func (PySem.W.fnOf "_law_two_defects" "_law_two_defects" (defArgs sTwo) (defBody sTwo) (defScope sTwo) .none kV doc pm an (.ref c) ct), osl⟩) (hcd : PySem.W.codeIn K (.ref c) "_law_two_defects" = true) (TB : LamX.TabB base mg c tab) :
    FnOk P w K mg base CX0 9 fT (PySem.W.fnOf "_law_two_defects" "_law_two_defects" (defArgs sTwo) (defBody sTwo) (defScope sTwo) .none kV doc pm an (.ref c) ct) ["_law_source_here"] (spTwo K tab) := by
  obtain ⟨oc', od', kV', doc', pm', an', cdv', ct', osl', gO, kO, lkO, cO, bO⟩ := O
  refine fn_of lk hcd scTwo (fun vs H Q E h => ?_) (fun A outer s H vs Q E hr h => ?_)
  · obtain ⟨a, l, rfl, _⟩ := h
    rfl
  · obtain ⟨a, l, rfl, S, tabs, q⟩ := h
    have hr2 : Room 2 _ := hr.mono (by decide)
    refine ⟨_, PSs.nox (pss_cons (ps_set (i := 1) scTwo.nd rfl (.inl rfl) (pe_call GC hr2 (by rfl) gC kC bC .nil pass0 (pa_cons (pv 0) (pa_cons (pe_lst (pa_cons (pe_tup (pa_cons pe_int (pa_cons pe_int pa_nil))) (pa_cons (pe_tup (pa_cons pe_int (pa_cons pe_int pa_nil))) (pa_cons (pe_tup (pa_cons pe_int (pa_cons (pe_un un_neg pe_int) pa_nil))) pa_nil)))) pa_nil))))
      (pss_cons (ps_set (i := 2) scTwo.nd rfl (.inl rfl) (pe_call GC hr2 (by rfl) gC kC bC .nil pass0 (pa_cons (pv 0) (pa_cons (pe_lst (pa_cons (pe_tup (pa_cons pe_str (pa_cons (pe_tup (pa_cons pe_int (pa_cons pe_int pa_nil))) (pa_cons (pe_tup (pa_cons pe_int (pa_cons pe_int pa_nil))) pa_nil))))
        (pa_cons (pe_tup (pa_cons pe_str (pa_cons (pe_tup (pa_cons pe_int (pa_cons pe_int pa_nil))) (pa_cons (pe_tup (pa_cons pe_int (pa_cons pe_int pa_nil))) pa_nil)))) (pa_cons (pe_tup (pa_cons pe_str (pa_cons (pe_tup (pa_cons pe_int (pa_cons pe_int pa_nil))) (pa_cons (pe_tup (pa_cons pe_int (pa_cons pe_int pa_nil))) pa_nil)))) pa_nil)))) pa_nil))))
      (pss_cons (ps_set (i := 4) scTwo.nd rfl (.inr rfl) (pe_lst (pa_cons (pv 2) (pa_cons (pe_tup (pa_cons pe_str (pa_cons (pe_tup (pa_cons pe_int (pa_cons pe_int pa_nil))) (pa_cons (pv 1) pa_nil)))) pa_nil))))
      (pss_cons (ps_set (i := 3) scTwo.nd rfl (.inl rfl) (pe_lst (pa_cons (pe_ix ix_tup (pe_lamS (T := [(tab, qTwo)]) (k := 6) (t := fun E => tCall (spRev0 K CI CV) [] E (tCons (tVar 4) (tCons tDNewK (tCons (tLst tNil) tNil)))) (by rfl) gO kO lkO cO bO scOut rfl (.inl rfl) (out_gives gQ gN) TB rfl (.head _) (fun p hp _ => by rw [List.mem_singleton.mp hp]; rfl) hr (lamS_by (sc := defScope sTwo) (by decide +kernel)) rfl (fun _ _ _ _ _ => rfl)
            (fun E f c A outer s H rm => pe_call GR rm (by rfl) gR kR bR .nil (passes_call (takes_of rfl rfl rfl rfl) (fun _ _ _ _ h => h)) (pa_cons (pv 4) (pa_cons pe_dnewK (pa_cons (pe_lst pa_nil) pa_nil))))) pe_int (fun _ _ => rfl)) pa_nil)))
      (pss_cons (ps_expr (pe_bm PySem.F.plainAttrs_list PySem.F.slot_list_append PySem.F.type_list_append mt_append (pv 3) (pa_cons (pe_ix ix_tup (pe_lamS (T := [(tab, qTwo)]) (k := 6) (t := fun E => tCall (spRev0 K CI CV) [] E (tCons (tRevL K (tVar 4)) (tCons tDNewK (tCons (tLst tNil) tNil)))) (by rfl) gO kO lkO cO bO scOut rfl (.inl rfl) (out_gives gQ gN) TB rfl (.head _) (fun p hp _ => by rw [List.mem_singleton.mp hp]; rfl) hr (lamS_by (sc := defScope sTwo) (by decide +kernel)) rfl (fun _ _ _ _ _ => rfl)
            (fun E f c A outer s H rm => pe_call GR rm (by rfl) gR kR bR .nil (passes_call (takes_of rfl rfl rfl rfl) (fun _ _ _ _ h => h)) (pa_cons (pe_revL (pv 4)) (pa_cons pe_dnewK (pa_cons (pe_lst pa_nil) pa_nil))))) pe_int (fun _ _ => rfl)) pa_nil)))
      (pss_one (ps_ret (pe_cmpR (op_eqD hr.units) (pv 3) (pe_lst (pa_cons pe_str (pa_cons pe_str pa_nil))) (nomark _))))))))), ?_⟩
    refine ⟨_, rfl, Nat.le_of_ble_eq_true rfl, fun t1 m1 => ⟨Nat.le_of_ble_eq_true rfl, fun t2 m2 => ⟨_, rfl, Nat.le_of_ble_eq_true rfl, fun t3 m3 => ⟨Nat.le_of_ble_eq_true rfl, fun c1 m4 => ?_⟩⟩⟩⟩
    have s1 := same_new (o := .tup [.int 2, .int 4]) m1
    have s2 := same_new (o := .tup [.int 1, .int 0]) m2
    have s3 := same_new (o := .tup [.int 3, .int (-1)]) m3
    have s4 := same_new (o := .lst [.ref t1, .ref t2, .ref t3]) m4
    have S1 := S.extNS (((s1.trans s2).trans s3).trans s4)
    refine ⟨a, l, c1, _, rfl, S1, Src.ne_new (S.extNS ((s1.trans s2).trans s3)) m4, SqL.of upd_same, by simp, by simp, fun H1 v1 B1 S1' hv1 => ?_⟩
    have k1 : Keep a H H1 := (Keep.of (((s1.trans s2).trans s3).trans s4)).trans B1.keep
    obtain ⟨p, hp, pv1⟩ : ∃ p ∈ bads2, PrV K H1 v1 p := by
      simp only [List.mem_cons, List.not_mem_nil, or_false] at hv1
      rcases hv1 with z | z | z
      · exact ⟨(2, 4), by decide +kernel, PrV.keep (K := K) ⟨t1, z, SqT.of (s4 _ _ (s3 _ _ (s2 _ _ upd_same)))⟩ B1.keep S1⟩
      · exact ⟨(1, 0), by decide +kernel, PrV.keep (K := K) ⟨t2, z, SqT.of (s4 _ _ (s3 _ _ upd_same))⟩ B1.keep S1⟩
      · exact ⟨(3, -1), by decide +kernel, PrV.keep (K := K) ⟨t3, z, SqT.of (s4 _ _ upd_same)⟩ B1.keep S1⟩
    clear hv1 B1
    refine ⟨_, rfl, Nat.le_of_ble_eq_true rfl, fun u1 n1 => ⟨Nat.le_of_ble_eq_true rfl, fun u2 n2 => ⟨Nat.le_of_ble_eq_true rfl, fun u3 n3 => ⟨Nat.le_of_ble_eq_true rfl, fun u4 n4 => ⟨Nat.le_of_ble_eq_true rfl, fun u5 n5 => ⟨Nat.le_of_ble_eq_true rfl, fun u6 n6 => ⟨Nat.le_of_ble_eq_true rfl, fun u7 n7 => ⟨Nat.le_of_ble_eq_true rfl, fun u8 n8 => ⟨Nat.le_of_ble_eq_true rfl, fun u9 n9 => ⟨Nat.le_of_ble_eq_true rfl, fun u10 n10 => ?_⟩⟩⟩⟩⟩⟩⟩⟩⟩⟩
    have z1 := same_new (o := .tup [.int 0, .int 1]) n1
    have z2 := same_new (o := .tup [.int 1, .int 1]) n2
    have z3 := same_new (o := .tup [.str "A", .ref u1, .ref u2]) n3
    have z4 := same_new (o := .tup [.int 0, .int 1]) n4
    have z5 := same_new (o := .tup [.int 1, .int 1]) n5
    have z6 := same_new (o := .tup [.str "", .ref u4, .ref u5]) n6
    have z7 := same_new (o := .tup [.int 2, .int 1]) n7
    have z8 := same_new (o := .tup [.int 1, .int 1]) n8
    have z9 := same_new (o := .tup [.str "a", .ref u7, .ref u8]) n9
    have z10 := same_new (o := .lst [.ref u3, .ref u6, .ref u9]) n10
    have S2 := S1'.extNS (((((((((z1.trans z2).trans z3).trans z4).trans z5).trans z6).trans z7).trans z8).trans z9).trans z10)
    refine ⟨a, l, u10, _, rfl, S2, Src.ne_new (S1'.extNS ((((((((z1.trans z2).trans z3).trans z4).trans z5).trans z6).trans z7).trans z8).trans z9)) n10, SqL.of upd_same, by simp, by simp, fun H2 v2 B2 S2' hv2 => ?_⟩
    have k2 : Keep a H1 H2 := (Keep.of (((((((((z1.trans z2).trans z3).trans z4).trans z5).trans z6).trans z7).trans z8).trans z9).trans z10)).trans B2.keep
    have nl2 := NL.keep B2.keep S2
    obtain ⟨e, he, ev2⟩ : ∃ e ∈ firsts2, EntV K H2 v2 e := by
      simp only [List.mem_cons, List.not_mem_nil, or_false] at hv2
      rcases hv2 with z | z | z
      · exact ⟨⟨"A", (0, 1), (1, 1)⟩, by simp [firsts2], EntV.nl nl2 ⟨u3, .ref u1, .ref u2, z, SqT.of (z10 _ _ (z9 _ _ (z8 _ _ (z7 _ _ (z6 _ _ (z5 _ _ (z4 _ _ upd_same))))))), ⟨u1, rfl, SqT.of (z10 _ _ (z9 _ _ (z8 _ _ (z7 _ _ (z6 _ _ (z5 _ _ (z4 _ _ (z3 _ _ (z2 _ _ upd_same)))))))))⟩, ⟨u2, rfl, SqT.of (z10 _ _ (z9 _ _ (z8 _ _ (z7 _ _ (z6 _ _ (z5 _ _ (z4 _ _ (z3 _ _ upd_same))))))))⟩⟩⟩
      · exact ⟨⟨"", (0, 1), (1, 1)⟩, by simp [firsts2], EntV.nl nl2 ⟨u6, .ref u4, .ref u5, z, SqT.of (z10 _ _ (z9 _ _ (z8 _ _ (z7 _ _ upd_same)))), ⟨u4, rfl, SqT.of (z10 _ _ (z9 _ _ (z8 _ _ (z7 _ _ (z6 _ _ (z5 _ _ upd_same))))))⟩, ⟨u5, rfl, SqT.of (z10 _ _ (z9 _ _ (z8 _ _ (z7 _ _ (z6 _ _ upd_same)))))⟩⟩⟩
      · exact ⟨⟨"a", (2, 1), (1, 1)⟩, by simp [firsts2], EntV.nl nl2 ⟨u9, .ref u7, .ref u8, z, SqT.of (z10 _ _ upd_same), ⟨u7, rfl, SqT.of (z10 _ _ (z9 _ _ (z8 _ _ upd_same)))⟩, ⟨u8, rfl, SqT.of (z10 _ _ (z9 _ _ upd_same))⟩⟩⟩
    have pv2 := pv1.keep k2 S1'
    have k02 : Keep a H H2 := k1.trans k2
    have tb2 := tabs_keep tabs S k02
    clear hv2 B2
    refine ⟨_, rfl, Nat.le_of_ble_eq_true rfl, fun r1 w1 => ⟨_, rfl, Nat.le_of_ble_eq_true rfl, fun r2 w2 => ⟨Nat.le_of_ble_eq_true rfl, fun rw w3 => ?_⟩⟩⟩
    have y1 := same_new (o := .tup [.int 0, .int 1]) w1
    have y2 := same_new (o := .tup [.str "b", .ref r1, v1]) w2
    have y3 := same_new (o := .lst [v2, .ref r2]) w3
    have y13 := (y1.trans y2).trans y3
    have hE3 := Paired.cons (F := EntV K _) (ev2.same y13) (.cons (F := EntV K _) (b := ⟨"b", (0, 1), p⟩) ⟨r2, .ref r1, v1, rfl, SqT.of (y3 _ _ upd_same), ⟨r1, rfl, SqT.of (y3 _ _ (y2 _ _ upd_same))⟩, pv2.same y13⟩ .nil)
    have hL3 : (upd (upd (upd H2 r1 (.tup [.int 0, .int 1])) r2 (.tup [.str "b", .ref r1, v1])) rw (.lst [v2, .ref r2])) rw = some (.lst [v2, .ref r2]) := upd_same
    have tb3 := tb2.ext y13
    have k03 : KeepN a H _ := (KeepN.of k02).trans (KeepN.same y13)
    obtain ⟨ok1, ok2⟩ := two_ok p hp e he
    have fit : ∀ x ∈ [e, ⟨"b", (0, 1), p⟩], FitE x := fun x hx => by
      simp only [List.mem_cons, List.not_mem_nil, or_false] at hx
      rcases hx with rfl | rfl
      · exact two_fit.2 _ he
      · exact b_fit (two_fit.1 _ hp)
    refine ⟨tb3, fun H4 ext tb4 => ?_⟩
    refine out_var x1 x2 rfl (SqL.of (ext _ _ hL3 (fun _ z => nomatch z))) (extN_ents ext hE3) fit fun H5 t v code s5 nt et oR => ?_
    obtain rfl : code = "intervals" := by
      rcases oR with ⟨z, _⟩ | ⟨z, _⟩
      · rw [ok1] at z
        cases z
      · rw [ok1] at z
        exact (Option.some.inj z).symm
    refine ⟨t, _, _, .str "intervals", rfl, rfl, SqT.of et, rfl, Nat.le_of_ble_eq_true rfl, fun cd ncd => ?_⟩
    have s6 := same_new (o := .lst [.str "intervals"]) ncd
    have k06 : KeepN a H _ := ((k03.trans (KeepN.ext ext)).trans (KeepN.same s5)).trans (KeepN.same s6)
    refine ⟨_, rfl, .inl ⟨rfl, _, SqL.of upd_same⟩, (tb4.ext s5).ext s6, fun H7 ext7 tb7 => ?_⟩
    have hE6 := ((extN_ents ext hE3).same s5).same s6
    have hL6 := s6 _ _ (s5 _ _ (ext _ _ hL3 (fun _ z => nomatch z)))
    refine out_revL x1 x2 rfl (SqL.of (ext7 _ _ hL6 (fun _ z => nomatch z))) (extN_ents ext7 hE6) fit fun H8 t8 v8 code8 s8 nt8 et8 oR8 => ?_
    obtain rfl : code8 = "fraction" := by
      rcases oR8 with ⟨z, _⟩ | ⟨z, _⟩
      · rw [show List.reverse [e, ⟨"b", (0, 1), p⟩] = [⟨"b", (0, 1), p⟩, e] from rfl, ok2] at z
        cases z
      · rw [show List.reverse [e, ⟨"b", (0, 1), p⟩] = [⟨"b", (0, 1), p⟩, e] from rfl, ok2] at z
        exact (Option.some.inj z).symm
    have hc8 := s8 _ _ (ext7 cd (.lst [.str "intervals"]) upd_same (fun _ z => nomatch z))
    refine ⟨t8, _, _, .str "fraction", rfl, rfl, SqT.of et8, rfl, cd, _, _, rfl, rfl, hc8, by decide, ?_⟩
    have k08 : KeepN a H H8 := (k06.trans (KeepN.ext ext7)).trans (KeepN.same s8)
    refine ⟨_, rfl, Nat.le_of_ble_eq_true rfl, fun g ng => ?_⟩
    have sg := same_new (o := .lst [.str "intervals", .str "fraction"]) ng
    refine ⟨.list [.str "intervals", .str "fraction"], .list [.str "intervals", .str "fraction"], .lst (SqL.of (sg _ _ upd_same)) (.cons (.str _) (.cons (.str _) .nil)), .lst (SqL.of upd_same) (.cons (.str _) (.cons (.str _) .nil)), by decide +kernel, by decide +kernel, ?_⟩
    rw [show PyData.eqv (.list [.str "intervals", .str "fraction"]) (.list [.str "intervals", .str "fraction"]) = true by decide +kernel]
    refine q _ fun b o nb hb nt' => sg _ _ ?_
    have nbc : b ≠ cd := fun z => by
      rw [z] at hb nb
      have := ((k03.trans (KeepN.ext ext)).trans (KeepN.same s5)) cd o nb hb nt'
      rw [ncd] at this
      cases this
    rw [upd_ne nbc]
    exact k08 b o nb hb nt'
end
end Dw
namespace Dw
open PySem PySem.Spec PyProof.Rows L2 LamX
/-! ### entries as data -/
theorem ents_dp {K : PySem.W.Frag} {H : Hp} : ∀ {xs : List V} {es : List Ent}, Ents K H xs es → DpAll K H xs (es.map entD)
  | _, _, .nil => .nil
  | _, _, .cons h r => .cons h.dp (ents_dp r)
def nmOk (es : List Ent) : Prop := ∀ e ∈ es, ∀ c ∈ e.name.cps.toList, c < 1114112
theorem lay_ents : ∀ {es : List Ent}, nmOk es → PyData.canLayAll0 (es.map entD) = true
  | [], _ => rfl
  | e :: r, h => by
    show (PyData.canLay0 (entD e) && PyData.canLayAll0 (r.map entD)) = true
    rw [lay_ents (es := r) fun x hx => h x (List.mem_cons_of_mem _ hx)]
    have z : PySem.PyData.strOk e.name = true := by
      unfold PySem.PyData.strOk
      rw [Array.all_eq_true_iff_forall_mem]
      intro c hc
      exact decide_eq_true (h e List.mem_cons_self c (Array.mem_toList_iff.mpr hc))
    show ((PySem.PyData.strOk e.name && (true && true)) && true) = true
    rw [z]
    rfl
theorem dep_ents : ∀ es : List Ent, PyData.depthAll (es.map entD) ≤ 2
  | [] => Nat.zero_le _
  | e :: r => by
    show max (PyData.depth (entD e)) (PyData.depthAll (r.map entD)) ≤ 2
    exact Nat.max_le.mpr ⟨Nat.le_refl _, dep_ents r⟩
theorem shp_ents {es : List Ent} (n : ∀ e ∈ es, FitE e) : SeqAt.shaped (.list (es.map entD)) = true := by
  have h := dep_ents es
  show (PyData.canLayAll0 (es.map entD) && decide (PyData.depthAll (es.map entD) + 1 ≤ 64)) = true
  rw [lay_ents (fun e he => (n e he).2.1), decide_eq_true (by omega)]
  rfl
theorem eqv_ent (e : Ent) : PyData.eqv (entD e) (entD e) = true := by
  show ((e.name == e.name) && (PyData.eqv (frD e.lo) (frD e.lo) && (PyData.eqv (frD e.hi) (frD e.hi) && true))) = true
  rw [eqv_fr, eqv_fr]
  simp
theorem eqv_ents : ∀ es : List Ent, PyData.eqvAll (es.map entD) (es.map entD) = true
  | [] => rfl
  | e :: r => by
    show (PyData.eqv (entD e) (entD e) && PyData.eqvAll (r.map entD) (r.map entD)) = true
    rw [eqv_ent, eqv_ents r]
    rfl
theorem eqv_entL (es : List Ent) : PyData.eqv (.list (es.map entD)) (.list (es.map entD)) = true := eqv_ents es
theorem pair_fits (a b : Int) : fits 1 (.tuple [.int a, .int b]) := by
  refine ⟨Nat.le_of_ble_eq_true rfl, fun x hx => ?_⟩
  simp only [List.mem_cons, List.not_mem_nil, or_false] at hx
  rcases hx with rfl | rfl <;> exact ⟨rfl, rfl, rfl⟩
theorem pair_same (a b : Int) : sameD 1 (.tuple [.int a, .int b]) (.tuple [.int a, .int b]) = true := by
  show (decide (2 = 2) && ([a == a, b == b].all id)) = true
  simp
theorem ent_fits (e : Ent) : fits 2 (entD e) := by
  refine ⟨Nat.le_of_ble_eq_true rfl, fun x hx => ?_⟩
  simp only [List.mem_cons, List.not_mem_nil, or_false] at hx
  rcases hx with rfl | rfl | rfl
  · exact rfl
  · exact pair_fits _ _
  · exact pair_fits _ _
theorem ent_same (e : Ent) : sameD 2 (entD e) (entD e) = true := by
  show (decide (3 = 3) && ([sameD 1 (.str e.name) (.str e.name), sameD 1 (frD e.lo) (frD e.lo), sameD 1 (frD e.hi) (frD e.hi)].all id)) = true
  have h1 : sameD 1 (frD e.lo) (frD e.lo) = true := pair_same _ _
  have h2 : sameD 1 (frD e.hi) (frD e.hi) = true := pair_same _ _
  have h3 : sameD 1 (.str e.name) (.str e.name) = true := by
    show (e.name == e.name) = true
    simp
  rw [h1, h2, h3]
  rfl
theorem ents_fits {es : List Ent} (h : es.length ≤ 1000) : fits 3 (.list (es.map entD)) := by
  refine ⟨by rw [List.length_map]; exact h, fun x hx => ?_⟩
  obtain ⟨e, _, rfl⟩ := List.mem_map.mp hx
  exact ent_fits e
theorem zip_same : ∀ es : List Ent, (List.zipWith (sameD 2) (es.map entD) (es.map entD)).all id = true
  | [] => rfl
  | e :: r => by
    show (sameD 2 (entD e) (entD e) && (List.zipWith (sameD 2) (r.map entD) (r.map entD)).all id) = true
    rw [ent_same, zip_same r]
    rfl
theorem ents_same (es : List Ent) : sameD 3 (.list (es.map entD)) (.list (es.map entD)) = true := by
  show (decide ((es.map entD).length = (es.map entD).length) && (List.zipWith (sameD 2) (es.map entD) (es.map entD)).all id) = true
  rw [zip_same, decide_eq_true rfl]
  rfl
/-! ### the long lists -/
def mkE (c : Nat) : Ent := ⟨⟨#[c]⟩, (0, 1), (1, 1)⟩
abbrev tOne : TE := tTup (tCons (tVar 13) (tCons (tTup (tCons (tC (.int 0)) (tCons (tC (.int 1)) tNil))) (tCons (tTup (tCons (tC (.int 1)) (tCons (tC (.int 1)) tNil))) tNil)))
theorem lc_long {K : PySem.W.Frag} {x : Str} {H : Hp} {Q : VK} {y0 y1 y2 y3 y4 y5 y6 y7 y9 y10 y11 y12 y13 : Option V} (hx : x.cps.toList.length ≤ 900) (kq : ∀ H' D ys, Same H H' → H D = none → H' D = some (.lst ys) → Ents K H' ys (x.cps.toList.map mkE) → Q (.ref D) H') :
    tLc (iStr (tVar 8)) (gName 13) tYes tOne (List.map (fun x => x.2) [(("_law_sign" : Str), 13)]) [y0, y1, y2, y3, y4, y5, y6, y7, some (.str x), y9, y10, y11, y12, y13] H Q := by
  refine ⟨_, rfl, x, rfl, fun D nD => lc_text (x := x) (fun j H' => Same H H' ∧ ∃ ys, H' D = some (.lst ys) ∧ Ents K H' ys ((x.cps.toList.take j).map mkE)) ⟨same_new nD, [], upd_same, .nil⟩ (fun j c H' hc h => ?_) (fun H' h => ?_)⟩
  · obtain ⟨sm, ys, hD, hY⟩ := h
    have hy : ys.length ≤ 900 := by
      have := Paired.length hY
      rw [List.length_map, List.length_take] at this
      omega
    refine ⟨rfl, ?_⟩
    refine ⟨_, rfl, Nat.le_of_ble_eq_true rfl, fun b1 n1 => ⟨Nat.le_of_ble_eq_true rfl, fun b2 n2 => ⟨Nat.le_of_ble_eq_true rfl, fun b n3 => ?_⟩⟩⟩
    have s1 := same_new (o := .tup [.int 0, .int 1]) n1
    have s2 := same_new (o := .tup [.int 1, .int 1]) n2
    have s3 := same_new (o := .tup [.str ⟨#[c]⟩, .ref b1, .ref b2]) n3
    have s13 := (s1.trans s2).trans s3
    refine ⟨ys, s13 _ _ hD, small1000 (by omega), same_upd (sm.trans s13) nD, _, upd_same, ?_⟩
    have np := NL.put (o := .lst (ys ++ [.ref b])) (s13 _ _ hD)
    rw [List.take_add_one, hc, List.map_append]
    exact pair_app (ents_nl ((NL.of s13).trans np) hY) (.cons ⟨b, .ref b1, .ref b2, rfl, sqT_nl np (SqT.of upd_same), ⟨b1, rfl, sqT_nl np (SqT.of (s3 _ _ (s2 _ _ upd_same)))⟩, ⟨b2, rfl, sqT_nl np (SqT.of (s3 _ _ upd_same))⟩⟩ .nil)
  · obtain ⟨sm, ys, hD, hY⟩ := h
    rw [List.take_length] at hY
    exact kq H' D ys sm nD hD hY
def letters24 : Str := "abcdefghijklmnopqrstuvwx"
theorem cut24 : cutS letters25 none (some 24) = letters24 := by decide +kernel
theorem letters24_ok : letters24.cps.toList.length = 24 ∧ chkAll (letters24.cps.toList.map mkE) = none ∧ ∀ c ∈ letters24.cps.toList, c < 1114112 := by decide +kernel
theorem mk_fit {c : Nat} (h : c < 1114112) : FitE (mkE c) := ⟨Nat.le_of_ble_eq_true rfl, fun y hy => by
  rw [List.mem_singleton.mp hy]
  exact h, small_fit (p := (0, 1)) (by decide) (by decide), small_fit (p := (1, 1)) (by decide) (by decide)⟩
theorem mks_fit {x : Str} (h : ∀ c ∈ x.cps.toList, c < 1114112) : ∀ e ∈ x.cps.toList.map mkE, FitE e := fun e he => by
  obtain ⟨c, hc, rfl⟩ := List.mem_map.mp he
  exact mk_fit (h c hc)
end Dw
namespace Dw
open PySem PySem.Spec PyProof.Rows L2 LamX
abbrev sLaw : Stmt := topS 41
abbrev nLaw : List Str := ["_law_script", "_law_source_here", "_law_k", "_law_intervals_here", "_law_expected", "_law_snapshot", "_law_reported", "_law_code", "_law_letters", "_law_many", "_law_found", "_law_entries", "_law_long", "_law_sign"]
theorem scLaw : FnScope nLaw ["_law_script"] (defScope sLaw) := ⟨rfl, rfl, rfl, by decide +kernel, rfl, by decide +kernel, by decide +kernel⟩
abbrev qLam : Str := (envOfC "law" (defScope sLaw) 0 0 .none).qual ++ "<lambda>"
/-! ### through two_defects; reveal that passes -/
theorem keepN_sqT {K : PySem.W.Frag} {H H' : Hp} {a l t : Addr} {xs : List V} (S : Src H a l) (k : KeepN a H H') (h : SqT K H t xs) : SqT K H' t xs := by
  obtain ⟨ms, i, r, s, S⟩ := S
  rcases h with (h | ⟨o, h⟩) | h
  · exact .inl (.inl (k _ _ (fun z => by rw [z, S.at_] at h; cases h) h (fun _ z => nomatch z)))
  · exact .inl (.inr ⟨o, k _ _ (fun z => by rw [z, S.at_] at h; cases h) h (fun _ z => nomatch z)⟩)
  · exact .inr h
theorem keepN_ents {K : PySem.W.Frag} {H H' : Hp} {a l : Addr} (S : Src H a l) (k : KeepN a H H') : ∀ {xs : List V} {es : List Ent}, Ents K H xs es → Ents K H' xs es
  | _, _, .nil => .nil
  | _, _, .cons ⟨t, l1, u, h1, h2, ⟨t1, e1, h3⟩, ⟨t2, e2, h4⟩⟩ r => .cons ⟨t, l1, u, h1, keepN_sqT S k h2, ⟨t1, e1, keepN_sqT S k h3⟩, ⟨t2, e2, keepN_sqT S k h4⟩⟩ (keepN_ents S k r)
theorem tabs_put {T : List (Addr × Str)} {H : Hp} {D : Addr} {zs ws : List V} (t : Tabs T H) (e : H D = some (.lst zs)) : Tabs T (upd H D (.lst ws)) := by
  intro p hp
  obtain ⟨ps, h1, h2, h3⟩ := t p hp
  refine ⟨ps, ?_, h2, fun pos cv hc => ?_⟩
  · rw [upd_ne (fun z => by rw [z, e] at h1; cases h1)]
    exact h1
  · obtain ⟨c, e1, e2⟩ := h3 pos cv hc
    refine ⟨c, e1, ?_⟩
    rw [upd_ne (fun z => by
      rw [z, e] at e2
      have e2' := Option.some.inj e2
      unfold CodeO at e2'
      cases e2')]
    exact e2
theorem rev_ok {K : PySem.W.Frag} {CI CV : Addr} {σ : L2.St} {H1 : Hp} {Q : VK} {E : XK} {a : Addr} {xs : List V} {es : List Ent} (hS : SqL K H1 a xs) (hE : Ents K H1 xs es) (fit : ∀ e ∈ es, FitE e) (ck : chkAll es = none)
    (kq : ∀ H' q ys, Same H1 H' → H1 q = none → H' q = some (.lst ys) → Ents K H' ys es → Q (.ref q) H') :
    tCons tDNewK (tCons (tLst tNil) tNil) σ H1 (fun ws H2 => spRev0 K CI CV ((.ref a :: ws) ++ []) H2 Q E) := by
  intro d nd
  refine ⟨Nat.le_of_ble_eq_true rfl, fun n nn => ?_⟩
  have s1 := same_new (o := .dK []) nd
  have s2 := same_new (o := .lst []) nn
  have s12 := s1.trans s2
  refine ⟨a, n, .ref d, xs, es, rfl, ?_, hE.same s12, fit, SqL.of upd_same, fun c H' p ys s np e1 e2 => kq H' p ys (s12.trans s) (s12.free np) e1 e2, fun code c => ?_⟩
  · rcases hS with (h | ⟨o, h⟩) | h
    · exact .inl (.inl (s12 _ _ h))
    · exact .inl (.inr ⟨o, s12 _ _ h⟩)
    · exact .inr h
  · rw [ck] at c
    cases c
theorem two_long : ∀ (j : Nat) (e : Ent), chkAll ((letters25.cps.toList.map mkE).set j e) = some ("intervals" : Str) := fun j e => by
  unfold chkAll
  rw [if_pos (by rw [List.length_set, List.length_map, letters25_ok.1]; decide)]
theorem seq_go {A B : TS} {D : L2.Ends} {σ : L2.St} {H : Hp} (h : A { D with nx := B D } σ H) : tSeq A B D σ H := h
theorem asg_go {te : TE} {g : TG} {D : L2.Ends} {σ : L2.St} {H : Hp} (h : te σ H fun x H1 => g x σ H1 D.nx) : tAsg te g D σ H := h
theorem c_go {v : V} {i : Nat} {D : L2.Ends} {σ : L2.St} {H : Hp} (h : D.nx (σ.set i (some v)) H) : tAsg (tC v) (gName i) D σ H := h
theorem sl_go {D : L2.Ends} {σ : L2.St} {H : Hp} (h8 : σ[8]? = some (some (.str letters25))) (h : D.nx (σ.set 8 (some (.str letters24))) H) : tAsg (tSl rSlS (tVar 8) tNoPart (tPart (tC (.int 24)))) (gName 8) D σ H :=
  ⟨_, h8, 24, rfl, letters25, rfl, Nat.le_of_ble_eq_true rfl, by rw [cut24]; exact h⟩
section
variable {P : Program} {w : World} {K : PySem.W.Frag} {mg : Str → Option Value} {base : Heap}
/-- what the top has left -/
structure Txt (P : Program) (w : World) (K : PySem.W.Frag) (mg : Str → Option Value) (base : Heap) (CQ CN CI CV fS fD fC fI fB fM fR fT tD : Addr) (fdS fdD fdC fdI fdB fdM fdR fdT : FuncData) : Prop where
  gS : mg "_law_source" = some (.ref fS)
  kS : PySem.W.keepIn K (.ref fS) = true
  bS : L2.Binds K fdS ["_law_script"] []
  GS : FnOk P w K mg base CX0 1 fS fdS ["_law_script"] (spSrc K)
  gD : mg "_law_draw" = some (.ref fD)
  kD : PySem.W.keepIn K (.ref fD) = true
  bD : L2.Binds K fdD ["_law_source_here", "_law_count"] []
  GD : FnOk P w K mg base CX0 1 fD fdD ["_law_source_here", "_law_count"] spDraw
  gC : mg "_law_choice" = some (.ref fC)
  kC : PySem.W.keepIn K (.ref fC) = true
  bC : L2.Binds K fdC ["_law_source_here", "_law_chosen"] []
  GC : FnOk P w K mg base CX0 2 fC fdC ["_law_source_here", "_law_chosen"] (spCho K)
  gI : mg "_law_intervals" = some (.ref fI)
  kI : PySem.W.keepIn K (.ref fI) = true
  bI : L2.Binds K fdI ["_law_source_here", "_law_most", "_law_spread"] []
  GI : FnOk P w K mg base CX0 5 fI fdI ["_law_source_here", "_law_most", "_law_spread"] (spIvs K)
  gB : mg "_law_bent" = some (.ref fB)
  kB : PySem.W.keepIn K (.ref fB) = true
  bB : L2.Binds K fdB ["_law_source_here", "_law_intervals_here"] []
  GB : FnOk P w K mg base CX0 3 fB fdB ["_law_source_here", "_law_intervals_here"] (spBent K)
  gM : mg "_law_same" = some (.ref fM)
  kM : PySem.W.keepIn K (.ref fM) = true
  bM : L2.Binds K fdM ["_law_found", "_law_expected"] []
  GM : FnOk P w K mg base CX0 5 fM fdM ["_law_found", "_law_expected"] (spSame K 3)
  gR : mg "reveal" = some (.ref fR)
  kR : PySem.W.keepIn K (.ref fR) = true
  bR : L2.Binds K fdR ["intervals", "values", "names"] []
  GR : FnOk P w K mg base (L2.CX P w) 6 fR fdR ["intervals", "values", "names"] (spRev0 K CI CV)
  gT : mg "_law_two_defects" = some (.ref fT)
  kT : PySem.W.keepIn K (.ref fT) = true
  bT : L2.Binds K fdT ["_law_source_here"] []
  GT : FnOk P w K mg base CX0 9 fT fdT ["_law_source_here"] (spTwo K tD)
  gQ : mg "QueryError" = some (.ref CQ)
  gN : mg "NotFound" = some (.ref CN)
  x1 : XC K CQ CI
  x2 : XC K CQ CV
  mR : mg "range" = none
  mLi : mg "list" = none
  mL : mg "len" = none
def spLaw (K : PySem.W.Frag) (tab tD : Addr) : Sp := fun vs H Q _ => ∃ (a : Addr) (ns : List Int), vs = [.ref a] ∧ SqL K H a (ns.map V.int) ∧ Tabs [(tab, qLam), (tD, qTwo)] H ∧ ∀ H', Q (.bl true) H'
theorem ok_law {CQ CN CI CV fS fD fC fI fB fM fR fT tD fO fL c tab : Addr} {fdS fdD fdC fdI fdB fdM fdR fdT : FuncData} {oc : Value} {od : Option Addr} {kV doc pm ct : Value} {an : Option Addr} {osl : Array (Option Value)} (T : Txt P w K mg base CQ CN CI CV fS fD fC fI fB fM fR fT tD fdS fdD fdC fdI fdB fdM fdR fdT) (O : OutAt K mg fO) (tne : tD ≠ tab)
    (lk : K.lookup fL = some ⟨oc, od, .func (PySem.W.fnOf "law" "law" (defArgs sLaw) (defBody sLaw) (defScope sLaw) .none kV doc pm an (.ref c) ct), osl⟩) (hcd : PySem.W.codeIn K (.ref c) "law" = true) (TB : LamX.TabB base mg c tab) :
    FnOk P w K mg base CX0 10 fL (PySem.W.fnOf "law" "law" (defArgs sLaw) (defBody sLaw) (defScope sLaw) .none kV doc pm an (.ref c) ct) ["_law_script"] (spLaw K tab tD) := by
  obtain ⟨oc', od', kV', doc', pm', an', cdv', ct', osl', gO, kO, lkO, cO, bO⟩ := O
  have one : ∀ p ∈ [(tab, qLam), (tD, qTwo)], p.1 = tab → p.2 = qLam := fun p hp e => by
    simp only [List.mem_cons, List.not_mem_nil, or_false] at hp
    rcases hp with rfl | rfl
    · rfl
    · exact absurd e tne
  refine fn_of lk hcd scLaw (fun vs H Q E h => ?_) (fun A outer s H vs Q E hr h => ?_)
  · obtain ⟨a, ns, rfl, _⟩ := h
    rfl
  · obtain ⟨a, ns, rfl, hS, tabs, q⟩ := h
    have hr8 : Room 8 _ := hr.mono (by decide)
    have hr6 : Room 6 _ := hr.mono (by decide)
    have hr5 : Room 5 _ := hr.mono (by decide)
    have hr3 : Room 3 _ := hr.mono (by decide)
    have hr2 : Room 2 _ := hr.mono (by decide)
    have hr1 : Room 1 _ := hr.mono (by decide)
    refine ⟨_, PSs.nox (pss_cons (ps_set (i := 1) scLaw.nd rfl (.inl rfl) (pe_call T.GS hr1 (by rfl) T.gS T.kS T.bS .nil pass0 (pa_cons (pv 0) pa_nil)))
      (pss_cons (ps_for PassesOwn.never rfl (pi_range1 (by rfl) T.mR (pa_cons pe_int pa_nil)) (pg_name (i := 2) scLaw.nd rfl (Or.inl rfl))
        (pss_cons (ps_set (i := 3) scLaw.nd rfl (.inl rfl) (pe_call T.GI hr5 (by rfl) T.gI T.kI T.bI .nil pass0 (pa_cons (pv 1) (pa_cons pe_int (pa_cons pe_int pa_nil)))))
        (pss_cons (ps_asg (pe_call T.GB hr3 (by rfl) T.gB T.kB T.bB .nil pass0 (pa_cons (pv 1) (pa_cons (pv 3) pa_nil))) (pg_tup rfl (pgs_cons (pg_name (i := 11) scLaw.nd rfl (Or.inr rfl)) (pgs_cons (pg_name (i := 4) scLaw.nd rfl (Or.inl rfl)) pgs_nil))))
        (pss_cons (ps_set (i := 5) scLaw.nd rfl (.inl rfl) (pe_callTy call_list_of (by rfl) T.mLi (by decide +kernel) (pa_cons (pv 11) pa_nil)))
        (C8.pss_cut (ps_asg (pe_lamS (T := [(tab, qLam), (tD, qTwo)]) (k := 6) (t := fun E => tCall (spRev0 K CI CV) [] E (tCons (tVar 11) (tCons tDNewK (tCons (tLst tNil) tNil)))) (by rfl) gO kO lkO cO bO scOut rfl (.inl rfl) (out_gives T.gQ T.gN) TB rfl (.head _) one hr8 (lamS_by (sc := defScope sLaw) (by decide +kernel)) rfl (fun _ _ _ _ _ => rfl)
            (fun E f c A outer s H rm => pe_call T.GR rm (by rfl) T.gR T.kR T.bR .nil (passes_call (takes_of rfl rfl rfl rfl) (fun _ _ _ _ h => h)) (pa_cons (pv 11) (pa_cons pe_dnewK (pa_cons (pe_lst pa_nil) pa_nil)))))
          (pg_tup rfl (pgs_cons (pg_name (i := 6) scLaw.nd rfl (Or.inl rfl)) (pgs_cons (pg_name (i := 7) scLaw.nd rfl (Or.inl rfl)) pgs_nil))))
        (pss_cons (ps_if (PW.pt (pw_or (pt_cmpR op_ne (pv 7) (pv 4) (nomark _)) (pw_or1 (pt_cmpR (op_neD hr.units) (pv 11) (pv 5) (nomark _))))) (pss_one (ps_ret pe_bl)) pss_nil)
        (pss_one (ps_if (PW.pt (pw_and (pt_cmpR op_eq (pv 7) pe_str (nomark _)) (pw_and1 (pt_not (pt_val (pe_call T.GM hr5 (by rfl) T.gM T.kM T.bM .nil pass0 (pa_cons (pv 6) (pa_cons (pv 3) pa_nil)))))))) (pss_one (ps_ret pe_bl)) pss_nil))))))))
      (pss_cons (ps_set (i := 8) scLaw.nd rfl (.inl rfl) pe_str)
      (pss_cons (ps_set (i := 12) scLaw.nd rfl (.inr rfl) (pe_lc (own := [("_law_sign", 13)]) (g := gName 13) (tt := tYes) (te := tOne) rfl scLaw.nd (pi_str (pv 8)) (blkOk_by (N := nLaw) (sc := defScope sLaw) (by decide +kernel))
            (fun _ _ _ _ _ => pg_name (i := 13) scLaw.nd rfl (Or.inl rfl)) (fun _ _ _ _ _ => pts_nil) (fun _ _ _ _ _ => pe_tup (pa_cons (pv 13) (pa_cons (pe_tup (pa_cons pe_int (pa_cons pe_int pa_nil))) (pa_cons (pe_tup (pa_cons pe_int (pa_cons pe_int pa_nil))) pa_nil))))))
      (pss_cons (ps_asg (pe_call T.GC hr2 (by rfl) T.gC T.kC T.bC .nil pass0 (pa_cons (pv 1) (pa_cons (pe_lst (pa_cons (pe_tup (pa_cons pe_str (pa_cons (pe_tup (pa_cons pe_int (pa_cons pe_int pa_nil))) (pa_cons (pe_tup (pa_cons pe_int (pa_cons pe_int pa_nil))) pa_nil))))
          (pa_cons (pe_tup (pa_cons pe_str (pa_cons (pe_tup (pa_cons pe_int (pa_cons pe_int pa_nil))) (pa_cons (pe_tup (pa_cons pe_int (pa_cons pe_int pa_nil))) pa_nil)))) pa_nil))) pa_nil))) (pg_sub (pv 12) (pe_call T.GD hr1 (by rfl) T.gD T.kD T.bD .nil pass0 (pa_cons (pv 1) (pa_cons pe_int pa_nil))) set_list))
      (pss_cons (ps_if (pt_cmpR op_ne (pe_ix ix_tup (pe_lamS (T := [(tab, qLam), (tD, qTwo)]) (k := 6) (t := fun E => tCall (spRev0 K CI CV) [] E (tCons (tVar 12) (tCons tDNewK (tCons (tLst tNil) tNil)))) (by rfl) gO kO lkO cO bO scOut rfl (.inl rfl) (out_gives T.gQ T.gN) TB rfl (.head _) one hr8 (lamS_by (sc := defScope sLaw) (by decide +kernel)) rfl (fun _ _ _ _ _ => rfl)
            (fun E f c A outer s H rm => pe_call T.GR rm (by rfl) T.gR T.kR T.bR .nil (passes_call (takes_of rfl rfl rfl rfl) (fun _ _ _ _ h => h)) (pa_cons (pv 12) (pa_cons pe_dnewK (pa_cons (pe_lst pa_nil) pa_nil))))) pe_int (fun _ _ => rfl)) pe_str (nomark _)) (pss_one (ps_ret pe_bl)) pss_nil)
      (pss_cons (ps_set (i := 8) scLaw.nd rfl (.inl rfl) (pe_slice sl_str (pv 8) po_none (po_some pe_int)))
      (pss_cons (ps_setLc (i := 9) (own := [("_law_sign", 13)]) (g := gName 13) (tt := tYes) (te := tOne) rfl scLaw.nd rfl rfl (sw_true rfl rfl rfl (by decide +kernel)) (pi_str (pv 8)) (blkOk_by (N := nLaw) (sc := defScope sLaw) (by decide +kernel))
            (fun _ _ _ _ _ => pg_name (i := 13) scLaw.nd rfl (Or.inl rfl)) (fun _ _ _ _ _ => pts_nil) (fun _ _ _ _ _ => pe_tup (pa_cons (pv 13) (pa_cons (pe_tup (pa_cons pe_int (pa_cons pe_int pa_nil))) (pa_cons (pe_tup (pa_cons pe_int (pa_cons pe_int pa_nil))) pa_nil)))))
      (pss_cons (ps_if (PW.pt (pw_or (pt_not (pt_val (pe_call T.GT hr (by rfl) T.gT T.kT T.bT .nil pass0 (pa_cons (pv 1) pa_nil)))) (pw_or1 (pt_cmpR (op_neD hr.units) (pe_call T.GR hr6 (by rfl) T.gR T.kR T.bR .nil passL (pa_cons (pe_lst pa_nil) (pa_cons pe_dnewK (pa_cons (pe_lst pa_nil) pa_nil)))) (pe_lst pa_nil) (nomark _))))) (pss_one (ps_ret pe_bl)) pss_nil)
      (pss_cons (ps_set (i := 10) scLaw.nd rfl (.inl rfl) (pe_call T.GR hr6 (by rfl) T.gR T.kR T.bR .nil passL (pa_cons (pv 9) (pa_cons pe_dnewK (pa_cons (pe_lst pa_nil) pa_nil)))))
      (pss_cons (ps_if (pt_not (pt_val (pe_call T.GM hr5 (by rfl) T.gM T.kM T.bM .nil pass0 (pa_cons (pv 10) (pa_cons (pv 9) pa_nil))))) (pss_one (ps_ret pe_bl)) pss_nil)
      (pss_cons (ps_expr (pe_bm0 PySem.F.plainAttrs_list PySem.F.slot_list_clear PySem.F.type_list_clear mt_clear (pv 10)))
      (pss_one (ps_ret (pe_and (pe_cmpR op_eq (pe_callB call_len_seq (by rfl) T.mL PySem.boot_len (pa_cons (pv 9) pa_nil)) pe_int (nomark _)) (pe_one (pe_call T.GM hr5 (by rfl) T.gM T.kM T.bM .nil pass0 (pa_cons (pe_call T.GR hr6 (by rfl) T.gR T.kR T.bR .nil passL (pa_cons (pv 9) (pa_cons pe_dnewK (pa_cons (pe_lst pa_nil) pa_nil)))) (pa_cons (pv 9) pa_nil))))))))))))))))))), ?_⟩
    refine ⟨_, rfl, a, ns, rfl, hS, fun H1 p l sm np nl S1 => ?_⟩
    have tabs1 : Tabs [(tab, qLam), (tD, qTwo)] H1 := tabs.ext sm
    refine ⟨3, rfl, by decide, by decide, for_range (lo := 0) (n := 3) (fun i σ' H' => ∃ y2 y3 y4 y5 y6 y7 y8 y9 y10 y11 y12 y13 : Option V, σ' = [some (.ref a), some (.ref p), y2, y3, y4, y5, y6, y7, y8, y9, y10, y11, y12, y13] ∧ Src H' p l ∧ Tabs [(tab, qLam), (tD, qTwo)] H')
      ⟨none, none, none, none, none, none, none, none, none, none, none, none, rfl, S1, tabs1⟩ ?_ ?_⟩
    · rintro i σ' H' hi ⟨y2, y3, y4, y5, y6, y7, y8, y9, y10, y11, y12, y13, rfl, S, tb⟩
      refine ⟨_, rfl, p, l, 5, 6, rfl, S, by decide, by decide, by decide, by decide, fun H2 ih xs es k2 S2 nih iha e2 E2 good => ?_⟩
      refine ⟨_, rfl, _, rfl, p, l, ih, xs, es, rfl, S2, iha, SqL.of e2, E2, good, fun H3 t en ys fs code k3 S3 e3 nen nea e3' E3 f3 cs => ?_⟩
      have tb3 : Tabs [(tab, qLam), (tD, qTwo)] H3 := tabs_keep (tabs_keep tb S k2) S2 k3
      have e2' := k3 _ _ iha e2
      have E2' := ents_nl (NL.keep k3 S2) E2
      refine ⟨t, _, rfl, SqT.of e3, rfl, _, _, rfl, _, _, rfl, rfl, ?_⟩
      refine ⟨_, rfl, en, ys, rfl, .inl (SqL.of e3'), fun sn nsn => ?_⟩
      have s4 := same_new (o := .lst ys) nsn
      have S4 := S3.extNS s4
      have tb4 := tb3.ext s4
      refine ⟨fun σ'' H'' => ∃ rep : V, σ'' = [some (.ref a), some (.ref p), some (.int (0 + (i : Int))), some (.ref ih), some (.str code), some (.ref sn), some rep, some (.str code), y8, y9, y10, some (.ref en), y12, y13] ∧ Src H'' p l ∧ Tabs [(tab, qLam), (tD, qTwo)] H'' ∧ H'' en = some (.lst ys) ∧ H'' sn = some (.lst ys) ∧ Ents K H'' ys fs ∧ H'' ih = some (.lst xs) ∧ Ents K H'' xs es ∧
        (code = "" → ∃ r zs, rep = .ref r ∧ H'' r = some (.lst zs) ∧ Ents K H'' zs es), ?_, ?_⟩
      · refine ⟨tb4, fun H5 ext tb5 => ?_⟩
        have nt : ∀ zs, ∀ ps, HO.lst zs ≠ .tbl ps := fun _ _ z => nomatch z
        refine out_var T.x1 T.x2 rfl (SqL.of (ext _ _ (s4 _ _ e3') (nt _))) (extN_ents ext (E3.same s4)) f3 fun H6 t6 v c6 s6 nt6 et6 oR => ?_
        have sq5 := s6 _ _ (ext _ _ (s4 _ _ e3') (nt _))
        have ss5 := s6 _ _ (ext sn _ upd_same (nt ys))
        have si5 := s6 _ _ (ext _ _ (s4 _ _ e2') (nt _))
        have E5 := (extN_ents ext (E3.same s4)).same s6
        have I5 := (extN_ents ext (E2'.same s4)).same s6
        have cc : c6 = code ∧ (code = "" → ∃ r zs, v = .ref r ∧ H6 r = some (.lst zs) ∧ Ents K H6 zs es) := by
          rcases cs with ⟨rfl, rfl⟩ | ⟨cne, ck⟩
          · rcases oR with ⟨_, h2, r, zs, h3, _, h4, h5⟩ | ⟨h1, _⟩
            · exact ⟨h2, fun _ => ⟨r, zs, h3, h4, h5⟩⟩
            · rw [good.passes] at h1
              cases h1
          · rcases oR with ⟨h1, _⟩ | ⟨h1, _⟩
            · rw [ck] at h1
              cases h1
            · rw [ck] at h1
              exact ⟨(Option.some.inj h1).symm, fun z => absurd z cne⟩
        obtain ⟨rfl, rp⟩ := cc
        exact ⟨t6, _, rfl, SqT.of et6, rfl, _, _, rfl, _, _, rfl, rfl, v, rfl, (S4.extN ext).extNS s6, tb5.ext s6, sq5, ss5, E5, si5, I5, rp⟩
      · rintro σ'' H'' ⟨rep, rfl, S7, tb7, h1, h2, h3, h4, h5, h6⟩
        refine ⟨_, rfl, _, rfl, rfl, _, rfl, iteNS rfl ?_⟩
        refine ⟨_, rfl, _, rfl, .list (fs.map entD), .list (fs.map entD), .lst (SqL.of h1) (ents_dp h3), .lst (SqL.of h2) (ents_dp h3), shp_ents f3, shp_ents f3, _, rfl, ?_⟩
        rw [eqv_entL]
        refine iteF ?_
        refine ⟨_, rfl, rfl, _, rfl, ?_⟩
        by_cases z : code = ""
        · obtain ⟨r, zs, rfl, g1, g2⟩ := h6 z
          rw [decide_eq_true (show V.str code = V.str "" by rw [z])]
          refine iteT ?_
          refine ⟨_, rfl, _, rfl, .ref r, .ref ih, .list (es.map entD), .list (es.map entD), rfl, .lst (SqL.of g1) (ents_dp g2), .lst (SqL.of h4) (ents_dp h5), ents_fits (by have := good.le; omega), fun H8 s8 => ⟨_, rfl, ?_⟩⟩
          rw [ents_same]
          exact iteF ⟨_, _, _, _, _, _, _, _, _, _, _, _, rfl, S7.extNS s8, tb7.ext s8⟩
        · rw [decide_eq_false (show ¬ V.str code = V.str "" from fun y => z (V.str.inj y))]
          exact iteF ⟨_, _, _, _, _, _, _, _, _, _, _, _, rfl, S7, tb7⟩
    · rintro σ' H' ⟨y2, y3, y4, y5, y6, y7, y8, y9, y10, y11, y12, y13, rfl, S, tb⟩
      have nt : ∀ zs, ∀ ps, HO.lst zs ≠ .tbl ps := fun _ _ z => nomatch z
      dsimp only
      refine seq_go (c_go ?_)
      dsimp only
      refine seq_go (asg_go ?_)
      refine lc_long (K := K) (x := letters25) (by rw [letters25_ok.1]; decide) fun H2 D ys s2 nD hD hE => ?_
      have nDp : D ≠ p := Src.ne_new S nD
      have nDl : D ≠ l := Src.ne_cells S nD
      have S2 := S.extNS s2
      have tb2 := tb.ext s2
      have ly : ys.length = 25 := by
        have := Paired.length hE
        rw [List.length_map, letters25_ok.1] at this
        exact this
      refine ⟨_, rfl, Nat.le_of_ble_eq_true rfl, fun u1 n1 => ⟨Nat.le_of_ble_eq_true rfl, fun u2 n2 => ⟨Nat.le_of_ble_eq_true rfl, fun u3 n3 => ⟨Nat.le_of_ble_eq_true rfl, fun u4 n4 => ⟨Nat.le_of_ble_eq_true rfl, fun u5 n5 => ⟨Nat.le_of_ble_eq_true rfl, fun u6 n6 => ⟨Nat.le_of_ble_eq_true rfl, fun u7 n7 => ?_⟩⟩⟩⟩⟩⟩⟩
      have z1 := same_new (o := .tup [.int 2, .int 4]) n1
      have z2 := same_new (o := .tup [.int 1, .int 1]) n2
      have z3 := same_new (o := .tup [.str "b", .ref u1, .ref u2]) n3
      have z4 := same_new (o := .tup [.int 0, .int 1]) n4
      have z5 := same_new (o := .tup [.int 1, .int 0]) n5
      have z6 := same_new (o := .tup [.str "b", .ref u4, .ref u5]) n6
      have z7 := same_new (o := .lst [.ref u3, .ref u6]) n7
      have S3 := S2.extNS ((((((z1.trans z2).trans z3).trans z4).trans z5).trans z6).trans z7)
      refine ⟨p, l, u7, _, rfl, S3, Src.ne_new (S2.extNS (((((z1.trans z2).trans z3).trans z4).trans z5).trans z6)) n7, SqL.of upd_same, by simp, by simp, fun H3 v B3 S3' hv => ?_⟩
      have k3 : Keep p H2 H3 := (Keep.of ((((((z1.trans z2).trans z3).trans z4).trans z5).trans z6).trans z7)).trans B3.keep
      have nl3 := NL.keep B3.keep S3
      obtain ⟨e', f3, v3⟩ : ∃ e' : Ent, FitE e' ∧ EntV K H3 v e' := by
        simp only [List.mem_cons, List.not_mem_nil, or_false] at hv
        have sb : ("b" : Str).length ≤ 50 ∧ ∀ c ∈ ("b" : Str).cps.toList, c < 1114112 := by decide +kernel
        rcases hv with z | z
        · exact ⟨⟨"b", (2, 4), (1, 1)⟩, ⟨sb.1, sb.2, small_fit (p := (2, 4)) (by decide) (by decide), small_fit (p := (1, 1)) (by decide) (by decide)⟩, EntV.nl nl3 ⟨u3, .ref u1, .ref u2, z, SqT.of (z7 _ _ (z6 _ _ (z5 _ _ (z4 _ _ upd_same)))), ⟨u1, rfl, SqT.of (z7 _ _ (z6 _ _ (z5 _ _ (z4 _ _ (z3 _ _ (z2 _ _ upd_same))))))⟩, ⟨u2, rfl, SqT.of (z7 _ _ (z6 _ _ (z5 _ _ (z4 _ _ (z3 _ _ upd_same)))))⟩⟩⟩
        · exact ⟨⟨"b", (0, 1), (1, 0)⟩, ⟨sb.1, sb.2, small_fit (p := (0, 1)) (by decide) (by decide), small_fit (p := (1, 0)) (by decide) (by decide)⟩, EntV.nl nl3 ⟨u6, .ref u4, .ref u5, z, SqT.of (z7 _ _ upd_same), ⟨u4, rfl, SqT.of (z7 _ _ (z6 _ _ (z5 _ _ upd_same)))⟩, ⟨u5, rfl, SqT.of (z7 _ _ (z6 _ _ upd_same))⟩⟩⟩
      refine ⟨_, rfl, _, rfl, p, l, 25, rfl, S3', by decide, cnt_big (by decide) (by decide), fun H4 jj B4 S4 j0 j1 => ?_⟩
      obtain ⟨j, rfl⟩ : ∃ j : Nat, jj = (j : Int) := ⟨jj.toNat, by omega⟩
      have k24 : Keep p H2 H4 := k3.trans B4.keep
      have hD4 := k24 _ _ nDp hD
      refine ⟨D, ys, _, j, rfl, rfl, hD4, ixN_nat (by omega), ?_⟩
      have np := NL.put (o := .lst (ys.set j v)) hD4
      have n5 := (NL.keep k24 S2).trans np
      have hE5 := pair_set (v3.nl ((NL.keep B4.keep S3').trans np)) j (ents_nl n5 hE)
      have fit5 := fit_set (i := j) (mks_fit letters25_ok.2) f3
      have S5 := S4.put (o := .lst (ys.set j v)) nDp nDl
      have tb5 := tabs_put (ws := ys.set j v) (tabs_keep tb2 S2 k24) hD4
      have hD5 : (upd H4 D (.lst (ys.set j v))) D = some (.lst (ys.set j v)) := upd_same
      refine ⟨tb5, fun H6 ext tb6 => ?_⟩
      refine out_var T.x1 T.x2 rfl (SqL.of (ext _ _ hD5 (nt _))) (extN_ents ext hE5) fit5 fun H7 t7 v7 c7 s7 nt7 et7 oR => ?_
      obtain rfl : c7 = "intervals" := by
        rcases oR with ⟨z, _⟩ | ⟨z, _⟩
        · rw [two_long] at z
          cases z
        · rw [two_long] at z
          exact (Option.some.inj z).symm
      have S7 := (S5.extN ext).extNS s7
      have tb7 := tb6.ext s7
      refine ⟨t7, _, _, .str "intervals", rfl, rfl, SqT.of et7, rfl, ?_⟩
      refine ⟨rfl, _, rfl, iteNS rfl ?_⟩
      dsimp only [tNext]
      refine seq_go (sl_go rfl ?_)
      dsimp only
      refine seq_go (asg_go ?_)
      refine lc_long (K := K) (x := letters24) (by rw [letters24_ok.1]; decide) fun H8 M zs s8 nM hM hE8 => ?_
      have S8 := S7.extNS s8
      have nMp : M ≠ p := Src.ne_new S7 nM
      have tb8 := tb7.ext s8
      have lz : zs.length = 24 := by
        have := Paired.length hE8
        rw [List.length_map, letters24_ok.1] at this
        exact this
      have fit8 := mks_fit (x := letters24) letters24_ok.2.2
      have ck8 := letters24_ok.2.1
      have lE : (letters24.cps.toList.map mkE).length ≤ 1000 := by
        rw [List.length_map, letters24_ok.1]
        decide
      generalize letters24.cps.toList.map mkE = E24 at hE8 fit8 ck8 lE
      refine ⟨_, rfl, p, l, rfl, S8, fun x hx => tb8 x (List.mem_cons_of_mem _ hx), fun H9 k9 => ⟨_, rfl, ?_⟩⟩
      refine iteF ?_
      have hM9 := k9 _ _ nMp hM (nt _)
      have hE9 := keepN_ents S8 k9 hE8
      refine ⟨Nat.le_of_ble_eq_true rfl, fun g1 m1 => ?_⟩
      have sg := same_new (o := .lst []) m1
      refine rev_ok (SqL.of upd_same) .nil (fun e he => absurd he List.not_mem_nil) (by decide +kernel) fun H10 r0 w0 s10 nr0 er0 Er0 => ?_
      cases Er0
      refine ⟨Nat.le_of_ble_eq_true rfl, fun g3 m3 => ?_⟩
      have sg3 := same_new (o := .lst []) m3
      refine ⟨.list [], .list [], .lst (SqL.of (sg3 _ _ er0)) .nil, .lst (SqL.of upd_same) .nil, by decide +kernel, by decide +kernel, _, rfl, ?_⟩
      refine iteF ?_
      have s911 := (sg.trans s10).trans sg3
      have hM11 := s911 _ _ hM9
      have hE11 := hE9.same s911
      refine ⟨_, rfl, ?_⟩
      refine rev_ok (SqL.of hM11) hE11 fit8 ck8 fun H12 r1 w1 s12 nr1 er1 Er1 => ?_
      refine ⟨_, rfl, _, rfl, .ref r1, .ref M, .list (E24.map entD), .list (E24.map entD), rfl, .lst (SqL.of er1) (ents_dp Er1), .lst (SqL.of (s12 _ _ hM11)) (ents_dp (hE11.same s12)), ents_fits lE, fun H13 s13 => ⟨_, rfl, ?_⟩⟩
      rw [ents_same]
      refine iteF ?_
      have er13 := s13 _ _ er1
      have nrM : r1 ≠ M := fun z => by
        rw [z] at nr1
        rw [nr1] at hM11
        cases hM11
      refine ⟨_, rfl, .inl ⟨rfl, _, SqL.of er13⟩, r1, w1, rfl, rfl, er13, ?_⟩
      have hM14 : (upd H13 r1 (.lst [])) M = some (.lst zs) := by
        rw [upd_ne (Ne.symm nrM)]
        exact s13 _ _ (s12 _ _ hM11)
      have hE14 := ents_nl ((NL.of (s12.trans s13)).trans (NL.put (o := .lst []) er13)) hE11
      refine ⟨_, rfl, M, zs, rfl, .inl (SqL.of hM14), rfl, _, rfl, ?_⟩
      rw [decide_eq_true (show V.int (zs.length : Int) = V.int 24 by rw [lz]; rfl)]
      refine iteT ?_
      refine ⟨_, rfl, ?_⟩
      refine rev_ok (SqL.of hM14) hE14 fit8 ck8 fun H15 r2 w2 s15 nr2 er2 Er2 => ?_
      refine ⟨_, rfl, .ref r2, .ref M, .list (E24.map entD), .list (E24.map entD), rfl, .lst (SqL.of er2) (ents_dp Er2), .lst (SqL.of (s15 _ _ hM14)) (ents_dp (hE14.same s15)), ents_fits lE, fun H16 s16 => ?_⟩
      rw [ents_same]
      exact q _
end
end Dw
namespace Dw
open PySem PySem.Spec PyProof.Rows L2 LamX
/-! ### what the top has left, and the end -/
/-- an error of the class at C is what «except S» names, S a class above C -/
theorem exm_in {K : PySem.W.Frag} {C S : Addr} (b : PySem.W.subIn K (.ref S) (.type "BaseException") = some true) (i : PySem.W.isClsIn K S = true) (t : PySem.W.typeIn K (.ref S) = some (.type "type")) (s : PySem.W.subIn K (.ref C) (.ref S) = some true) :
    PySem.W.exmOne K (.ref C) (.ref S) = some true := by
  have i' : (PySem.W.clsIn K S).isSome = true := i
  show (if (PySem.W.subIn K (.ref S) (.type "BaseException") == some true) = true then
    (if ((PySem.W.clsIn K S).isSome && PySem.W.typeIn K (.ref S) == some (.type "type")) = true then PySem.W.subIn K (.ref C) (.ref S) else none) else none) = _
  rw [b, i', t, s]
  rfl
theorem all_mk {l : PySem.W.OpenLaw} {w : World} {K : PySem.W.Frag} {h : Heap} {mg : Str → Option Value} {fa fG fJ fA fB fN fK fP fR fAA fS fD fC fH fM fO fL fE fF fU fV fW fY fQ TQ fI TI fZ TZ CQ CN CI CZ fX cX PX fT cT PT : Addr} (X : K.In h) (G : h.Ns mainGlobals mg) (hfa : mg "law" = some (.ref fa)) (own : OwnTab K fa h)
    {odG anG : Option Addr} {slG : Array (Option Value)} {ocG kVG dcG pmG cdG ctG : Value}
    {odJ anJ : Option Addr} {slJ : Array (Option Value)} {ocJ kVJ dcJ pmJ cdJ ctJ : Value}
    {odA anA : Option Addr} {slA : Array (Option Value)} {ocA kVA dcA pmA cdA ctA : Value}
    {odB anB : Option Addr} {slB : Array (Option Value)} {ocB kVB dcB pmB cdB ctB : Value}
    {odN anN : Option Addr} {slN : Array (Option Value)} {ocN kVN dcN pmN cdN ctN : Value}
    {odK anK : Option Addr} {slK : Array (Option Value)} {ocK kVK dcK pmK cdK ctK : Value}
    {odP anP : Option Addr} {slP : Array (Option Value)} {ocP kVP dcP pmP cdP ctP : Value}
    {odR anR : Option Addr} {slR : Array (Option Value)} {ocR kVR dcR pmR cdR ctR : Value}
    {odAA anAA : Option Addr} {slAA : Array (Option Value)} {ocAA kVAA dcAA pmAA cdAA ctAA : Value}
    {odS anS : Option Addr} {slS : Array (Option Value)} {ocS kVS dcS pmS cdS ctS : Value}
    {odD anD : Option Addr} {slD : Array (Option Value)} {ocD kVD dcD pmD cdD ctD : Value}
    {odC anC : Option Addr} {slC : Array (Option Value)} {ocC kVC dcC pmC cdC ctC : Value}
    {odH anH : Option Addr} {slH : Array (Option Value)} {ocH kVH dcH pmH cdH ctH : Value}
    {odM anM : Option Addr} {slM : Array (Option Value)} {ocM kVM dcM pmM cdM ctM : Value}
    {odO anO : Option Addr} {slO : Array (Option Value)} {ocO kVO dcO pmO cdO ctO : Value}
    {odL anL : Option Addr} {slL : Array (Option Value)} {ocL kVL dcL pmL cdL ctL : Value}
    {odE anE : Option Addr} {slE : Array (Option Value)} {ocE kVE dcE pmE cdE ctE : Value}
    {odF anF : Option Addr} {slF : Array (Option Value)} {ocF kVF dcF pmF cdF ctF : Value}
    {odU anU : Option Addr} {slU : Array (Option Value)} {ocU kVU dcU pmU cdU ctU : Value}
    {odV anV : Option Addr} {slV : Array (Option Value)} {ocV kVV dcV pmV cdV ctV : Value}
    {odW anW : Option Addr} {slW : Array (Option Value)} {ocW kVW dcW pmW cdW ctW : Value}
    {odY anY : Option Addr} {slY : Array (Option Value)} {ocY kVY dcY pmY cdY ctY : Value}
    {odQ anQ oDQ : Option Addr} {slQ sDQ : Array (Option Value)} {ocQ kVQ dcQ pmQ cdQ ctQ oCQ : Value} {nQ : Nat} {tQ uQ : Tok}
    {odI anI oDI : Option Addr} {slI sDI : Array (Option Value)} {ocI kVI dcI pmI cdI ctI oCI : Value} {nI : Nat} {tI : Tok}
    {odZ anZ oDZ : Option Addr} {slZ sDZ : Array (Option Value)} {ocZ kVZ dcZ pmZ cdZ ctZ oCZ : Value} {nZ : Nat} {tZ : Tok}
    {nmI qI : Str} {NI : Addr} {bsI bmI : List Value} {snI : List Str} {suI : List Value} {abI : Bool} {coI : Option Bool} {ddI : Option Addr} {m0I m1I m2I m3I m5I : Option Value}
    {nmZ qZ : Str} {NZ : Addr} {bsZ bmZ : List Value} {snZ : List Str} {suZ : List Value} {abZ : Bool} {coZ : Option Bool} {ddZ : Option Addr} {m0Z m1Z m2Z m3Z m5Z : Option Value}
    {t6 t24 : Tok}
    {odX anX oDX : Option Addr} {slX sDX : Array (Option Value)} {ocX kVX dcX pmX ctX oCX : Value} {vX : Array Value}
    {odT anT oDT : Option Addr} {slT sDT : Array (Option Value)} {ocT kVT dcT pmT ctT oCT : Value} {vT : Array Value}
    (aG : PySem.W.nsIn K mainGlobals "greatest_divisor" = some (some (.ref fG))) (lG : K.lookup fG = some ⟨ocG, odG, .func (PySem.W.fnOf "greatest_divisor" "greatest_divisor" (defArgs sGD) (defBody sGD) (defScope sGD) .none kVG dcG pmG anG cdG ctG), slG⟩) (cG : PySem.W.codeIn K cdG "greatest_divisor" = true) (kG : PySem.W.keepIn K (.ref fG) = true)
    (aJ : PySem.W.nsIn K mainGlobals "less" = some (some (.ref fJ))) (lJ : K.lookup fJ = some ⟨ocJ, odJ, .func (PySem.W.fnOf "less" "less" (defArgs sLess) (defBody sLess) (defScope sLess) .none kVJ dcJ pmJ anJ cdJ ctJ), slJ⟩) (cJ : PySem.W.codeIn K cdJ "less" = true) (kJ : PySem.W.keepIn K (.ref fJ) = true)
    (aA : PySem.W.nsIn K mainGlobals "is_fraction" = some (some (.ref fA))) (lA : K.lookup fA = some ⟨ocA, odA, .func (PySem.W.fnOf "is_fraction" "is_fraction" (defArgs sIsFr) (defBody sIsFr) (defScope sIsFr) .none kVA dcA pmA anA cdA ctA), slA⟩) (cA : PySem.W.codeIn K cdA "is_fraction" = true) (kA : PySem.W.keepIn K (.ref fA) = true)
    (aB : PySem.W.nsIn K mainGlobals "check_fraction" = some (some (.ref fB))) (lB : K.lookup fB = some ⟨ocB, odB, .func (PySem.W.fnOf "check_fraction" "check_fraction" (defArgs sChkF) (defBody sChkF) (defScope sChkF) .none kVB dcB pmB anB cdB ctB), slB⟩) (cB : PySem.W.codeIn K cdB "check_fraction" = true) (kB : PySem.W.keepIn K (.ref fB) = true)
    (aN : PySem.W.nsIn K mainGlobals "is_name" = some (some (.ref fN))) (lN : K.lookup fN = some ⟨ocN, odN, .func (PySem.W.fnOf "is_name" "is_name" (defArgs sNm) (defBody sNm) (defScope sNm) .none kVN dcN pmN anN cdN ctN), slN⟩) (cN : PySem.W.codeIn K cdN "is_name" = true) (kN : PySem.W.keepIn K (.ref fN) = true)
    (aK : PySem.W.nsIn K mainGlobals "check_intervals" = some (some (.ref fK))) (lK : K.lookup fK = some ⟨ocK, odK, .func (PySem.W.fnOf "check_intervals" "check_intervals" (defArgs sChk) (defBody sChk) (defScope sChk) .none kVK dcK pmK anK cdK ctK), slK⟩) (cK : PySem.W.codeIn K cdK "check_intervals" = true) (kK : PySem.W.keepIn K (.ref fK) = true)
    (aP : PySem.W.nsIn K mainGlobals "item_names" = some (some (.ref fP))) (lP : K.lookup fP = some ⟨ocP, odP, .func (PySem.W.fnOf "item_names" "item_names" (defArgs sNams) (defBody sNams) (defScope sNams) .none kVP dcP pmP anP cdP ctP), slP⟩) (cP : PySem.W.codeIn K cdP "item_names" = true) (kP : PySem.W.keepIn K (.ref fP) = true)
    (aR : PySem.W.nsIn K mainGlobals "reveal" = some (some (.ref fR))) (lR : K.lookup fR = some ⟨ocR, odR, .func (PySem.W.fnOf "reveal" "reveal" (defArgs sRev) (defBody sRev) (defScope sRev) .none kVR dcR pmR anR cdR ctR), slR⟩) (cR : PySem.W.codeIn K cdR "reveal" = true) (kR : PySem.W.keepIn K (.ref fR) = true)
    (aAA : PySem.W.nsIn K mainGlobals "probe_each" = some (some (.ref fAA))) (lAA : K.lookup fAA = some ⟨ocAA, odAA, .func (PySem.W.fnOf "probe_each" "probe_each" (defArgs sPro) (defBody sPro) (defScope sPro) .none kVAA dcAA pmAA anAA cdAA ctAA), slAA⟩) (cAA : PySem.W.codeIn K cdAA "probe_each" = true) (kAA : PySem.W.keepIn K (.ref fAA) = true)
    (aS : PySem.W.nsIn K mainGlobals "_law_source" = some (some (.ref fS))) (lS : K.lookup fS = some ⟨ocS, odS, .func (PySem.W.fnOf "_law_source" "_law_source" (defArgs sSrc) (defBody sSrc) (defScope sSrc) .none kVS dcS pmS anS cdS ctS), slS⟩) (cS : PySem.W.codeIn K cdS "_law_source" = true) (kS : PySem.W.keepIn K (.ref fS) = true)
    (aD : PySem.W.nsIn K mainGlobals "_law_draw" = some (some (.ref fD))) (lD : K.lookup fD = some ⟨ocD, odD, .func (PySem.W.fnOf "_law_draw" "_law_draw" (defArgs sDraw) (defBody sDraw) (defScope sDraw) .none kVD dcD pmD anD cdD ctD), slD⟩) (cD : PySem.W.codeIn K cdD "_law_draw" = true) (kD : PySem.W.keepIn K (.ref fD) = true)
    (aC : PySem.W.nsIn K mainGlobals "_law_choice" = some (some (.ref fC))) (lC : K.lookup fC = some ⟨ocC, odC, .func (PySem.W.fnOf "_law_choice" "_law_choice" (defArgs sCho) (defBody sCho) (defScope sCho) .none kVC dcC pmC anC cdC ctC), slC⟩) (cC : PySem.W.codeIn K cdC "_law_choice" = true) (kC : PySem.W.keepIn K (.ref fC) = true)
    (aH : PySem.W.nsIn K mainGlobals "_law_shuffled" = some (some (.ref fH))) (lH : K.lookup fH = some ⟨ocH, odH, .func (PySem.W.fnOf "_law_shuffled" "_law_shuffled" (defArgs sShu) (defBody sShu) (defScope sShu) .none kVH dcH pmH anH cdH ctH), slH⟩) (cH : PySem.W.codeIn K cdH "_law_shuffled" = true) (kH : PySem.W.keepIn K (.ref fH) = true)
    (aM : PySem.W.nsIn K mainGlobals "_law_same" = some (some (.ref fM))) (lM : K.lookup fM = some ⟨ocM, odM, .func (PySem.W.fnOf "_law_same" "_law_same" (defArgs sSame) (defBody sSame) (defScope sSame) .none kVM dcM pmM anM cdM ctM), slM⟩) (cM : PySem.W.codeIn K cdM "_law_same" = true) (kM : PySem.W.keepIn K (.ref fM) = true)
    (aO : PySem.W.nsIn K mainGlobals "_law_outcome" = some (some (.ref fO))) (lO : K.lookup fO = some ⟨ocO, odO, .func (PySem.W.fnOf "_law_outcome" "_law_outcome" (defArgs sOut) (defBody sOut) (defScope sOut) .none kVO dcO pmO anO cdO ctO), slO⟩) (cO : PySem.W.codeIn K cdO "_law_outcome" = true) (kO : PySem.W.keepIn K (.ref fO) = true)
    (aL : PySem.W.nsIn K mainGlobals "_law_gcd" = some (some (.ref fL))) (lL : K.lookup fL = some ⟨ocL, odL, .func (PySem.W.fnOf "_law_gcd" "_law_gcd" (defArgs sLG) (defBody sLG) (defScope sLG) .none kVL dcL pmL anL cdL ctL), slL⟩) (cL : PySem.W.codeIn K cdL "_law_gcd" = true) (kL : PySem.W.keepIn K (.ref fL) = true)
    (aE : PySem.W.nsIn K mainGlobals "_law_reduced" = some (some (.ref fE))) (lE : K.lookup fE = some ⟨ocE, odE, .func (PySem.W.fnOf "_law_reduced" "_law_reduced" (defArgs sRed) (defBody sRed) (defScope sRed) .none kVE dcE pmE anE cdE ctE), slE⟩) (cE : PySem.W.codeIn K cdE "_law_reduced" = true) (kE : PySem.W.keepIn K (.ref fE) = true)
    (aF : PySem.W.nsIn K mainGlobals "_law_less" = some (some (.ref fF))) (lF : K.lookup fF = some ⟨ocF, odF, .func (PySem.W.fnOf "_law_less" "_law_less" (defArgs sLLe) (defBody sLLe) (defScope sLLe) .none kVF dcF pmF anF cdF ctF), slF⟩) (cF : PySem.W.codeIn K cdF "_law_less" = true) (kF : PySem.W.keepIn K (.ref fF) = true)
    (aU : PySem.W.nsIn K mainGlobals "_law_bound" = some (some (.ref fU))) (lU : K.lookup fU = some ⟨ocU, odU, .func (PySem.W.fnOf "_law_bound" "_law_bound" (defArgs sBnd) (defBody sBnd) (defScope sBnd) .none kVU dcU pmU anU cdU ctU), slU⟩) (cU : PySem.W.codeIn K cdU "_law_bound" = true) (kU : PySem.W.keepIn K (.ref fU) = true)
    (aV : PySem.W.nsIn K mainGlobals "_law_interval" = some (some (.ref fV))) (lV : K.lookup fV = some ⟨ocV, odV, .func (PySem.W.fnOf "_law_interval" "_law_interval" (defArgs sIvl) (defBody sIvl) (defScope sIvl) .none kVV dcV pmV anV cdV ctV), slV⟩) (cV : PySem.W.codeIn K cdV "_law_interval" = true) (kV : PySem.W.keepIn K (.ref fV) = true)
    (aW : PySem.W.nsIn K mainGlobals "_law_intervals" = some (some (.ref fW))) (lW : K.lookup fW = some ⟨ocW, odW, .func (PySem.W.fnOf "_law_intervals" "_law_intervals" (defArgs sIvs) (defBody sIvs) (defScope sIvs) .none kVW dcW pmW anW cdW ctW), slW⟩) (cW : PySem.W.codeIn K cdW "_law_intervals" = true) (kW : PySem.W.keepIn K (.ref fW) = true)
    (aY : PySem.W.nsIn K mainGlobals "_law_bent" = some (some (.ref fY))) (lY : K.lookup fY = some ⟨ocY, odY, .func (PySem.W.fnOf "_law_bent" "_law_bent" (defArgs sBent) (defBody sBent) (defScope sBent) .none kVY dcY pmY anY cdY ctY), slY⟩) (cY : PySem.W.codeIn K cdY "_law_bent" = true) (kY : PySem.W.keepIn K (.ref fY) = true)
    (lQ : K.lookup fQ = some ⟨ocQ, odQ, .func (PySem.W.fnOf "__init__" "QueryError.__init__" (defArgs sQE) (defBody sQE) (defScope sQE) (.ref TQ) kVQ dcQ pmQ anQ cdQ ctQ), slQ⟩) (cQ : PySem.W.codeIn K cdQ "QueryError.__init__" = true) (kQ : PySem.W.keepIn K (.ref fQ) = true) (dQ : K.lookup TQ = some ⟨oCQ, oDQ, .seq #[.str "" tQ, .str "" uQ] nQ, sDQ⟩)
    (lI : K.lookup fI = some ⟨ocI, odI, .func (PySem.W.fnOf "__init__" "InvalidFraction.__init__" (defArgs sIF) (defBody sIF) (defScope sIF) (.ref TI) kVI dcI pmI anI cdI ctI), slI⟩) (cI : PySem.W.codeIn K cdI "InvalidFraction.__init__" = true) (kI : PySem.W.keepIn K (.ref fI) = true) (dI : K.lookup TI = some ⟨oCI, oDI, .seq #[.str "not a reduced fraction" tI] nI, sDI⟩)
    (lZ : K.lookup fZ = some ⟨ocZ, odZ, .func (PySem.W.fnOf "__init__" "InvalidIntervals.__init__" (defArgs sIV) (defBody sIV) (defScope sIV) (.ref TZ) kVZ dcZ pmZ anZ cdZ ctZ), slZ⟩) (cZ : PySem.W.codeIn K cdZ "InvalidIntervals.__init__" = true) (kZ : PySem.W.keepIn K (.ref fZ) = true) (dZ : K.lookup TZ = some ⟨oCZ, oDZ, .seq #[.str "not an interval list" tZ] nZ, sDZ⟩)
    (gCQ : PySem.W.nsIn K mainGlobals "QueryError" = some (some (.ref CQ))) (gCN : PySem.W.nsIn K mainGlobals "NotFound" = some (some (.ref CN))) (gCI : PySem.W.nsIn K mainGlobals "InvalidFraction" = some (some (.ref CI))) (gCZ : PySem.W.nsIn K mainGlobals "InvalidIntervals" = some (some (.ref CZ)))
    (fQi : PySem.W.findCls K (.ref CQ) (.type "type") "__init__" = some (.val (.ref fQ))) (rQ : PySem.W.readsIn K CQ (.type "type") = true) (gQ : PySem.W.specialIn K (.ref CQ) "__getattribute__" = some (some (.builtin "type.__getattribute__"))) (zb : PySem.W.subIn K (.ref CQ) (.type "BaseException") = some true) (zi : PySem.W.isClsIn K CQ = true) (zt : PySem.W.typeIn K (.ref CQ) = some (.type "type"))
    (xI : K.lookup CI = some (excClassObj nmI qI CI NI bsI bmI true snI suI abI coI ddI m0I m1I m2I m3I m5I "ValueError.__new__")) (rI : PySem.HandSPX.refsVE bmI = true) (sI : PySem.W.findIn K (.ref CI) "__setattr__" = some (some (.builtin "object.__setattr__"))) (eI : PySem.W.subIn K (.ref CI) (.type "BaseException") = some true) (yI : PySem.W.typeIn K (.ref CI) = some (.type "type")) (pI : PySem.W.keepIn K (.ref CI) = true)
    (iI : PySem.W.findIn K (.ref CI) "__init__" = some (some (.ref fI))) (uI : PySem.W.typeIn K (.ref fI) = some (.type "function")) (n0I : PySem.W.findIn K (.ref CI) "code" = some none) (wgI : PySem.W.findIn K (.ref CI) "__getattribute__" = some (some (.builtin "BaseException.__getattribute__"))) (whI : PySem.W.findIn K (.ref CI) "__getattr__" = some none) (weI : PySem.W.hasDictIn K CI = true) (zsI : PySem.W.subIn K (.ref CI) (.ref CQ) = some true)
    (xZ : K.lookup CZ = some (excClassObj nmZ qZ CZ NZ bsZ bmZ true snZ suZ abZ coZ ddZ m0Z m1Z m2Z m3Z m5Z "ValueError.__new__")) (rZ : PySem.HandSPX.refsVE bmZ = true) (sZ : PySem.W.findIn K (.ref CZ) "__setattr__" = some (some (.builtin "object.__setattr__"))) (eZ : PySem.W.subIn K (.ref CZ) (.type "BaseException") = some true) (yZ : PySem.W.typeIn K (.ref CZ) = some (.type "type")) (pZ : PySem.W.keepIn K (.ref CZ) = true)
    (iZ : PySem.W.findIn K (.ref CZ) "__init__" = some (some (.ref fZ))) (uZ : PySem.W.typeIn K (.ref fZ) = some (.type "function")) (n0Z : PySem.W.findIn K (.ref CZ) "code" = some none) (wgZ : PySem.W.findIn K (.ref CZ) "__getattribute__" = some (some (.builtin "BaseException.__getattribute__"))) (whZ : PySem.W.findIn K (.ref CZ) "__getattr__" = some none) (weZ : PySem.W.hasDictIn K CZ = true) (zsZ : PySem.W.subIn K (.ref CZ) (.ref CQ) = some true)
    (vV : PySem.W.findCls K (.type "ValueError") (.type "type") "__init__" = some (.val (.builtin "ValueError.__init__")))
    (v6 : PySem.W.nsIn K mainGlobals "MAX_LETTERS" = some (some (.int 6 t6))) (v24 : PySem.W.nsIn K mainGlobals "CAPACITY" = some (some (.int 24 t24)))
    (aX : PySem.W.nsIn K mainGlobals "law" = some (some (.ref fX))) (lX : K.lookup fX = some ⟨ocX, odX, .func (PySem.W.fnOf "law" "law" (defArgs sLaw) (defBody sLaw) (defScope sLaw) .none kVX dcX pmX anX (.ref cX) ctX), slX⟩) (cXc : PySem.W.codeIn K (.ref cX) "law" = true) (oX : K.lookup cX = some ⟨oCX, oDX, .fields vX, sDX⟩) (tX : vX[11]? = some (.ref PX)) (hX : PySem.W.codeHdIn K cX PX = true) (nX : K.lookup PX = none)
    (aT : PySem.W.nsIn K mainGlobals "_law_two_defects" = some (some (.ref fT))) (lT : K.lookup fT = some ⟨ocT, odT, .func (PySem.W.fnOf "_law_two_defects" "_law_two_defects" (defArgs sTwo) (defBody sTwo) (defScope sTwo) .none kVT dcT pmT anT (.ref cT) ctT), slT⟩) (cTc : PySem.W.codeIn K (.ref cT) "_law_two_defects" = true) (oT : K.lookup cT = some ⟨oCT, oDT, .fields vT, sDT⟩) (tT : vT[11]? = some (.ref PT)) (hT : PySem.W.codeHdIn K cT PT = true) (nT : K.lookup PT = none)
    (kT : PySem.W.keepIn K (.ref fT) = true) (gPT : h.get? PT = some { cls := .none, data := .fields #[] }) (tne : PT ≠ PX)
    (b0 : PySem.W.nsIn K mainGlobals "abs" = some none)
    (b1 : PySem.W.nsIn K mainGlobals "list" = some none)
    (b2 : PySem.W.nsIn K mainGlobals "len" = some none)
    (b3 : PySem.W.nsIn K mainGlobals "isinstance" = some none)
    (b4 : PySem.W.nsIn K mainGlobals "tuple" = some none)
    (b5 : PySem.W.nsIn K mainGlobals "all" = some none)
    (b6 : PySem.W.nsIn K mainGlobals "int" = some none)
    (b7 : PySem.W.nsIn K mainGlobals "zip" = some none)
    (b8 : PySem.W.nsIn K mainGlobals "bool" = some none)
    (b9 : PySem.W.nsIn K mainGlobals "dict" = some none)
    (b10 : PySem.W.nsIn K mainGlobals "str" = some none)
    (b11 : PySem.W.nsIn K mainGlobals "range" = some none)
    (b12 : PySem.W.nsIn K mainGlobals "ValueError" = some none)
    (b13 : PySem.W.nsIn K mainGlobals "sorted" = some none)
    (b14 : PySem.W.nsIn K mainGlobals "set" = some none) :
    LawAtS l w K CX0 10 63 "_law_script" mg fa h := by
  have e := hfa.symm.trans (PySem.W.mg_of X G aX)
  cases e
  have FG := fun_mk (st := sGD) lG cG kG
  have BG := FG.binds (ps := ["first", "second"]) fun _ _ _ _ _ _ us hl => match us, hl with | [_, _], _ => rfl
  have FJ := fun_mk (st := sLess) lJ cJ kJ
  have BJ := FJ.binds (ps := ["first", "second"]) fun _ _ _ _ _ _ us hl => match us, hl with | [_, _], _ => rfl
  have FA := fun_mk (st := sIsFr) lA cA kA
  have BA := FA.binds (ps := ["value"]) fun _ _ _ _ _ _ us hl => match us, hl with | [_], _ => rfl
  have FB := fun_mk (st := sChkF) lB cB kB
  have BB := FB.binds (ps := ["value"]) fun _ _ _ _ _ _ us hl => match us, hl with | [_], _ => rfl
  have FN := fun_mk (st := sNm) lN cN kN
  have BN := FN.binds (ps := ["name"]) fun _ _ _ _ _ _ us hl => match us, hl with | [_], _ => rfl
  have FK := fun_mk (st := sChk) lK cK kK
  have BK := FK.binds (ps := ["intervals"]) fun _ _ _ _ _ _ us hl => match us, hl with | [_], _ => rfl
  have FP := fun_mk (st := sNams) lP cP kP
  have BP := FP.binds (ps := ["intervals"]) fun _ _ _ _ _ _ us hl => match us, hl with | [_], _ => rfl
  have FR := fun_mk (st := sRev) lR cR kR
  have BR := FR.binds (ps := ["intervals", "values", "names"]) fun _ _ _ _ _ _ us hl => match us, hl with | [_, _, _], _ => rfl
  have FAA := fun_mk (st := sPro) lAA cAA kAA
  have BAA := FAA.binds (ps := ["intervals", "values", "names"]) fun _ _ _ _ _ _ us hl => match us, hl with | [_, _, _], _ => rfl
  have FS := fun_mk (st := sSrc) lS cS kS
  have BS := FS.binds (ps := ["_law_script"]) fun _ _ _ _ _ _ us hl => match us, hl with | [_], _ => rfl
  have FD := fun_mk (st := sDraw) lD cD kD
  have BD := FD.binds (ps := ["_law_source_here", "_law_count"]) fun _ _ _ _ _ _ us hl => match us, hl with | [_, _], _ => rfl
  have FC := fun_mk (st := sCho) lC cC kC
  have BC := FC.binds (ps := ["_law_source_here", "_law_chosen"]) fun _ _ _ _ _ _ us hl => match us, hl with | [_, _], _ => rfl
  have FH := fun_mk (st := sShu) lH cH kH
  have BH := FH.binds (ps := ["_law_source_here", "_law_chosen"]) fun _ _ _ _ _ _ us hl => match us, hl with | [_, _], _ => rfl
  have FM := fun_mk (st := sSame) lM cM kM
  have BM := FM.binds (ps := ["_law_found", "_law_expected"]) fun _ _ _ _ _ _ us hl => match us, hl with | [_, _], _ => rfl
  have FO := fun_mk (st := sOut) lO cO kO
  have BO := FO.binds (ps := ["_law_call"]) fun _ _ _ _ _ _ us hl => match us, hl with | [_], _ => rfl
  have FL := fun_mk (st := sLG) lL cL kL
  have BL := FL.binds (ps := ["_law_one", "_law_two"]) fun _ _ _ _ _ _ us hl => match us, hl with | [_, _], _ => rfl
  have FE := fun_mk (st := sRed) lE cE kE
  have BE := FE.binds (ps := ["_law_numerator", "_law_denominator"]) fun _ _ _ _ _ _ us hl => match us, hl with | [_, _], _ => rfl
  have FF := fun_mk (st := sLLe) lF cF kF
  have BF := FF.binds (ps := ["_law_one", "_law_two"]) fun _ _ _ _ _ _ us hl => match us, hl with | [_, _], _ => rfl
  have FU := fun_mk (st := sBnd) lU cU kU
  have BU := FU.binds (ps := ["_law_source_here", "_law_spread"]) fun _ _ _ _ _ _ us hl => match us, hl with | [_, _], _ => rfl
  have FV := fun_mk (st := sIvl) lV cV kV
  have BV := FV.binds (ps := ["_law_source_here", "_law_spread", "_law_previous"]) fun _ _ _ _ _ _ us hl => match us, hl with | [_, _, _], _ => rfl
  have FW := fun_mk (st := sIvs) lW cW kW
  have BW := FW.binds (ps := ["_law_source_here", "_law_most", "_law_spread"]) fun _ _ _ _ _ _ us hl => match us, hl with | [_, _, _], _ => rfl
  have FY := fun_mk (st := sBent) lY cY kY
  have BY := FY.binds (ps := ["_law_source_here", "_law_intervals_here"]) fun _ _ _ _ _ _ us hl => match us, hl with | [_, _], _ => rfl
  have FT := fun_mk (st := sTwo) lT cTc kT
  have BT := FT.binds (ps := ["_law_source_here"]) fun _ _ _ _ _ _ us hl => match us, hl with | [_], _ => rfl
  have FQ : FQE K fQ _ := ⟨⟨_, _, _, _, _, _, _, _, _, _, rfl, lQ, cQ, .inr ⟨by simp, TQ, _, [.str "" tQ, .str "" uQ], _, rfl, dQ, rfl, .cons ⟨_, rfl⟩ (.cons ⟨_, rfl⟩ .nil)⟩, .inl rfl⟩, kQ⟩
  have FI : FIF K fI _ := ⟨⟨_, _, _, _, _, _, _, _, _, _, rfl, lI, cI, .inr ⟨by simp, TI, _, [.str "not a reduced fraction" tI], _, rfl, dI, rfl, .cons ⟨_, rfl⟩ .nil⟩, .inl rfl⟩, kI⟩
  have FZ : FIV K fZ _ := ⟨⟨_, _, _, _, _, _, _, _, _, _, rfl, lZ, cZ, .inr ⟨by simp, TZ, _, [.str "not an interval list" tZ], _, rfl, dZ, rfl, .cons ⟨_, rfl⟩ .nil⟩, .inl rfl⟩, kZ⟩
  obtain ⟨dsQ, vQ, BQ⟩ := FQ.binds1 (ps := ["self", "message", "code"]) 3 2 (by simp) rfl (fun T kV doc pm an cdv ct us its h1 h2 => match us, h1, its, h2 with | [_, _, _], _, [_, _], _ => ⟨_, rfl, rfl⟩)
  cases vQ
  obtain ⟨dsI, vI, BI⟩ := FI.binds1 (ps := ["self", "message"]) 2 1 (by simp) rfl (fun T kV doc pm an cdv ct us its h1 h2 => match us, h1, its, h2 with | [_, _], _, [_], _ => ⟨_, rfl, rfl⟩)
  cases vI
  obtain ⟨dsZ, vZ, BZ⟩ := FZ.binds1 (ps := ["self", "message"]) 2 1 (by simp) rfl (fun T kV doc pm an cdv ct us its h1 h2 => match us, h1, its, h2 with | [_, _], _, [_], _ => ⟨_, rfl, rfl⟩)
  cases vZ
  have oeI : OexC K CI := ⟨⟨_, _, _, _, _, _, _, _, _, _, _, _, _, _, _, xI, rI⟩, sI, eI, yI, pI⟩
  have oeZ : OexC K CZ := ⟨⟨_, _, _, _, _, _, _, _, _, _, _, _, _, _, _, xZ, rZ⟩, sZ, eZ, yZ, pZ⟩
  have X1 : XC K CQ CI := ⟨⟨wgI, whI, eI, weI⟩, n0I, exm_in zb zi zt zsI⟩
  have X2 : XC K CQ CZ := ⟨⟨wgZ, whZ, eZ, weZ⟩, n0Z, exm_in zb zi zt zsZ⟩
  have hP : h.get? PX = some { cls := .none, data := .fields #[] } := own cX PX _ _ _ _ _ _ lX rfl rfl oX tX
  have both : ∀ p ∈ [(cX, PX), (cT, PT)], p = (cX, PX) ∨ p = (cT, PT) := fun p hp => by
    simpa using hp
  refine ⟨PySem.W.fnOf "law" "law" (defArgs sLaw) (defBody sLaw) (defScope sLaw) .none kVX dcX pmX anX (.ref cX) ctX, [(cX, PX), (cT, PT)], spLaw K PX PT, fun p hp => ?_, fun p hp => ?_, fun p hp => ?_, fun s u => .of_eq rfl, fun H a ns hl _ ht hS => ?_, fun base hK hN TB => ?_⟩
  · rcases both p hp with rfl | rfl
    · exact hP
    · exact gPT
  · rcases both p hp with rfl | rfl
    · exact nX
    · exact nT
  · rcases both p hp with rfl | rfl
    · exact PySem.W.codeHd_of_K X hX
    · exact PySem.W.codeHd_of_K X hT
  · refine ⟨a, ns, rfl, hS, fun p hp => ?_, fun _ => rfl⟩
    simp only [List.mem_cons, List.not_mem_nil, or_false] at hp
    rcases hp with rfl | rfl
    · exact TabS.nil (ht (cX, PX) (.head _))
    · exact TabS.nil (ht (cT, PT) (.tail _ (.head _)))
  · have GG : FnOk l.prog w K mg base CX0 1 fG _ ["first", "second"] spGcd := ok_gd FG (PySem.W.mg_none_of X G b0)
    have GQ : FnOk l.prog w K mg base CX0 1 fQ _ ["self", "message", "code"] (spQE K) := ok_qe FQ (PySem.W.mg_none_of X G b12) vV
    have GI : FnOk l.prog w K mg base CX0 2 fI _ ["self", "message"] (spIF K "fraction") := ok_if FI GQ (PySem.W.mg_of X G gCQ) ⟨rQ, gQ⟩ fQi kQ BQ
    have GZ : FnOk l.prog w K mg base CX0 2 fZ _ ["self", "message"] (spIF K "intervals") := ok_iv FZ GQ (PySem.W.mg_of X G gCQ) ⟨rQ, gQ⟩ fQi kQ BQ
    have GJ : FnOk l.prog w K mg base CX0 1 fJ _ ["first", "second"] (spLess K) := ok_less FJ
    have GA : FnOk l.prog w K mg base CX0 2 fA _ ["value"] (spIsFr K) := ok_isfr FA GG (PySem.W.mg_of X G aG) kG BG (PySem.W.mg_none_of X G b3) (PySem.W.mg_none_of X G b4) (PySem.W.mg_none_of X G b2) (PySem.W.mg_none_of X G b6)
    have GB : FnOk l.prog w K mg base (L2.CX l.prog w) 4 fB _ ["value"] (spChkF K CI) := ok_chkf FB GA (PySem.W.mg_of X G aA) kA BA GI (PySem.W.mg_of X G gCI) oeI n0I iI uI BI
    have GN : FnOk l.prog w K mg base CX0 1 fN _ ["name"] spNm := ok_nm FN (PySem.W.mg_of X G v6) (PySem.W.mg_none_of X G b3) (PySem.W.mg_none_of X G b10) (PySem.W.mg_none_of X G b2) (PySem.W.mg_none_of X G b5)
    have GK : FnOk l.prog w K mg base (L2.CX l.prog w) 5 fK _ ["intervals"] (spChk K CI CZ) := ok_chk FK GB (PySem.W.mg_of X G aB) kB BB GN (PySem.W.mg_of X G aN) kN BN GJ (PySem.W.mg_of X G aJ) kJ BJ GZ (PySem.W.mg_of X G gCZ) oeZ n0Z iZ uZ BZ (PySem.W.mg_of X G v24) (PySem.W.mg_none_of X G b2)
    have GP : FnOk l.prog w K mg base CX0 1 fP _ ["intervals"] (spNams K) := ok_nams FP
    have GAA : FnOk l.prog w K mg base (L2.CX l.prog w) 5 fAA _ ["intervals", "values", "names"] (spPro0 K) := ok_pro0 FAA GP (PySem.W.mg_of X G aP) kP BP (PySem.W.mg_none_of X G b1) (PySem.W.mg_none_of X G b13) (PySem.W.mg_none_of X G b14)
    have GR : FnOk l.prog w K mg base (L2.CX l.prog w) 6 fR _ ["intervals", "values", "names"] (spRev0 K CI CZ) := ok_rev0 FR GK (PySem.W.mg_of X G aK) kK BK GAA (PySem.W.mg_of X G aAA) kAA BAA
    have GD : FnOk l.prog w K mg base CX0 1 fD _ ["_law_source_here", "_law_count"] spDraw := ok_draw FD (PySem.W.mg_none_of X G b2) (PySem.W.mg_none_of X G b0)
    have gD := PySem.W.mg_of X G aD
    have GC : FnOk l.prog w K mg base CX0 2 fC _ ["_law_source_here", "_law_chosen"] (spCho K) := ok_cho FC GD gD kD BD (PySem.W.mg_none_of X G b2)
    have gC := PySem.W.mg_of X G aC
    have GH : FnOk l.prog w K mg base CX0 2 fH _ ["_law_source_here", "_law_chosen"] (spShu K) := ok_shu FH GD gD kD BD (PySem.W.mg_none_of X G b2)
    have GL : FnOk l.prog w K mg base CX0 1 fL _ ["_law_one", "_law_two"] spGcd := ok_lg FL (PySem.W.mg_none_of X G b0)
    have GE : FnOk l.prog w K mg base CX0 2 fE _ ["_law_numerator", "_law_denominator"] spRed := ok_red FE GL (PySem.W.mg_of X G aL) kL BL
    have GF : FnOk l.prog w K mg base CX0 1 fF _ ["_law_one", "_law_two"] (spLess K) := ok_lle FF
    have GU : FnOk l.prog w K mg base CX0 3 fU _ ["_law_source_here", "_law_spread"] spBnd := ok_bnd FU GD gD kD BD GE (PySem.W.mg_of X G aE) kE BE
    have GV : FnOk l.prog w K mg base CX0 4 fV _ ["_law_source_here", "_law_spread", "_law_previous"] (spIvl K) := ok_ivl FV GD gD kD BD GC gC kC BC GU (PySem.W.mg_of X G aU) kU BU GF (PySem.W.mg_of X G aF) kF BF
    have GW : FnOk l.prog w K mg base CX0 5 fW _ ["_law_source_here", "_law_most", "_law_spread"] (spIvs K) := ok_ivs FW GD gD kD BD GH (PySem.W.mg_of X G aH) kH BH GV (PySem.W.mg_of X G aV) kV BV (PySem.W.mg_none_of X G b13) (PySem.W.mg_none_of X G b11)
    have GY : FnOk l.prog w K mg base CX0 3 fY _ ["_law_source_here", "_law_intervals_here"] (spBent K) := ok_bent FY GD gD kD BD GC gC kC BC (PySem.W.mg_none_of X G b2) (PySem.W.mg_none_of X G b1)
    have OA : OutAt K mg fO := ⟨_, _, _, _, _, _, _, _, _, PySem.W.mg_of X G aO, kO, lO, cO, BO⟩
    have GT := ok_two (P := l.prog) (w := w) OA (PySem.W.mg_of X G gCQ) (PySem.W.mg_of X G gCN) X1 X2 GC gC kC BC GR (PySem.W.mg_of X G aR) kR BR lT cTc (TB (cT, PT) (.tail _ (.head _)))
    exact ok_law ⟨PySem.W.mg_of X G aS, kS, BS, ok_src FS (PySem.W.mg_none_of X G b1), gD, kD, BD, GD, gC, kC, BC, GC, PySem.W.mg_of X G aW, kW, BW, GW, PySem.W.mg_of X G aY, kY, BY, GY,
      PySem.W.mg_of X G aM, kM, BM, ok_same FM (PySem.W.mg_of X G aM) BM ⟨(PySem.W.mg_none_of X G b3), (PySem.W.mg_none_of X G b1), (PySem.W.mg_none_of X G b4), (PySem.W.mg_none_of X G b2), (PySem.W.mg_none_of X G b5), (PySem.W.mg_none_of X G b7), (PySem.W.mg_none_of X G b8), (PySem.W.mg_none_of X G b6), (PySem.W.mg_none_of X G b9), (PySem.W.mg_none_of X G b10)⟩ 3,
      PySem.W.mg_of X G aR, kR, BR, GR, PySem.W.mg_of X G aT, kT, BT, GT, PySem.W.mg_of X G gCQ, PySem.W.mg_of X G gCN, X1, X2, (PySem.W.mg_none_of X G b11), (PySem.W.mg_none_of X G b1), (PySem.W.mg_none_of X G b2)⟩ OA tne lX cXc (TB (cX, PX) (.head _))
end Dw
open PySem PySem.W PyProof.Rows
set_option maxRecDepth 100000 in
set_option maxHeartbeats 0 in
theorem PySem.Challenge.cw_doubtwell_k03_interval_lists_are_validat_holds : PySem.Challenge.rw_doubtwell_k03_interval_lists_are_validat.Holds := by
  w_on; o_law; k_head; (case hw => w_witness2)
  k_fill
  refine LamX.walk_ofOwn (l := PySem.Challenge.rw_doubtwell_k03_interval_lists_are_validat) (n := 63) (k := 10) (x := "_law_script") (CX := fun _ => L2.CX0) rfl (by decide) rfl ⟨rfl, by decide, by decide⟩ (by decide +kernel) (fun w h Y => PySem.W.km_in_of Y) ?F (fun _ _ _ _ _ h => h)
  case F =>
    intro w mg fa h Y KX G hmg own
    refine' Dw.all_mk KX G hmg own ?aG ?lG ?cG ?kG ?aJ ?lJ ?cJ ?kJ ?aA ?lA ?cA ?kA ?aB ?lB ?cB ?kB ?aN ?lN ?cN ?kN ?aK ?lK ?cK ?kK ?aP ?lP ?cP ?kP ?aR ?lR ?cR ?kR ?aAA ?lAA ?cAA ?kAA ?aS ?lS ?cS ?kS ?aD ?lD ?cD ?kD ?aC ?lC ?cC ?kC ?aH ?lH ?cH ?kH ?aM ?lM ?cM ?kM ?aO ?lO ?cO ?kO ?aL ?lL ?cL ?kL ?aE ?lE ?cE ?kE ?aF ?lF ?cF ?kF ?aU ?lU ?cU ?kU ?aV ?lV ?cV ?kV ?aW ?lW ?cW ?kW ?aY ?lY ?cY ?kY ?lQ ?cQ ?kQ ?dQ ?lI ?cI ?kI ?dI ?lZ ?cZ ?kZ ?dZ ?gCQ ?gCN ?gCI ?gCZ ?fQi ?rQ ?gQ ?zb ?zi ?zt ?xI ?rI ?sI ?eI ?yI ?pI ?iI ?uI ?n0I ?wgI ?whI ?weI ?zsI ?xZ ?rZ ?sZ ?eZ ?yZ ?pZ ?iZ ?uZ ?n0Z ?wgZ ?whZ ?weZ ?zsZ ?vV ?v6 ?v24 ?aX ?lX ?cXc ?oX ?tX ?hX ?nX ?aT ?lT ?cTc ?oT ?tT ?hT ?nT ?kT ?gPT ?tne ?b0 ?b1 ?b2 ?b3 ?b4 ?b5 ?b6 ?b7 ?b8 ?b9 ?b10 ?b11 ?b12 ?b13 ?b14
    (case aG => k_is)
    (case lG => k_is)
    (case cG => k_is)
    (case kG => k_is)
    (case aJ => k_is)
    (case lJ => k_is)
    (case cJ => k_is)
    (case kJ => k_is)
    (case aA => k_is)
    (case lA => k_is)
    (case cA => k_is)
    (case kA => k_is)
    (case aB => k_is)
    (case lB => k_is)
    (case cB => k_is)
    (case kB => k_is)
    (case aN => k_is)
    (case lN => k_is)
    (case cN => k_is)
    (case kN => k_is)
    (case aK => k_is)
    (case lK => k_is)
    (case cK => k_is)
    (case kK => k_is)
    (case aP => k_is)
    (case lP => k_is)
    (case cP => k_is)
    (case kP => k_is)
    (case aR => k_is)
    (case lR => k_is)
    (case cR => k_is)
    (case kR => k_is)
    (case aAA => k_is)
    (case lAA => k_is)
    (case cAA => k_is)
    (case kAA => k_is)
    (case aS => k_is)
    (case lS => k_is)
    (case cS => k_is)
    (case kS => k_is)
    (case aD => k_is)
    (case lD => k_is)
    (case cD => k_is)
    (case kD => k_is)
    (case aC => k_is)
    (case lC => k_is)
    (case cC => k_is)
    (case kC => k_is)
    (case aH => k_is)
    (case lH => k_is)
    (case cH => k_is)
    (case kH => k_is)
    (case aM => k_is)
    (case lM => k_is)
    (case cM => k_is)
    (case kM => k_is)
    (case aO => k_is)
    (case lO => k_is)
    (case cO => k_is)
    (case kO => k_is)
    (case aL => k_is)
    (case lL => k_is)
    (case cL => k_is)
    (case kL => k_is)
    (case aE => k_is)
    (case lE => k_is)
    (case cE => k_is)
    (case kE => k_is)
    (case aF => k_is)
    (case lF => k_is)
    (case cF => k_is)
    (case kF => k_is)
    (case aU => k_is)
    (case lU => k_is)
    (case cU => k_is)
    (case kU => k_is)
    (case aV => k_is)
    (case lV => k_is)
    (case cV => k_is)
    (case kV => k_is)
    (case aW => k_is)
    (case lW => k_is)
    (case cW => k_is)
    (case kW => k_is)
    (case aY => k_is)
    (case lY => k_is)
    (case cY => k_is)
    (case kY => k_is)
    (case gCQ => k_is)
    (case gCN => k_is)
    (case gCI => k_is)
    (case gCZ => k_is)
    (case fQi => k_is)
    (case rQ => k_is)
    (case gQ => k_is)
    (case zb => k_is)
    (case zi => k_is)
    (case zt => k_is)
    (case xI => k_is)
    (case rI => first | k_is | rfl | kernel_rfl)
    (case sI => k_is)
    (case eI => k_is)
    (case yI => k_is)
    (case pI => k_is)
    (case iI => k_is)
    (case uI => k_is)
    (case n0I => k_is)
    (case wgI => k_is)
    (case whI => k_is)
    (case weI => k_is)
    (case zsI => k_is)
    (case xZ => k_is)
    (case rZ => first | k_is | rfl | kernel_rfl)
    (case sZ => k_is)
    (case eZ => k_is)
    (case yZ => k_is)
    (case pZ => k_is)
    (case iZ => k_is)
    (case uZ => k_is)
    (case n0Z => k_is)
    (case wgZ => k_is)
    (case whZ => k_is)
    (case weZ => k_is)
    (case zsZ => k_is)
    (case vV => first | k_is | rfl | kernel_rfl)
    (case v6 => k_is)
    (case v24 => k_is)
    (case aX => k_is)
    (case lX => k_is)
    (case cXc => k_is)
    (case oX => k_is)
    (case tX => first | rfl | k_is)
    (case hX => first | k_is | rfl | kernel_rfl)
    (case nX => first | k_is | rfl | kernel_rfl)
    (case aT => k_is)
    (case lT => k_is)
    (case cTc => k_is)
    (case oT => k_is)
    (case tT => first | rfl | k_is)
    (case hT => first | k_is | rfl | kernel_rfl)
    (case nT => first | k_is | rfl | kernel_rfl)
    (case kT => k_is)
    (case b0 => k_is)
    (case b1 => k_is)
    (case b2 => k_is)
    (case b3 => k_is)
    (case b4 => k_is)
    (case b5 => k_is)
    (case b6 => k_is)
    (case b7 => k_is)
    (case b8 => k_is)
    (case b9 => k_is)
    (case b10 => k_is)
    (case b11 => k_is)
    (case b12 => k_is)
    (case b13 => k_is)
    (case b14 => k_is)
    (case lQ => k_is)
    (case cQ => k_is)
    (case kQ => k_is)
    (case dQ => k_is)
    (case lI => k_is)
    (case cI => k_is)
    (case kI => k_is)
    (case dI => k_is)
    (case lZ => k_is)
    (case cZ => k_is)
    (case kZ => k_is)
    (case dZ => k_is)
    (case gPT => exact PySem.W.km_tabs_of Y _ (by decide))
    (case tne => decide)
