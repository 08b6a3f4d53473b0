import PyProof.Rows.All
import Wide.All
import OpenK.AllK
import Wide.FinOn
import HandS.Lambda
import HandS.ForMost
import HandS.ForExc
import HandS.ExcInit
import HandS.ExcField
import HandS.EndTab
import HandS.Defaults
import HandS.Wide
import HandS.IsInst
import HandS.ClsMeth
import HandS.Zip
import HandS.Codes
import HandS.CallSlots
import HandS.FStr
import HandS.FStrTup
import HandS.DictComp
import HandS.More
import HandS.Strs
import HandS.SortInts
import KE.SortData
import HandS.TupSets
import HandS.Walk
import HandS.Style
import HandS.TupAny
import HandS.TupLe
import HandS.Deep
import KE.DataMinMax
import HandS.Ends
import HandS.Exc
import KE.KItem
import HandS.EndOwn
import KE.KNestM
import PySem.Challenge.RW_doubtwell_k12_required_items_by_bounds
set_option Elab.async false
set_option linter.all false
set_option maxRecDepth 100000
set_option maxHeartbeats 4000000
set_option exponentiation.threshold 9000
/-! DwTab -/
/-! the defs of this law that make lambdas, and where their tables lie -/
namespace Dd
open PySem PySem.Spec PyProof.Rows L2
def lamNames : List Str := []
def codeTab (vs : Array Value) : Addr :=
  match vs[11]? with
  | some (Value.ref P) => P
  | _ => 0
def tabOf (K : PySem.W.Frag) (x : Str) : Addr :=
  match PySem.W.nsIn K mainGlobals x with
  | some (some (Value.ref fa)) =>
    match K.lookup fa with
    | some ⟨_, _, .func fd, _⟩ =>
      match fd.code with
      | Value.ref c =>
        match K.lookup c with
        | some ⟨_, _, .fields vs, _⟩ => codeTab vs
        | _ => 0
      | _ => 0
    | _ => 0
  | _ => 0
def theTab (K : PySem.W.Frag) : List (Addr × Str) := lamNames.map fun x => (tabOf K x, x ++ ".<locals>." ++ "<lambda>")
end Dd
/-! DwRules -/
namespace Dw
open PySem PySem.Spec PyProof.Rows L2
/-! ### rules of our own -/
/-- x // y of great ints, y of either sign -/
def CDivZ (_ y : Int) : Prop := y ≠ 0 ∧ y.natAbs.log2 < 9000
theorem op_fdivZ {X : Cx} : OpR X (binaryOp .FloorDiv) (rI CDivZ fun x y => .int (x.fdiv y)) :=
  opI fun _ _ _ _ _ _ _ ok want => floordiv_int ok.1 want (.inl (PyProof.noPylong_of_log2 ok.2))
theorem divZ_of {x y : Int} {n : Nat} (ne : y ≠ 0) (lt : y.natAbs < 2 ^ n) (pos : 0 < n) (le : n ≤ 9000) : CDivZ x y :=
  ⟨ne, Nat.lt_of_lt_of_le (PySem.Flt.log2_lt_of pos lt) le⟩
/-- C.m(e, ..), C a class of the text, m a def of it -/
theorem pe_clsfn {X : Cx} {CX : CXT} {k : Nat} {f C : Addr} {fd : FuncData} {ps : List Str} {sp : Sp} {dvs : List V} {ds : List Value} {E : XK} {x m : Str} {mc : Value}
    {p1 p2 pos : Pos} {e : Expr} {es : List Expr} {t : TA} {pl : Sem Bool} (G : FnOk X.prog X.w X.K X.mg X.base CX k f fd ps sp) (room : Room k X.A) (gl : Gl X x) (isC : X.mg x = some (.ref C))
    (rd : ClX.CRead X.K C mc) (fnd : PySem.W.findCls X.K (.ref C) mc m = some (.val (.ref f))) (kp : PySem.W.keepIn X.K (.ref f) = true) (bn : L2.Binds X.K fd ps ds) (dv : Vals dvs ds) (pas : Passes CX X E)
    (ha : PA X (e :: es) t) (nd : (x == ("__debug__" : Str)) = false := by decide)
    (ev : eval (.Call (.Attribute (.Name x p1) m p2) (e :: es) [] pos) X.env = (do
        let who ← eval (.Name x p1) X.env
        standAt p2.atName
        let (fn, fst) ← holding [who] (getMethod who m pl)
        callWith pos fn fst (backTo pos (starEach (e :: es) X.env)) (backToKw pos (keywordEach [] X.env))) := by rfl)
    (st : starEach (e :: es) X.env = (false, eval e X.env) :: starEach es X.env := by rfl) (ns : (backTo pos (starEach es X.env)).any (·.1) = false := by rfl) :
    PE X (.Call (.Attribute (.Name x p1) m p2) (e :: es) [] pos) (tCall sp dvs E t) := by
  refine ⟨fun pins s σ H Q J rd0 => ?_⟩
  refine PySem.W.methodCall_KW (ld_glob J gl isC ?_ nd) ev
  refine PySem.W.method_cls J.kIn rd.ga (PySem.W.cls_value J.kIn rd.rd fnd rfl ?_)
  have J1 := J.tok (s.toks + 1)
  refine PySem.W.callWith_K (h₀ := X.base) J.ok.mod.kin kp ?_ st ns
  refine thn (ha.run pos pins _ σ H _ J1 rd0) fun us s1 got => ?_
  obtain ⟨vs, H1, J2, rv, q⟩ := got
  exact ⟨J2.kIn, run_fn G room bn dv pas J2 rv q⟩
/-- err.f, the error's class told where it is read -/
theorem pe_xfE {X : Cx} {a : Addr} {oe : Obj} {cls : Value} {d : Option Addr} {pn : List (Addr × Obj)} {e : Expr} {te : TE} {pos : Pos} {n : Str} (hz : Zc cls d oe) (hf : ∃ vs, oe.data = .fields vs)
    (he : PE (X.suite a ((a, oe) :: pn)) e te) (hb : attributeBase e n X.env (eval e X.env) = eval e X.env := by rfl) :
    PE (X.suite a ((a, oe) :: pn)) (.Attribute e n pos) (fun σ H Q => ∃ C, XfC X.K C ∧ PySem.W.findIn X.K (.ref C) n = some none ∧ tXf a cls d C n te σ H Q) :=
  ⟨fun pins s σ H Q J ⟨_, xf, nf, z⟩ => (pe_xf xf nf hz hf he hb).run pins s σ H Q J z⟩
/-! ### try: .. except A as n: .. except B as n: .. -/
abbrev Suite := Addr → Value → Option Addr → TS
/-- behind the suite the name is gone -/
def endAs (i : Nat) (D : Ends) : Ends where
  nx := fun σ H => D.nx (σ.set i none) H
  rt := D.rt
  bk := fun σ H => D.bk (σ.set i none) H
  ct := fun σ H => D.ct (σ.set i none) H
def wAll (K : PySem.W.Frag) (i : Nat) (out : WX) (D : Ends) : List (Value × Suite) → WX
  | [] => out
  | (c, ts) :: more => fun cls d σ H => ∃ b, PySem.W.exmOne K cls c = some b ∧ (b = true → ∀ a, H a = none → ts a cls d (endAs i D) (σ.set i (some (.ref a))) H) ∧ (b = false → wAll K i out D more cls d σ H)
inductive Clauses (X : Cx) (n : Str) : List ExceptHandler → List (Value × Suite) → Prop
  | none : Clauses X n [] []
  | one {x : Str} {c : Value} {ts : Suite} {st : Stmt} {su : List Stmt} {q1 q2 : Pos} {more : List ExceptHandler} {l : List (Value × Suite)} (nm : Names X x c)
      (run : ∀ (a : Addr) (oe : Obj) (cls : Value) (d : Option Addr) (pn : List (Addr × Obj)), Zc cls d oe → (∃ vs, oe.data = .fields vs) → PSs (X.suite a ((a, oe) :: pn)) (st :: su) (ts a cls d))
      (rest : Clauses X n more l) : Clauses X n (.ExceptHandler (some (.Name x q1)) (some n) (st :: su) q2 :: more) ((c, ts) :: l)
section
variable {X : Cx} {n : Str} {i : Nat} {body : List Stmt} {hd : ExceptHandler} {more : List ExceptHandler} {l : List (Value × Suite)} {pos : Pos} {tb : WX → TS} {out : WX}
theorem ps_try_all (hs : X.stack = X.env :: X.outer) (hf : X.env.frame = some X.env.locals) (hN : X.N.Nodup) (hi : X.N[i]? = some n) (hln : X.env.kindOf n = some .local) (tk : Takes X out)
    (hb : ∀ (W : WX) (pn : List (Addr × Obj)) (xe : Value → Shared → Prop), Takes (X.tr pn xe) W → PassesOwn (model X.prog X.w) X.A X.env xe → PSs (X.tr pn xe) body (tb W))
    (cl : Clauses X n (hd :: more) l) : PS X (.Try body (hd :: more) [] [] pos) (fun D σ H => tb (wAll X.K i out D l) D σ H) := by
  refine ⟨fun pins s σ H D J0 h => ?_⟩
  have ok := J0.ok
  have frm : X.A.frames = some (X.env :: X.outer) := by rw [ok.frames, hs]
  have isLoc : Loc X.env.scope n := .inl hln
  refine wpAny_Try_except (wpAny_mono ((hb (wAll X.K i out D l) (X.pn ++ pins)
    (fun e s₁ => wpAny (model X.prog X.w) X.A (noteFrame e X.env) (fun _ s₂ => wpAny (model X.prog X.w) X.A (setFlight e none)
      (fun _ s₃ => wpAny (model X.prog X.w) X.A (handleBy e X.env (hd :: more)) (SP X pins D) X.xe s₃) X.xe s₂) X.xe s₁)
    (fun u s' air => ?_) PassesOwn.looking).run [] s σ H D (J0.toTry _) h) (fun f s1 sp => ?_) (fun _ _ z => z))
  · obtain ⟨a, B, sI, _, σ', H', cls, d, rfl, Jt, nb, up, sky, na, os, ag, wish⟩ := air
    have J : Inv X pins σ' H' sI := Jt.ofTry ok
    show wpAny (model X.prog X.w) X.A (noteFrame (.ref a) X.env) _ _ _
    refine Sky.land Zc.steady frm hf (by rw [← hs]; exact sky) fun h3 fl3 up3 => ?_
    have J3 : Inv X pins σ' H' { s' with heap := h3 } := J.landed nb fl3.1 (up.trans up3) os ag
    obtain ⟨oe3, vs3, at3, zc3, da3⟩ := fl3.there
    have off : a ∉ frs (X.env :: X.outer) := fun mem => by
      obtain ⟨_, o', at', no⟩ := fl3.2.2.1.mem mem
      rw [at3] at at'
      cases at'
      exact no _ da3
    have nL : a ≠ X.env.locals := fun z => off (List.mem_filterMap.mpr ⟨X.env, List.mem_cons_self, by rw [hf, z]⟩)
    have nF : a ∉ X.fs := fun mem => by
      obtain ⟨e, he, q⟩ := List.mem_filterMap.mp mem
      exact off (List.mem_filterMap.mpr ⟨e, List.mem_cons_of_mem _ he, q⟩)
    have S3 := J3.suite at3 da3 na nL nF
    have go : ∀ {hs' : List ExceptHandler} {l' : List (Value × Suite)}, Clauses X n hs' l' → wAll X.K i out D l' cls d σ' H' →
        wpAny (model X.prog X.w) X.A (handleBy (.ref a) X.env hs') (SP X pins D) X.xe { s' with heap := h3 } := by
      intro hs' l' cs
      induction cs with
      | none =>
        intro wsh
        refine wpAny_handleBy_nil ?_
        obtain ⟨_, _, _, oe, vs, T, oT, ts', he, hz, hdd, h1, hr⟩ := id fl3
        unfold PySem.passOn
        refine wpAny_bind (wpAny_field he hdd h1 ?_)
        rw [if_neg (show ¬ ((Value.ref T == Value.none) = true) from by simp)]
        have last : wpAny (model X.prog X.w) X.A (setFlight (.ref a) X.env.frame) (fun _ s4 => wpAny (model X.prog X.w) X.A (throw (.ref a) : Sem Flow) (SP X pins D) X.xe s4) X.xe { s' with heap := h3 } := by
          rw [hf]
          refine HandSPX.setFlight_upZ fl3 fun h4 held up4 => wpAny_throw (tk _ _ ⟨a, B, sI, pins, σ', H', cls, d, rfl, J, nb, (up.trans up3).trans up4, .inr (.inr (by rw [hs]; exact held)), na, os, ag, wsh⟩)
        first
          | exact wpAny_bind (wpAny_pure (wpAny_bind last))
          | exact wpAny_bind last
      | @one x c ts st su q1 q2 more2 l2 nm run rest ih =>
        intro wsh
        obtain ⟨b, is, yes, no⟩ := wsh
        refine wpAny_handleBy_cons (codeAny_handlers_test ?_) (by intro z; cases z)
        have LT : PySem.W.Looks (model X.prog X.w) h3 (typeOf (.ref a)) cls := fun A Q E s k q => wpAny_typeOf_ref (k _ _ at3) (by rw [zc3.1]; exact q)
        have LM := PySem.W.exm_one (M := model X.prog X.w) J3.kIn LT is
        have look : ∀ {Q : Value → Shared → Prop} {E : Value → Shared → Prop}, Q c { s' with heap := h3 } →
            wpAny (model X.prog X.w) (X.A.mark (some (.ref a))) (eval (.Name x q1) X.env) Q E { s' with heap := h3 } := fun {Q E} q => by
          obtain ⟨g1, g2, g3 | ⟨g3, g4, g5⟩⟩ := nm
          · exact ld_glob (X := X.suite a ((a, oe3) :: (X.pn ++ pins))) S3 g1 g3 q g2
          · exact ld_blt (X := X.suite a ((a, oe3) :: (X.pn ++ pins))) S3 g1 g3 g4 q g5 g2
        refine look (LM.here ?_)
        cases b with
        | true =>
          refine codeAny_handlers_suite_as (HandSPX.lands_againZ fl3 fun h4 fl4 up4 => ?_)
          have J4 : Inv X pins σ' H' { s' with heap := h4 } := J.landed nb fl4.1 ((up.trans up3).trans up4) os ag
          obtain ⟨oe4, vs4, at4, zc4, da4⟩ := fl4.there
          refine store_ok (X := X.suite a ((a, oe4) :: (X.pn ++ pins))) (v := .ref a) (J4.suite at4 da4 na nL nF) hN hi isLoc rfl (fun s5 S5 => ?_) (.inr hln)
          refine wpAny_mono ((run a oe4 cls d (X.pn ++ pins) zc4 ⟨_, da4⟩).run [] s5 _ H' _ S5 (yes rfl a na)) (fun f s6 sp => ?_) (fun _ _ z => z.elim)
          have fin : ∀ {σ6 : L2.St} {H6 : Hp} {Q : Shared → Prop}, Inv (X.suite a ((a, oe4) :: (X.pn ++ pins))) [] σ6 H6 s6 → (∀ s7, Inv X pins (σ6.set i none) H6 s7 → Q s7) →
              wpAny (model X.prog X.w) X.A (do bindName X.env n .none; unbindBehindTheSuite X.env n q2) (fun _ s7 => Q s7) X.xe s6 := fun {σ6 H6 Q} S6 hq => gone_ok (S6.unsuite ok) hN hi hln hq
          cases f with
          | next => exact let ⟨σ6, H6, S6, q6⟩ := sp; fin S6 fun s7 J7 => ⟨_, _, J7, q6⟩
          | brk => exact let ⟨σ6, H6, S6, q6⟩ := sp; fin S6 fun s7 J7 => ⟨_, _, J7, q6⟩
          | cont => exact let ⟨σ6, H6, S6, q6⟩ := sp; fin S6 fun s7 J7 => ⟨_, _, J7, q6⟩
          | ret u => exact let ⟨v6, σ6, H6, S6, r6, q6⟩ := sp; fin S6 fun s7 J7 => ⟨_, _, _, J7, r6, q6⟩
        | false =>
          show wpAny _ X.A (handleBy (.ref a) X.env more2) _ _ _
          exact ih (no rfl)
    exact go cl wish
  · cases f with
    | next => exact let ⟨σ', H', J', q⟩ := sp; wpAny_execs_nil ⟨σ', H', J'.ofTry ok, q⟩
    | brk => exact let ⟨σ', H', J', q⟩ := sp; ⟨σ', H', J'.ofTry ok, q⟩
    | cont => exact let ⟨σ', H', J', q⟩ := sp; ⟨σ', H', J'.ofTry ok, q⟩
    | ret u => exact let ⟨v, σ', H', J', r, q⟩ := sp; ⟨v, σ', H', J'.ofTry ok, r, q⟩
end
/-- f(k = v, ..): keywords alone -/
theorem pe_callN0 {X : Cx} {CX : CXT} {k : Nat} {f : Addr} {fd : FuncData} {ps ks : List Str} {sp : Sp} {E : XK} {x : Str} {p pos : Pos} {kws : List Keyword} {tk : TA} {g : List Value → List Value → List Value} {gV : List V → List V → List V}
    (G : FnOk X.prog X.w X.K X.mg X.base CX k f fd ps sp) (room : Room k X.A) (gl : Gl X x) (isF : X.mg x = some (.ref f)) (kp : PySem.W.keepIn X.K (.ref f) = true) (bn : KBn X.K fd ps 0 ks g gV) (pas : Passes CX X E) (kw : PK X kws tk)
    (all : (backToKw pos (keywordEach kws X.env)).all (·.1.isSome) = true := by rfl) (nms : (backToKw pos (keywordEach kws X.env)).filterMap (·.1) = ks := by rfl) (nd : (x == ("__debug__" : Str)) = false := by decide)
    (pl : ((backTo pos (starEach [] X.env)).any (·.1) || (backToKw pos (keywordEach kws X.env)).any (·.1.isNone)) = false := by rfl) : PE X (.Call (.Name x p) [] kws pos) (tCallN 0 ks.length sp gV E tNil tk) := by
  refine ⟨fun pins s σ H Q J h => ?_⟩
  refine wpAny_Call_Name_kw (ld_glob J gl isF ?_ nd)
  refine PySem.W.callWith_KW0 (h₀ := X.base) J.ok.mod.kin kp all ?_ pl
  refine thn (kw.run pos pins s σ H _ J h) fun ws s2 got => ?_
  obtain ⟨zs, H2, J2, rz, l1, l2, q⟩ := got
  refine ⟨J2.kIn, ?_⟩
  rw [nms]
  exact run_fnN (us := []) (vs := []) G room bn pas J2 .nil rz l1 l2 q
/-- a block read by a weaker word -/
theorem pss_imp {X : Cx} {b : List Stmt} {t u : TS} (h : PSs X b t) (i : ∀ D σ H, u D σ H → t D σ H) : PSs X b u := ⟨fun pins s σ H D J q => h.run pins s σ H D J (i D σ H q)⟩
theorem pe_imp {X : Cx} {e : Expr} {t u : TE} (h : PE X e t) (i : ∀ σ H Q, u σ H Q → t σ H Q) : PE X e u := ⟨fun pins s σ H Q J q => h.run pins s σ H Q J (i σ H Q q)⟩
/-- xs[i], by values, where xs[i] op= e reads it -/
def rGetL (K : PySem.W.Frag) : V → V → Hp → VK → Prop := fun o i H Q => ∃ p xs j v, o = .ref p ∧ i = .int ((j : Nat) : Int) ∧ SqL K H p xs ∧ xs[j]? = some v ∧ Q v H
theorem get_list {X : Cx} : PGet X (rGetL X.K) := by
  intro pins s σ H o i ov iv Q J ro ri h
  obtain ⟨p, xs, j, v, rfl, rfl, hq, hx, q⟩ := h
  cases ro
  obtain ⟨t, rfl⟩ := ri
  obtain ⟨its, r, pl, hz⟩ := J.list hq
  obtain ⟨u, eu, ru⟩ := r.get hx
  have hj : j < xs.length := (List.getElem?_eq_some_iff.mp hx).1
  have hn := line63
  exact wpAny_getItem_list pl.isList (by omega) (by omega) (by simpa using eu) ⟨v, H, J, ru, q⟩
end Dw
/-! DwMore -/
namespace Dw
open PySem PySem.Spec PyProof.Rows L2
/-! ### {t!r}, t a pair of ints: some text -/
def tFmtP (K : PySem.W.Frag) (te : TE) : TE := fun σ H Q => te σ H fun x H1 => ∃ (a : Addr) (i j : Int), x = .ref a ∧ SqT K H1 a [.int i, .int j] ∧ i.natAbs < 10 ^ 500 ∧ j.natAbs < 10 ^ 500 ∧ ∀ m : Str, m.length ≤ 2000 → Q (.str m) H1
theorem txt_len {i : Int} (h : i.natAbs < 10 ^ 500) : (Str.ofString (toString i)).length ≤ 501 := by
  rw [PySem.ofString_length]
  exact int_text_length_le10 (by decide) h
theorem log_lt {i : Int} (h : i.natAbs < 10 ^ 500) : i.natAbs.log2 < 1920 := by
  by_cases z : i.natAbs = 0
  · rw [z]
    decide
  · have e : (10 : Nat) ^ 500 < 2 ^ 1920 := by decide +kernel
    exact (Nat.log2_lt z).mpr (Nat.lt_trans h e)
theorem pe_fmtRP {X : Cx} {e : Expr} {te : TE} {pos : Pos} {k : Nat} (room : Room k X.A) (he : PE X e te) : PE X (.FormattedValue e 114 none pos) (tFmtP X.K te) := by
  refine ⟨fun pins s σ H Q J h => ?_⟩
  refine wpAny_FormattedValue_repr (thn (he.run pins s σ H _ J h) fun v s1 hv => ?_)
  obtain ⟨x, H1, J1, r1, a, i, j, rfl, ht, hi, hj, q⟩ := hv
  cases r1
  obtain ⟨its, rv, ⟨o, ho, hcl, n, hd⟩, _⟩ := J1.tuple ht
  have hu := room.units
  obtain ⟨t1, t2, rfl⟩ : ∃ t1 t2, its = [.int i t1, .int j t2] := by
    cases rv with
    | cons z1 z2 =>
      cases z2 with
      | cons z3 z4 =>
        cases z4
        obtain ⟨t1, rfl⟩ := z1
        obtain ⟨t2, rfl⟩ := z3
        exact ⟨t1, t2, rfl⟩
  have l1 := txt_len hi
  have l2 := txt_len hj
  have lt := fmt_text [Str.ofString (toString i), Str.ofString (toString j)]
  have lp : piled [Str.ofString (toString i), Str.ofString (toString j)] ≤ 1006 := by
    rw [piled_cons, piled_cons]
    show _ + (_ + 0) ≤ _
    omega
  refine wpAny_pyReprObj_slot (by omega) ⟨o, ho, hcl⟩ F.slot_tuple_repr (fmt_tuple_repr (ts := [Str.ofString (toString i), Str.ofString (toString j)]) ho hcl hd (.cons (ReprIs.int t1 (log_lt hi)) (.cons (ReprIs.int t2 (log_lt hj)) .nil)) (by rw [sizeLine_eq]; omega) fun m u tk hm => ⟨m, u, rfl, ?_⟩)
  have lm : m.length ≤ 2000 := by omega
  exact wpAny_formatField_str ⟨.str m, H1, J1.tok _, ⟨_, rfl⟩, q m lm⟩ ⟨.str m, H1, J1.tok _, ⟨_, rfl⟩, q m lm⟩ (by rw [sizeLine_eq]; omega)
/-! ### sorted(xs), xs a list that reads as data -/
open PySem.W in
def rSortData (K : PySem.W.Frag) : List V → Hp → VK → Prop := fun vs H Q => ∃ (a : Addr) (bs : List (V × PyData)), vs = [.ref a] ∧ SqL K H a (bs.map (·.1)) ∧ (∀ b ∈ bs, Dp K H b.1 b.2) ∧ AllAlike (bs.map (·.2)) ∧ Sortable (bs.map (·.2)) ∧ (∀ b ∈ bs, b.2.depth ≤ 30) ∧
  ∀ p, H p = none → Q (.ref p) (upd H p (.lst ((bs.mergeSort (dataLe false (·.2))).map (·.1))))
theorem each_vals {α : Type} {f : α → V} : ∀ {bs : List α} {its : List Value}, Vals (bs.map f) its → PySem.W.EachIs (fun v b => RelV (f b) v) its bs
  | [], _, r => by
    cases r
    exact .nil
  | b :: bs, _, r => by
    cases r with
    | cons r1 r2 => exact .cons r1 (each_vals r2)
theorem vals_each {α : Type} {f : α → V} : ∀ {bs : List α} {its : List Value}, PySem.W.EachIs (fun v b => RelV (f b) v) its bs → Vals (bs.map f) its
  | [], _, r => by
    cases r
    exact .nil
  | b :: bs, _, r => by
    cases r with
    | cons r1 r2 => exact .cons r1 (vals_each r2)
theorem each_reads {X : Cx} {pins : List (Addr × Obj)} {σ : L2.St} {H : Hp} {s : Shared} (J : Inv X pins σ H s) : ∀ {bs : List (V × PyData)} {its : List Value}, Vals (bs.map (·.1)) its → (∀ b ∈ bs, Dp X.K H b.1 b.2) → PySem.W.EachIs (fun v b => ∃ as, Reads s.heap v b.2 as) its bs
  | [], _, r, _ => by
    cases r
    exact .nil
  | b :: bs, _, r, h => by
    cases r with
    | cons r1 r2 => exact .cons (Dp.reads J b.2 b.1 _ (h b List.mem_cons_self) r1) (each_reads J r2 fun c hc => h c (List.mem_cons_of_mem _ hc))
theorem cr_sortData {X : Cx} (hu : X.A.units + 64 < cLine) : CallR X (.builtin "sorted") (rSortData X.K) := by
  intro pins s σ H vs us Q J r h
  obtain ⟨a, bs, rfl, hs, hd, al, so, dp, q⟩ := h
  obtain ⟨its, rv, hl, hz⟩ := J.list hs
  rw [Vals.ref1 r]
  rw [List.length_map] at hz
  refine PySem.W.sorted_data (R := fun v (b : V × PyData) => RelV b.1 v) (enc := fun b : V × PyData => b.2) hl.isList (each_vals rv) (each_reads J rv hd) al so hz (fun b hb => by have := dp b hb; omega) fun out lo eo => ?_
  obtain ⟨ep, at'⟩ := PyProof.Rows.sortedAll_at s.heap its out.toArray
  refine ⟨.ref _, upd H (s.heap.objs.size + 1) (.lst ((bs.mergeSort (PySem.W.dataLe false (·.2))).map (·.1))), J.laid (t' := s.toks) (fun _ _ => PyProof.Rows.sortedAll_old) (Nat.le_succ _) ⟨?_, out, ep, vals_each eo, at'⟩, rfl, q _ (J.hok.fresh (Nat.le_succ _))⟩
  rw [List.length_map, List.length_mergeSort]
  exact hz
end Dw
/-! DwMore2 -/
namespace Dw
open PySem PySem.Spec PyProof.Rows L2
theorem pss_never {X : Cx} {b : List Stmt} : PSs X b (fun _ _ _ => False) := ⟨fun _ _ _ _ _ _ h => h.elim⟩
/-! ### name = {k: v for ..} on one line -/
theorem sw_dict {kx vx : Expr} {gs : List Comprehension} {scope : Scope} {pos py : Pos} {y : Str} {l : Nat} {env : Env} (hk : env.scope.kind = .function) (hy : env.scope.names.lookup y = some .local) (hl : (py.line == pos.line) = true)
    (ha : (scope.names.any fun (n, k) => n == y && (k == .local || k == .cell)) = false) : swapsWith (.DictComp kx vx gs scope pos) (some (.Name y py)) l env = pure true := by
  have k1 : env.kindOf y = some .local := hy
  have k2 : env.blockKind = .function := by
    unfold Env.blockKind
    rw [hk]
    rfl
  unfold swapsWith
  simp only [k2, k1, ha, Expr.pos, hl]
  rfl
theorem ps_setDc {X : Cx} {i : Nat} {y : Str} {py : Pos} {kx vx tg iter : Expr} {ifs : List Expr} {scope : Scope} {own : List (Str × Nat)} {pos spos : Pos} {wi : TI} {g : TG} {tt : TT} {tk tv : TE} (hc : X.calm = true) (hN : X.N.Nodup) (hy : X.N[i]? = some y) (loc : X.env.scope.names.lookup y = some .local)
    (sw : swapsWith (.DictComp kx vx [⟨tg, iter, ifs, 0⟩] scope pos) (some (.Name y py)) spos.line X.env = pure true) (hi : PI X tg iter wi) (ok : BlkOk X.N X.env.scope scope own)
    (hg : ∀ (s : Shared) (H : Hp) (C : Addr) (cl : List (Str × Addr)) (fp : List Addr), PG (X.blk s H scope (compEnvC scope cl C X.env) fp) tg g) (ht : ∀ (s : Shared) (H : Hp) (C : Addr) (cl : List (Str × Addr)) (fp : List Addr), PTs (X.blk s H scope (compEnvC scope cl C X.env) fp) ifs tt)
    (hk : ∀ (s : Shared) (H : Hp) (C : Addr) (cl : List (Str × Addr)) (fp : List Addr), PE (X.blk s H scope (compEnvC scope cl C X.env) fp) kx tk)
    (hv : ∀ (s : Shared) (H : Hp) (C : Addr) (cl : List (Str × Addr)) (fp : List Addr), PE (X.blk s H scope (compEnvC scope cl C X.env) fp) vx tv) (hs : ∀ x, foldedSetIterable iter X.env x = pure x := by intro _; rfl) :
    PS X (.Assign [.Name y py] (.DictComp kx vx [⟨tg, iter, ifs, 0⟩] scope pos) spos) (tAsg (tDc wi g tt tk tv (own.map (·.2))) (gName i)) := by
  refine ⟨fun pins s σ H D J rd => ?_⟩
  rw [exec_Assign_Name_used _ _ _ _ sw]
  refine wpAny_bind (wpAny_standAt (wpAny_bind ?_))
  show wpAny _ X.A (do let _ ← comprehension (.DictComp kx vx [⟨tg, iter, ifs, 0⟩] scope pos) scope X.env (firstIterPos [⟨tg, iter, ifs, 0⟩] pos) newDict false (eval iter X.env) (some (assign (.Name y py) X.env))) _ _ s
  have rd' : tDc wi g tt tk tv (own.map (·.2)) σ H (fun x H1 => gName i x σ H1 D.nx) := rd
  refine wpAny_bind (thn (dc_core (Qf := fun _ s' => SP X pins D .next s') hc hN J hi ok hg ht hk hv hs rd' fun L C s' m H' J' q hn f => ?_) fun _ s' hq => wpAny_pure (wpAny_pure hq))
  show wpAny _ _ (assign (.Name y py) X.env (.ref L)) _ _ _
  refine wpAny_assign_Name (store_ok2 (v := V.ref L) J' hN hy (.inl loc) rfl (fun s2 J2 ⟨b, sb, hb⟩ => ?_) (.inr loc))
  obtain ⟨f0, f1, f2, f3, f4, f5⟩ := f
  have ne : C ≠ b := by
    rcases hb with z | z
    · rw [z]
      exact f1
    · exact fun e => f4 y b z e.symm
  exact ⟨m, hn.sameBut sb ne, fun h3 sb3 => ⟨_, H', J2.turned (t' := s2.toks) (fun b o nb e => (sb3.2 b nb).trans e) f0 f1 f3 f4 f5, q⟩⟩
/-- a dict comprehension over a list that stays -/
theorem dc_lst {K : PySem.W.Frag} {a : Addr} {xs : List V} {g : TG} {tt : TT} {tk tv : TE} {vs : List Nat} {σ : L2.St} {H1 : Hp} {D : Addr} {Qd : Hp → Prop} (Pv : Nat → Hp → Prop) (h0 : Pv 0 (upd H1 D (.dK []))) (hl : ∀ i H, Pv i H → SqL K H a xs)
    (hs : ∀ i x H, xs[i]? = some x → Pv i H → g x (wipe σ vs) H fun σ2 H2 => wipe σ2 vs = wipe σ vs ∧ tt σ2 H2 fun b H3 =>
      if b = true then tk σ2 H3 fun y H4 => tv σ2 H4 fun z H5 => ∃ kvs k, y = kV k ∧ H5 D = some (.dK kvs) ∧ kvs.length < sizeLine ∧ Pv (i + 1) (upd H5 D (.dK (putK kvs k z))) else Pv (i + 1) H3) (hd : ∀ H, Pv xs.length H → Qd H) :
    ∃ W : Nat → Nat → Hp → Prop, (∃ m, W 0 m (upd H1 D (.dK []))) ∧ ∀ i m H, W i m H →
      ((Itl K a).stop i H ∧ Qd H) ∨ ((Itl K a).go i H ∧ ∃ Nx : Hp → Prop, (∀ H', Nx H' → ∃ m', m' < m ∧ W (i + 1) m' H') ∧ ∀ x H', (Itl K a).yld i H x H' → g x (wipe σ vs) H' fun σ2 H2 => wipe σ2 vs = wipe σ vs ∧ tt σ2 H2 fun b H3 =>
        if b = true then tk σ2 H3 fun y H4 => tv σ2 H4 fun z H5 => ∃ kvs k, y = kV k ∧ H5 D = some (.dK kvs) ∧ kvs.length < sizeLine ∧ Nx (upd H5 D (.dK (putK kvs k z))) else Nx H3) := by
  refine ⟨fun i m H => m + i = xs.length ∧ Pv i H, ⟨xs.length, rfl, h0⟩, ?_⟩
  rintro i m H ⟨hm, p⟩
  have sq := hl i H p
  by_cases lt : i < xs.length
  · refine .inr ⟨⟨xs, xs[i], sq, List.getElem?_eq_getElem lt⟩, Pv (i + 1), fun H' p' => ⟨m - 1, by omega, by omega, p'⟩, fun x H' y => ?_⟩
    obtain ⟨rfl, y⟩ := y
    exact hs i x _ (y xs sq) p
  · obtain rfl : i = xs.length := by omega
    exact .inl ⟨⟨xs, sq, Nat.le_refl _⟩, hd H p⟩
end Dw
/-! DwSrc -/
namespace Dw
open PySem PySem.Spec PyProof.Rows L2
/-- at a: the source of draws -/
structure SrcIs (H : Hp) (a l : Addr) (ms : List Int) (i r s : Int) : Prop where
  ne : l ≠ a
  at_ : H a = some (.lst [.ref l, .int i, .int r, .int s])
  cells : H l = some (.lst (ms.map V.int))
  i0 : 0 ≤ i
  r0 : 0 ≤ r
  s0 : 0 ≤ s
  s1 : s < 2147483587
def Src (H : Hp) (a l : Addr) : Prop := ∃ ms i r s, SrcIs H a l ms i r s
/-- nothing but what stands at a is another -/
def But (a : Addr) (H H' : Hp) : Prop := ∀ b, b ≠ a → H' b = H b
theorem But.refl (a : Addr) (H : Hp) : But a H H := fun _ _ => rfl
theorem But.trans {a : Addr} {H H1 H2 : Hp} (x : But a H H1) (y : But a H1 H2) : But a H H2 := fun b h => (y b h).trans (x b h)
theorem But.upd {a : Addr} {H H' : Hp} {o : HO} (x : But a H H') : But a H (L2.upd H' a o) := fun b h => (upd_ne h).trans (x b h)
theorem cut_ints (ns : List Int) (lo hi : Option Int) : ∃ ms : List Int, cutV (ns.map V.int) lo hi = ms.map V.int := by
  unfold cutV
  exact ⟨_, by rw [← List.map_drop, ← List.map_take]⟩
theorem same_new {H : Hp} {p : Addr} {o : HO} (h : H p = none) : Same H (upd H p o) := fun b x e => by
  rw [upd_ne (ne_of_none e h)]
  exact e
/-- all but what stands at a stays; new things may come -/
def Keep (a : Addr) (H H' : Hp) : Prop := ∀ b o, b ≠ a → H b = some o → H' b = some o
theorem Keep.refl (a : Addr) (H : Hp) : Keep a H H := fun _ _ _ h => h
theorem Keep.trans {a : Addr} {H H1 H2 : Hp} (x : Keep a H H1) (y : Keep a H1 H2) : Keep a H H2 := fun b o n h => y b o n (x b o n h)
theorem But.keep {a : Addr} {H H' : Hp} (x : But a H H') : Keep a H H' := fun b o n h => (x b n).trans h
theorem Keep.of {a : Addr} {H H' : Hp} (x : Same H H') : Keep a H H' := fun b o _ h => x b o h
theorem Keep.seq {K : PySem.W.Frag} {a c : Addr} {H H' : Hp} {xs : List V} (x : Keep a H H') (n : c ≠ a) (h : SqL K H c xs) : SqL K H' c xs := by
  rcases h with (h | ⟨o, h⟩) | h
  · exact .inl (.inl (x _ _ n h))
  · exact .inl (.inr ⟨o, x _ _ n h⟩)
  · exact .inr h
theorem Src.upd_new {H : Hp} {a l p : Addr} {o : HO} (h : Src H a l) (n : H p = none) : Src (upd H p o) a l := by
  obtain ⟨ms, i, r, s, S⟩ := h
  exact ⟨ms, i, r, s, S.ne, by rw [upd_ne (ne_of_none S.at_ n)]; exact S.at_, by rw [upd_ne (ne_of_none S.cells n)]; exact S.cells, S.i0, S.r0, S.s0, S.s1⟩
theorem Src.ne_new {H : Hp} {a l p : Addr} (h : Src H a l) (n : H p = none) : p ≠ a := by
  obtain ⟨ms, i, r, s, S⟩ := h
  exact (ne_of_none S.at_ n).symm
theorem Src.ne_cells {H : Hp} {a l p : Addr} (h : Src H a l) (n : H p = none) : p ≠ l := by
  obtain ⟨ms, i, r, s, S⟩ := h
  exact (ne_of_none S.cells n).symm
/-- a list that is neither the source nor its cells may change -/
theorem Src.put {H : Hp} {a l p : Addr} {o : HO} (h : Src H a l) (n1 : p ≠ a) (n2 : p ≠ l) : Src (upd H p o) a l := by
  obtain ⟨ms, i, r, s, S⟩ := h
  exact ⟨ms, i, r, s, S.ne, by rw [upd_ne n1.symm]; exact S.at_, by rw [upd_ne n2.symm]; exact S.cells, S.i0, S.r0, S.s0, S.s1⟩
theorem same_upd {H H' : Hp} {p : Addr} {o : HO} (s : Same H H') (h : H p = none) : Same H (upd H' p o) := fun b x e => by
  rw [upd_ne (ne_of_none e h)]
  exact s b x e
def spSrc (K : PySem.W.Frag) : Sp := fun vs H Q _ => ∃ (a : Addr) (ns : List Int), vs = [.ref a] ∧ SqL K H a (ns.map V.int) ∧ ∀ H' p l, Same H H' → H p = none → H l = none → Src H' p l → Q (.ref p) H'
def spDraw : Sp := fun vs H Q _ => ∃ (a l : Addr) (c : Int), vs = [.ref a, .int c] ∧ Src H a l ∧ 0 < c ∧ c.natAbs < 2 ^ 8000 ∧ ∀ H' v, But a H H' → Src H' a l → 0 ≤ v → v < c → Q (.int v) H'
end Dw
/-! DwLam -/
namespace Dw
open PySem PySem.Spec PyProof.Rows L2 LamX
/-! ### a lambda handed to a def, what is raised wished for at the def's own slots -/
/-- an expression read by a stronger wish -/
theorem pe_mono {X : Cx} {e : Expr} {t : TE} (h : PE X e t) : PE X e (fun σ H Q => ∃ Q0 : VK, (∀ v H', Q0 v H' → Q v H') ∧ t σ H Q0) :=
  ⟨fun pins s σ H Q J ⟨Q0, m, q⟩ => thn (h.run pins s σ H Q0 J q) fun u s1 ⟨v, H1, J1, r, q1⟩ => ⟨v, H1, J1, r, m _ _ q1⟩⟩
section
variable {X : Cx} {pins : List (Addr × Obj)} {σ : L2.St} {H : Hp} {s : Shared}
abbrev gotCx (X : Cx) (Ng : List Str) (qg : Str) (sg : Scope) (g : Addr) (cdg : Value) (s : Shared) (H : Hp) : Cx := cxOf C8.CX0 X.prog X.w X.K X.mg X.base Ng qg sg g cdg X.A X.stack s H C8.E0
/-- a() in the def that got the lambda (its context is entered at s) -/
theorem pe_actS {Ng : List Str} {qg : Str} {sg : Scope} {g f c : Addr} {cdg pm ctv : Value} {ar : Arguments} {body : Expr} {scope : Scope} {k i : Nat} {a : Str} {pn : List (Addr × Obj)} {xe : Value → Shared → Prop} {W : WX} {E : XK} {σ0 : L2.St} {tb : TE} {p1 p2 : Pos}
    (J : Inv X pins σ H s) (ls : LamS X.env.scope scope) (hf : s.heap.get? f = some (PySem.W.kla_obj "<lambda>" (X.env.qual ++ "<lambda>") ar body scope (cloFrom X.env.cells scope.names []) pm c ctv)) (nf : H f = none) (off : f ∉ frs X.stack)
    (bnd : bindArgs (PySem.W.kla_fn "<lambda>" (X.env.qual ++ "<lambda>") ar body scope (cloFrom X.env.cells scope.names []) pm (.ref c) ctv) ⟨[], []⟩ = pure [])
    (tk : Takes ((gotCx X Ng qg sg g cdg s H).tr pn xe) W) (wish : ∀ cls d H', E cls d H' → W cls d σ0 H') (room : Room (k + 1) (X.A.deeper (envOfC qg sg s.heap.objs.size g cdg)))
    (run : ∀ (A : Around) (outer : List Env) (s : Shared) (H : Hp), Room k (A.deeper (lamEnv X scope s.heap.objs.size f c)) → PE (lamCx X A outer s H E scope f c) body tb)
    (hN : Ng[i]? = some a) (hv : Vis sg a) (hd : (a == ("__debug__" : Str)) = false := by decide) (hcd : (a == ("__classdict__" : Str)) = false := by decide) :
    PE ((gotCx X Ng qg sg g cdg s H).tr pn xe) (.Call (.Name a p1) [] [] p2)
      (fun σZ HZ Q => σZ = σ0 ∧ σZ[i]? = some (some (.ref f)) ∧ HZ c = some (CodeO c (X.env.qual ++ "<lambda>")) ∧ tb σ HZ Q) := by
  refine ⟨fun pz sz σZ HZ Q JZ rd => ?_⟩
  obtain ⟨rfl, slot, code, want⟩ := rd
  refine wpAny_Call_Name_kw (thn ((pe_var (pos := p1) (i := i) hN hv hd hcd).run pz sz σZ HZ (fun v H1 => v = .ref f ∧ H1 = HZ) JZ ⟨.ref f, slot, rfl, rfl⟩) fun u s1 got => ?_)
  obtain ⟨v, H1, J1, rv, rfl, rfl⟩ := got
  obtain rfl : u = Value.ref f := rv
  have un : Un (frs X.stack) [] H H1 s.heap s1.heap := J1.base
  have there := un.keep f _ hf nf off (fun z => nomatch (show f ∈ ([] : List Addr) from z))
  refine PySem.W.callWith_F0 ⟨_, _, _, _, there⟩ ?_
  obtain ⟨⟨oc, vs, t, co1, co2, co3⟩, _, _⟩ := J1.hok c _ code
  have ran : codeAny (model X.prog X.w) (X.A.deeper (envOfC qg sg s.heap.objs.size g cdg)) (.call (.ref f) ⟨[], []⟩)
      (CR (L2.CX X.prog X.w) (envOfC qg sg s.heap.objs.size g cdg :: X.stack) X.prog X.w H1 s1 Q E) s1 := by
    refine PySem.W.kla_callFunE room.depth there rfl ls.co ls.gen rfl ⟨c, oc, vs, t, rfl, co1, co2, co3⟩ ?_
    rw [bnd]
    refine wpAny_pure (wpAny_newFunctionEnv (fun y hy => (ls.own y hy).2) (fun y hy => absurd hy (by simp)) (fun h₁ ns sb => ⟨J1.nolimit.fresh _ sb, ?_⟩) ls.kind)
    show codeAny _ _ (.expr body (lamEnv X scope s1.heap.objs.size f c)) _ _
    have keeps : ∀ b o, s1.heap.get? b = some o → h₁.get? b = some o := fun b o e => sb.extBut b o (Nat.ne_of_lt (Heap.lt_size e)) (Heap.get?_push_of_some _ e)
    have JL := lam_start2 (A := X.A.deeper (envOfC qg sg s.heap.objs.size g cdg)) (outer := envOfC qg sg s.heap.objs.size g cdg :: X.stack) (E := E) (f := f) (c' := c) (tk := s1.toks + ([] : List (Str × Value)).length) J ls J1.env0 room.hd un ns keeps
    refine PySem.W.kla_codeExpr (wpAny_mono ((run _ _ s1 H1 (room.deeper _)).run [] _ _ H1 Q JL want) (fun v s' z => ?_) fun _ _ z => z)
    obtain ⟨v', H', JE, rv', q⟩ := z
    exact ⟨v', H', JE.os, JE.bare, JE.base, JE.hok, rv', q⟩
  refine wpAny_call (codeAny_mono ran fun r s' out => ?_)
  · cases r with
    | error e => exact tk e s' (XE.of_call J1 wish out)
    | ok fl =>
      cases fl with
      | ret u => exact J1.after out
      | _ => exact out.elim
/-- the def that calls what it got -/
def GivesS (X : Cx) (Ng : List Str) (x : Str) (sg : Scope) (g : Addr) (cdg : Value) (bg : List Stmt) (a q : Str) (TT : (XK → Hp → VK → Prop) → Hp → VK → Prop) : Prop :=
  ∀ (f c : Addr) (s : Shared) (H : Hp) (Q : VK) (tl : XK → Hp → VK → Prop),
    (∀ (W : WX) (pn : List (Addr × Obj)) (xe : Value → Shared → Prop) (E : XK) (σ0 : L2.St) (p1 p2 : Pos), Takes ((gotCx X Ng x sg g cdg s H).tr pn xe) W → (∀ cls d H', E cls d H' → W cls d σ0 H') →
      PE ((gotCx X Ng x sg g cdg s H).tr pn xe) (.Call (.Name a p1) [] [] p2) (fun σZ HZ Q => σZ = σ0 ∧ σZ[0]? = some (some (.ref f)) ∧ HZ c = some (CodeO c q) ∧ tl E HZ Q)) →
    H c = some (CodeO c q) → TT tl H Q → ∃ t, PSs (gotCx X Ng x sg g cdg s H).nox bg t ∧ t { nx := fun _ H' => Q .non H', rt := Q } (L2.start Ng [.ref f]) H
/-- x(lambda: body) -/
theorem pe_lamS {T : List (Addr × Str)} {TT : (XK → Hp → VK → Prop) → Hp → VK → Prop} {x a : Str} {g c P : Addr} {k : Nat} {pg : Arguments} {bg : List Stmt} {sg : Scope} {dV kV doc pm cdv ct oc : Value} {an od : Option Addr} {osl : Array (Option Value)} {Ng : List Str}
    {ar : Arguments} {body : Expr} {scope : Scope} {t : XK → TE} {p lpos pos : Pos} (gl : Gl X x) (isG : X.mg x = some (.ref g)) (kp : PySem.W.keepIn X.K (.ref g) = true)
    (lk : X.K.lookup g = some ⟨oc, od, .func (PySem.W.fnOf x x pg bg sg dV kV doc pm an cdv ct), osl⟩) (cg : PySem.W.codeIn X.K cdv x = true) (bn : L2.Binds X.K (PySem.W.fnOf x x pg bg sg dV kV doc pm an cdv ct) [a] []) (Sg : FnScope Ng [a] sg) (hNg : Ng[0]? = some a) (hva : Vis sg a)
    (G : GivesS X Ng x sg g cdv bg a (X.env.qual ++ "<lambda>") TT) (TB : LamX.TabB X.base X.mg c P) (code : X.env.code = .ref c) (inT : (P, X.env.qual ++ "<lambda>") ∈ T) (one : ∀ p ∈ T, p.1 = P → p.2 = X.env.qual ++ "<lambda>") (room : Room (k + 2) X.A) (ls : LamS X.env.scope scope)
    (nodef : defaultsOf ar X.env = ([], [])) (bnd : ∀ (q : Str) (cl : List (Str × Addr)) (pm cv ctv : Value), bindArgs (PySem.W.kla_fn "<lambda>" q ar body scope cl pm cv ctv) ⟨[], []⟩ = pure [])
    (run : ∀ (E : XK) (f c : Addr) (A : Around) (outer : List Env) (s : Shared) (H : Hp), Room k (A.deeper (lamEnv X scope s.heap.objs.size f c)) → PE (lamCx X A outer s H E scope f c) body (t E))
    (hdb : (x == ("__debug__" : Str)) = false := by decide) (hd : (a == ("__debug__" : Str)) = false := by decide) (hcd : (a == ("__classdict__" : Str)) = false := by decide) :
    PE X (.Call (.Name x p) [.Lambda ar body scope lpos] [] pos) (tLam T TT t) := by
  refine ⟨fun pins s σ H Q J rd => ?_⟩
  obtain ⟨tabs, rd⟩ := rd
  refine wpAny_Call_Name_kw (ld_glob J gl isG ?_ hdb)
  refine PySem.W.callWith_K (h₀ := X.base) J.ok.mod.kin kp ?_ (by rfl) (by rfl)
  show wpAny _ _ (spliced ((false, eval (.Lambda ar body scope lpos) X.env) :: backTo pos (starEach [] X.env))) _ _ s
  refine Calls.spliced_cons (lam_make2 J TB code inT one tabs nodef (ls.has J.ok) fun f c' pm' ctv H1 s' J1 ext tabs1 hf nf off hco => ?_)
  refine Calls.spliced_nil ⟨J1.kIn, ?_⟩
  have ran : codeAny (model X.prog X.w) X.A (.call (.ref g) ⟨[.ref f], []⟩) (CR C8.CX0 X.stack X.prog X.w H1 s' Q C8.E0) s' := by
    refine run_ofS (N := Ng) (ps := [a]) (us := [.ref f]) (vs := [.ref f]) lk cg Sg room J1.env0 (bn s' [.ref f] J1.kIn rfl) (.cons rfl .nil) rfl fun room' => ?_
    obtain ⟨t', ht, hq⟩ := G f c' s' H1 Q (fun E H' Q' => t E σ H' Q') (fun W pn xe E σ0 p1 p2 tk wish => pe_actS (i := 0) (tb := t E) J1 ls hf nf off (bnd _ _ _ _ _) tk wish room' (fun A outer s H rm => run E f c' A outer s H rm) hNg hva hd hcd) hco (rd H1 ext tabs1)
    exact ⟨t', ht.nox, hq⟩
  refine wpAny_call (codeAny_mono ran fun r s2 out => ?_)
  · cases r with
    | error e => exact (show False from out).elim
    | ok fl =>
      cases fl with
      | ret u => exact J1.after out
      | _ => exact out.elim
end
end Dw
/-! DwD1 -/
/-! A logic over data: a def of the text as a function on data, in the monad M of wishes. -/
namespace Dd
open PySem PySem.Spec PyProof.Rows L2
/-! ### the monad -/
structure Exn where
  C : Str
  fs : List (Str × PyData)
structure M (α : Type) where
  run : (α → Prop) → (Exn → Prop) → Prop
  mono : ∀ {P P' : α → Prop} {E E' : Exn → Prop}, (∀ a, P a → P' a) → (∀ e, E e → E' e) → run P E → run P' E'
namespace M
protected def pure {α : Type} (a : α) : M α := ⟨fun P _ => P a, fun h _ p => h _ p⟩
protected def bind {α β : Type} (m : M α) (f : α → M β) : M β := ⟨fun P E => m.run (fun a => (f a).run P E) E, fun h g p => m.mono (fun a q => (f a).mono h g q) g p⟩
instance : Monad M where
  pure := M.pure
  bind := M.bind
def fail {α : Type} : M α := ⟨fun _ _ => False, fun _ _ p => p⟩
def throw {α : Type} (e : Exn) : M α := ⟨fun _ E => E e, fun _ g p => g _ p⟩
def lift {α : Type} : Option α → M α
  | some a => M.pure a
  | none => M.fail
/-- some whole number from 0 on, below c -/
def anyI (c : Int) : M Int := ⟨fun P _ => ∀ v : Int, 0 ≤ v → v < c → P v, fun h _ p v a b => h _ (p v a b)⟩
/-- nothing is raised -/
def calm {α : Type} (m : M α) : M α := ⟨fun P _ => m.run P (fun _ => False), fun h _ p => m.mono h (fun _ z => z) p⟩
def when {α : Type} (b : Bool) (m : M α) : M α := if b = true then m else M.fail
def need (p : Prop) : M Unit := ⟨fun P _ => p ∧ P (), fun h _ q => ⟨q.1, h _ q.2⟩⟩
end M
theorem run_pure {α : Type} {a : α} {P : α → Prop} {E : Exn → Prop} : (pure a : M α).run P E ↔ P a := Iff.rfl
theorem run_bind {α β : Type} {m : M α} {f : α → M β} {P : β → Prop} {E : Exn → Prop} : (m >>= f).run P E ↔ m.run (fun a => (f a).run P E) E := Iff.rfl
theorem run_lift {α : Type} {o : Option α} {P : α → Prop} {E : Exn → Prop} : (M.lift o).run P E ↔ ∃ a, o = some a ∧ P a := by
  cases o with
  | none => exact ⟨fun h => h.elim, fun ⟨_, h, _⟩ => nomatch h⟩
  | some a => exact ⟨fun h => ⟨a, rfl, h⟩, fun ⟨_, h, p⟩ => by cases h; exact p⟩
theorem run_when {α : Type} {b : Bool} {m : M α} {P : α → Prop} {E : Exn → Prop} : (M.when b m).run P E ↔ b = true ∧ m.run P E := by
  unfold M.when
  cases b with
  | true => simp
  | false => exact ⟨fun h => h.elim, fun h => Bool.noConfusion h.1⟩
/-! ### data and what it is in the heap -/
inductive SD where
  | no
  | d (x : PyData)
  /-- the source of the draws -/
  | src
  /-- a list, a dict, that this def alone holds -/
  | own (xs : List PyData)
  | ownD (kvs : List (Key × PyData))
  /-- a built-in class -/
  | ty (n : String)
def keyD : Key → PyData
  | .inl i => .int i
  | .inr x => .str x
/-- no table of a lambda's code -/
def NT (o : HO) : Prop := ∀ ps, o ≠ .tbl ps
theorem nt_lst {xs : List V} : NT (.lst xs) := fun _ z => nomatch z
theorem nt_tup {xs : List V} : NT (.tup xs) := fun _ z => nomatch z
theorem nt_frz {o : Obj} {u : HO} : NT (.frz o u) := fun _ z => nomatch z
theorem nt_dK {xs : List (Key × V)} : NT (.dK xs) := fun _ z => nomatch z
/-- nothing, or a table at most, stands there -/
def Fr0 (H : Hp) (b : Addr) : Prop := ∀ o, H b = some o → ¬ NT o
theorem Fr0.of {H : Hp} {b : Addr} (h : H b = none) : Fr0 H b := fun o e => by rw [h] at e; cases e
def Fix : HO → Prop
  | .tup _ => True
  | .frz _ _ => True
  | _ => False
def LsAt (S : List Addr) (H : Hp) (a : Addr) (xs : List V) : Prop := H a = some (.lst xs) ∧ a ∉ S
theorem LsAt.sq {K : PySem.W.Frag} {S : List Addr} {H : Hp} {a : Addr} {xs : List V} (h : LsAt S H a xs) : SqL K H a xs := .inl (.inl h.1)
mutual
inductive Rp (K : PySem.W.Frag) (S : List Addr) (H : Hp) : V → PyData → Prop
  | non : Rp K S H .non .none
  | bl (b : Bool) : Rp K S H (.bl b) (.bool b)
  | int (i : Int) : Rp K S H (.int i) (.int i)
  | str (x : Str) : Rp K S H (.str x) (.str x)
  | lst {a : Addr} {xs : List V} {ds : List PyData} : LsAt S H a xs → RpAll K S H xs ds → Rp K S H (.ref a) (.list ds)
  | tup {a : Addr} {xs : List V} {ds : List PyData} : SqT K H a xs → RpAll K S H xs ds → Rp K S H (.ref a) (.tuple ds)
  | dct {a : Addr} {kvs : List (Key × V)} {ds : List (PyData × PyData)} : Rd H a (.dK kvs) → a ∉ S → RpKV K S H kvs ds → Rp K S H (.ref a) (.dict ds)
inductive RpAll (K : PySem.W.Frag) (S : List Addr) (H : Hp) : List V → List PyData → Prop
  | nil : RpAll K S H [] []
  | cons {v : V} {vs : List V} {d : PyData} {ds : List PyData} : Rp K S H v d → RpAll K S H vs ds → RpAll K S H (v :: vs) (d :: ds)
inductive RpKV (K : PySem.W.Frag) (S : List Addr) (H : Hp) : List (Key × V) → List (PyData × PyData) → Prop
  | nil : RpKV K S H [] []
  | cons {k : Key} {v : V} {vs : List (Key × V)} {d : PyData} {ds : List (PyData × PyData)} : Rp K S H v d → RpKV K S H vs ds → RpKV K S H ((k, v) :: vs) ((keyD k, d) :: ds)
end
/-- a step of the heap: what is not of S, and all that never changes, stays; the new S has of the old, or new things -/
structure Stp (S S' : List Addr) (H H' : Hp) : Prop where
  keep : ∀ b o, H b = some o → NT o → b ∉ S ∨ Fix o → H' b = some o
  news : ∀ b ∈ S', b ∈ S ∨ Fr0 H b
theorem Stp.rd {S S' : List Addr} {H H' : Hp} (s : Stp S S' H H') {a : Addr} {u : HO} (nt : NT u) (h : Rd H a u) (n : a ∉ S) : Rd H' a u ∧ a ∉ S' := by
  have no : ∀ o, H a = some o → NT o → a ∉ S' := fun o e t z => by
    rcases s.news a z with q | q
    · exact n q
    · exact q o e t
  rcases h with h | ⟨o, h⟩
  · exact ⟨.inl (s.keep _ _ h nt (.inl n)), no _ h nt⟩
  · exact ⟨.inr ⟨o, s.keep _ _ h nt_frz (.inl n)⟩, no _ h nt_frz⟩
theorem Stp.tp {K : PySem.W.Frag} {S S' : List Addr} {H H' : Hp} (s : Stp S S' H H') {a : Addr} {xs : List V} (h : SqT K H a xs) : SqT K H' a xs := by
  rcases h with (h | ⟨o, h⟩) | h
  · exact .inl (.inl (s.keep _ _ h nt_tup (.inr trivial)))
  · exact .inl (.inr ⟨o, s.keep _ _ h nt_frz (.inr trivial)⟩)
  · exact .inr h
theorem Stp.ls {S S' : List Addr} {H H' : Hp} (s : Stp S S' H H') {a : Addr} {xs : List V} (h : LsAt S H a xs) : LsAt S' H' a xs := by
  refine ⟨s.keep _ _ h.1 nt_lst (.inl h.2), fun z => ?_⟩
  rcases s.news a z with q | q
  · exact h.2 q
  · exact q _ h.1 nt_lst
mutual
theorem Rp.step {K : PySem.W.Frag} {S S' : List Addr} {H H' : Hp} (s : Stp S S' H H') : ∀ {v : V} {d : PyData}, Rp K S H v d → Rp K S' H' v d
  | _, _, .non => .non
  | _, _, .bl b => .bl b
  | _, _, .int i => .int i
  | _, _, .str x => .str x
  | _, _, .lst h t => .lst (s.ls h) (RpAll.step s t)
  | _, _, .tup h t => .tup (s.tp h) (RpAll.step s t)
  | _, _, .dct h n t => .dct (s.rd nt_dK h n).1 (s.rd nt_dK h n).2 (RpKV.step s t)
theorem RpAll.step {K : PySem.W.Frag} {S S' : List Addr} {H H' : Hp} (s : Stp S S' H H') : ∀ {v : List V} {d : List PyData}, RpAll K S H v d → RpAll K S' H' v d
  | _, _, .nil => .nil
  | _, _, .cons h t => .cons (Rp.step s h) (RpAll.step s t)
theorem RpKV.step {K : PySem.W.Frag} {S S' : List Addr} {H H' : Hp} (s : Stp S S' H H') : ∀ {v : List (Key × V)} {d : List (PyData × PyData)}, RpKV K S H v d → RpKV K S' H' v d
  | _, _, .nil => .nil
  | _, _, .cons h t => .cons (Rp.step s h) (RpKV.step s t)
end
theorem RpAll.length {K : PySem.W.Frag} {S : List Addr} {H : Hp} : ∀ {vs : List V} {ds : List PyData}, RpAll K S H vs ds → vs.length = ds.length
  | _, _, .nil => rfl
  | _, _, .cons _ t => by rw [List.length_cons, List.length_cons, RpAll.length t]
theorem RpAll.get {K : PySem.W.Frag} {S : List Addr} {H : Hp} : ∀ {vs : List V} {ds : List PyData} {i : Nat} {d : PyData}, RpAll K S H vs ds → ds[i]? = some d → ∃ v, vs[i]? = some v ∧ Rp K S H v d
  | _, _, _, _, .nil, h => by simp at h
  | _, _, 0, _, .cons r _, h => by simp at h; subst h; exact ⟨_, rfl, r⟩
  | _, _, i + 1, _, .cons _ t, h => by
    obtain ⟨v, h1, h2⟩ := RpAll.get (i := i) t (by simpa using h)
    exact ⟨v, by simpa using h1, h2⟩
theorem RpAll.get' {K : PySem.W.Frag} {S : List Addr} {H : Hp} : ∀ {vs : List V} {ds : List PyData} {i : Nat} {v : V}, RpAll K S H vs ds → vs[i]? = some v → ∃ d, ds[i]? = some d ∧ Rp K S H v d
  | _, _, _, _, .nil, h => by simp at h
  | _, _, 0, _, .cons r _, h => by simp at h; subst h; exact ⟨_, rfl, r⟩
  | _, _, i + 1, _, .cons _ t, h => by
    obtain ⟨v, h1, h2⟩ := RpAll.get' (i := i) t (by simpa using h)
    exact ⟨v, by simpa using h1, h2⟩
theorem RpAll.append {K : PySem.W.Frag} {S : List Addr} {H : Hp} : ∀ {vs ws : List V} {ds es : List PyData}, RpAll K S H vs ds → RpAll K S H ws es → RpAll K S H (vs ++ ws) (ds ++ es)
  | _, _, _, _, .nil, s => s
  | _, _, _, _, .cons r t, s => .cons r (RpAll.append t s)
theorem RpAll.take {K : PySem.W.Frag} {S : List Addr} {H : Hp} : ∀ {vs : List V} {ds : List PyData} (n : Nat), RpAll K S H vs ds → RpAll K S H (vs.take n) (ds.take n)
  | _, _, 0, _ => .nil
  | _, _, _ + 1, .nil => .nil
  | _, _, n + 1, .cons r t => .cons r (RpAll.take n t)
theorem RpAll.drop {K : PySem.W.Frag} {S : List Addr} {H : Hp} : ∀ {vs : List V} {ds : List PyData} (n : Nat), RpAll K S H vs ds → RpAll K S H (vs.drop n) (ds.drop n)
  | _, _, 0, r => r
  | _, _, _ + 1, .nil => .nil
  | _, _, n + 1, .cons _ t => RpAll.drop n t
/-! ### the world of a def's run -/
structure Wd where
  S : List Addr
  src : Option (Addr × Addr)
  /-- the tables of lambdas' code -/
  tab : List (Addr × Str) := []
structure Wd.Ok (W : Wd) (H : Hp) : Prop where
  there : ∀ b ∈ W.S, ∃ o, H b = some o ∧ ¬ Fix o ∧ NT o
  draw : ∀ a l, W.src = some (a, l) → a ∈ W.S ∧ l ∉ W.S ∧ Dw.Src H a l
  tabs : LamX.Tabs W.tab H
/-- behind an expression: only the source is another -/
def Kp (W : Wd) (H H' : Hp) : Prop := ∀ b o, H b = some o → (∀ l, W.src ≠ some (b, l)) → NT o → H' b = some o
theorem Kp.refl (W : Wd) (H : Hp) : Kp W H H := fun _ _ h _ _ => h
theorem Kp.trans {W : Wd} {H H1 H2 : Hp} (x : Kp W H H1) (y : Kp W H1 H2) : Kp W H H2 := fun b o h n t => y b o (x b o h n t) n t
theorem Kp.same {W : Wd} {H H' : Hp} (s : Same H H') : Kp W H H' := fun b o h _ _ => s b o h
theorem Kp.stp {W : Wd} {H H' : Hp} (ok : W.Ok H) (k : Kp W H H') : Stp W.S W.S H H' where
  keep := fun b o h t c => k b o h (fun l z => by
    have h1 := (ok.draw b l z).1
    rcases c with c | c
    · exact c h1
    · obtain ⟨o', e, nf, _⟩ := ok.there b h1
      rw [h] at e; cases e
      exact nf c) t
  news := fun b h => .inl h
theorem Src.same {H H' : Hp} {a l : Addr} (s : Same H H') (h : Dw.Src H a l) : Dw.Src H' a l := by
  obtain ⟨ms, i, r, sd, S⟩ := h
  exact ⟨ms, i, r, sd, S.ne, s _ _ S.at_, s _ _ S.cells, S.i0, S.r0, S.s0, S.s1⟩
theorem Wd.Ok.same {W : Wd} {H H' : Hp} (ok : W.Ok H) (s : Same H H') : W.Ok H' :=
  ⟨fun b h => let ⟨o, e, n⟩ := ok.there b h; ⟨o, s _ _ e, n⟩, fun a l e => let ⟨h1, h2, h3⟩ := ok.draw a l e; ⟨h1, h2, Src.same s h3⟩, fun p hp => (ok.tabs p hp).ext s⟩
/-- the value v is x -/
def RV (K : PySem.W.Frag) (W : Wd) (H : Hp) (v : V) : SD → Prop
  | .no => True
  | .d x => Rp K W.S H v x
  | .src => ∃ a l, W.src = some (a, l) ∧ v = .ref a
  | .ty n => v = .ty n
  | .own ds => ∃ p xs, v = .ref p ∧ p ∈ W.S ∧ (∀ l, W.src ≠ some (p, l)) ∧ H p = some (.lst xs) ∧ RpAll K W.S H xs ds
  | .ownD ds => ∃ p kvs, v = .ref p ∧ p ∈ W.S ∧ (∀ l, W.src ≠ some (p, l)) ∧ H p = some (.dK kvs) ∧ Paired (fun (a : Key × V) (b : Key × PyData) => a.1 = b.1 ∧ Rp K W.S H a.2 b.2) kvs ds
theorem paired_mono {α β : Type} {F G : α → β → Prop} (h : ∀ a b, F a b → G a b) : ∀ {l₁ : List α} {l₂ : List β}, Paired F l₁ l₂ → Paired G l₁ l₂
  | _, _, .nil => .nil
  | _, _, .cons r t => .cons (h _ _ r) (paired_mono h t)
theorem RV.keep {K : PySem.W.Frag} {W : Wd} {H H' : Hp} (ok : W.Ok H) (k : Kp W H H') {v : V} : ∀ {x : SD}, RV K W H v x → RV K W H' v x
  | .no, _ => trivial
  | .d _, h => Rp.step (k.stp ok) h
  | .src, h => h
  | .ty _, h => h
  | .own _, ⟨p, xs, e, m, ns, hp, r⟩ => ⟨p, xs, e, m, ns, k _ _ hp ns nt_lst, RpAll.step (k.stp ok) r⟩
  | .ownD _, ⟨p, xs, e, m, ns, hp, r⟩ => ⟨p, xs, e, m, ns, k _ _ hp ns nt_dK, paired_mono (fun _ _ z => ⟨z.1, Rp.step (k.stp ok) z.2⟩) r⟩
def isOwn : SD → Bool
  | .own _ => true
  | .ownD _ => true
  | _ => false
/-- the slots are ρ -/
structure Rel (K : PySem.W.Frag) (W : Wd) (H : Hp) (σ : L2.St) (ρ : List SD) : Prop where
  len : σ.length = ρ.length
  get : ∀ (i : Nat) (x : SD), ρ[i]? = some x → x ≠ .no → ∃ v, σ[i]? = some (some v) ∧ RV K W H v x
  sep : ∀ (i j : Nat) (x y : SD) (p : Addr), i ≠ j → ρ[i]? = some x → ρ[j]? = some y → isOwn x = true → isOwn y = true → σ[i]? = some (some (.ref p)) → σ[j]? ≠ some (some (.ref p))
  tab : W.tab = theTab K
theorem Rel.keep {K : PySem.W.Frag} {W : Wd} {H H' : Hp} (ok : W.Ok H) (k : Kp W H H') {σ : L2.St} {ρ : List SD} (r : Rel K W H σ ρ) : Rel K W H' σ ρ :=
  ⟨r.len, fun i x e n => let ⟨v, h1, h2⟩ := r.get i x e n; ⟨v, h1, h2.keep ok k⟩, r.sep, r.tab⟩
/-! ### expressions -/
def Post (K : PySem.W.Frag) (W : Wd) (H : Hp) (Q : VK) (d : SD) : Prop := ∀ v H', Kp W H H' → W.Ok H' → RV K W H' v d → Q v H'
def XP (K : PySem.W.Frag) (W : Wd) (H : Hp) (E : XK) (e : Exn) : Prop := ∀ C dx H' fs, PySem.W.nsIn K mainGlobals e.C = some (some (.ref C)) → Kp W H H' → W.Ok H' → Fr0 H dx → H' dx = some (.xd fs) → dx ∉ W.S →
  Paired (fun (a : Str × V) (b : Str × PyData) => a.1 = b.1 ∧ Rp K W.S H' a.2 b.2) fs e.fs → E (.ref C) (some dx) H'
theorem Kp.free {W : Wd} {H H' : Hp} (k : Kp W H H') (ok : W.Ok H) {p : Addr} (h : Fr0 H' p) (ok' : W.Ok H') : Fr0 H p := fun o e t => by
  by_cases z : ∃ l, W.src = some (p, l)
  · obtain ⟨l, z⟩ := z
    obtain ⟨o', e', _, t'⟩ := ok'.there p (ok'.draw p l z).1
    exact h _ e' t'
  · exact h _ (k p o e (fun l q => z ⟨l, q⟩) t) t
theorem Post.trans {K : PySem.W.Frag} {W : Wd} {H H1 : Hp} {Q : VK} (k : Kp W H H1) {d : SD} (h : Post K W H Q d) : Post K W H1 Q d := fun v H' k' ok r => h v H' (k.trans k') ok r
theorem XP.trans {K : PySem.W.Frag} {W : Wd} {H H1 : Hp} {E : XK} (ok : W.Ok H) (k : Kp W H H1) (ok1 : W.Ok H1) {e : Exn} (h : XP K W H E e) : XP K W H1 E e := fun C dx H' fs hC k' ok' n hd nS r => h C dx H' fs hC (k.trans k') ok' (k.free ok n ok1) hd nS r
def dt (K : PySem.W.Frag) (EX : L2.St → XK) (T : List SD → M SD) : TE := fun σ H Q => ∃ W ρ, W.Ok H ∧ Rel K W H σ ρ ∧ (T ρ).run (Post K W H Q) (XP K W H (EX σ))
def dta (K : PySem.W.Frag) (EX : L2.St → XK) (T : List SD → M (List SD)) : TA := fun σ H Q => ∃ W ρ, W.Ok H ∧ Rel K W H σ ρ ∧
  (T ρ).run (fun ds => ∀ vs H', Kp W H H' → W.Ok H' → Paired (RV K W H') vs ds → Q vs H') (XP K W H (EX σ))
def dtt (K : PySem.W.Frag) (EX : L2.St → XK) (T : List SD → M Bool) : TT := fun σ H Q => ∃ W ρ, W.Ok H ∧ Rel K W H σ ρ ∧ (T ρ).run (fun b => ∀ H', Kp W H H' → W.Ok H' → Q b H') (XP K W H (EX σ))
abbrev DE (X : Cx) (EX : L2.St → XK) (e : Expr) (T : List SD → M SD) : Prop := PE X e (dt X.K EX T)
abbrev DA (X : Cx) (EX : L2.St → XK) (es : List Expr) (T : List SD → M (List SD)) : Prop := PA X es (dta X.K EX T)
abbrev DT (X : Cx) (EX : L2.St → XK) (e : Expr) (T : List SD → M Bool) : Prop := PT X e (dtt X.K EX T)
abbrev DW (X : Cx) (EX : L2.St → XK) (e : Expr) (T : List SD → M Bool) : Prop := PW X e (dtt X.K EX T)
theorem pe_imp {X : Cx} {e : Expr} {t t' : TE} (h : PE X e t) (i : ∀ σ H Q, t' σ H Q → t σ H Q) : PE X e t' := ⟨fun pins s σ H Q J q => h.run pins s σ H Q J (i σ H Q q)⟩
theorem pa_imp {X : Cx} {e : List Expr} {t t' : TA} (h : PA X e t) (i : ∀ σ H Q, t' σ H Q → t σ H Q) : PA X e t' := ⟨fun pos pins s σ H Q J q => h.run pos pins s σ H Q J (i σ H Q q)⟩
theorem pt_imp {X : Cx} {e : Expr} {t t' : TT} (h : PT X e t) (i : ∀ σ H Q, t' σ H Q → t σ H Q) : PT X e t' := ⟨fun pins s σ H Q J q => h.run pins s σ H Q J (i σ H Q q)⟩
theorem pw_imp {X : Cx} {e : Expr} {t t' : TT} (h : PW X e t) (i : ∀ σ H Q, t' σ H Q → t σ H Q) : PW X e t' := ⟨fun wh pins s σ H Q J q => h.run wh pins s σ H Q J (i σ H Q q)⟩
/-- what is not served -/
theorem de_fail {X : Cx} {EX : L2.St → XK} {e : Expr} : DE X EX e (fun _ => M.fail) := ⟨fun _ _ _ _ _ _ ⟨_, _, _, _, h⟩ => h.elim⟩
theorem dt_fail {X : Cx} {EX : L2.St → XK} {e : Expr} : DT X EX e (fun _ => M.fail) := ⟨fun _ _ _ _ _ _ ⟨_, _, _, _, h⟩ => h.elim⟩
def getS (ρ : List SD) (i : Nat) : Option SD := match ρ[i]? with
  | some .no => none
  | o => o
theorem getS_eq {ρ : List SD} {i : Nat} {x : SD} (h : getS ρ i = some x) : ρ[i]? = some x ∧ x ≠ .no := by
  unfold getS at h
  split at h
  · cases h
  · rename_i o ne
    refine ⟨h, ?_⟩
    intro z
    subst z
    exact ne h
section
variable {X : Cx} {EX : L2.St → XK} {e a b : Expr} {es : List Expr} {pos : Pos} {T Ta Tb : List SD → M SD} {Ts : List SD → M (List SD)}
theorem de_var (i : Nat) (h : PE X e (tVar i)) : DE X EX e (fun ρ => M.lift (getS ρ i)) := pe_imp h fun σ H Q ⟨W, ρ, ok, rel, r⟩ => by
  obtain ⟨x, hx, p⟩ := run_lift.mp r
  obtain ⟨h1, h2⟩ := getS_eq hx
  obtain ⟨v, h3, h4⟩ := rel.get i x h1 h2
  exact ⟨v, h3, p v H (Kp.refl W H) ok h4⟩
theorem de_c {v : V} {d : PyData} (h : PE X e (tC v)) (r : ∀ S H, Rp X.K S H v d) : DE X EX e (fun _ => pure (.d d)) := pe_imp h fun σ H Q ⟨W, ρ, ok, rel, p⟩ => p v H (Kp.refl W H) ok (r _ _)
theorem de_int {i : Int} {j p} : DE X EX (.Constant (.int i) j p) (fun _ => pure (.d (.int i))) := de_c pe_int fun _ _ => .int i
theorem de_bl {i : Bool} {j p} : DE X EX (.Constant (.bool i) j p) (fun _ => pure (.d (.bool i))) := de_c pe_bl fun _ _ => .bl i
theorem de_non {j p} : DE X EX (.Constant .none j p) (fun _ => pure (.d .none)) := de_c pe_non fun _ _ => .non
theorem de_str {i : Str} {j p} : DE X EX (.Constant (.str i) j p) (fun _ => pure (.d (.str i))) := de_c pe_str fun _ _ => .str i
/-- two expressions, then a step on their values -/
theorem bin_imp {r : R2} {g : SD → SD → Option SD} (hr : ∀ {W : Wd} {H : Hp} {v w : V} {x y z : SD} {Q : VK}, W.Ok H → RV X.K W H v x → RV X.K W H w y → g x y = some z → Post X.K W H Q z → r v w H Q) (σ : L2.St) (H : Hp) (Q : VK)
    (h : dt X.K EX (fun ρ => do let x ← Ta ρ; let y ← Tb ρ; M.lift (g x y)) σ H Q) : tOp r (dt X.K EX Ta) (dt X.K EX Tb) σ H Q := by
  obtain ⟨W, ρ, ok, rel, h⟩ := h
  refine ⟨W, ρ, ok, rel, (Ta ρ).mono (fun x h1 v H1 k1 ok1 r1 => ?_) (fun e h => h) h⟩
  refine ⟨W, ρ, ok1, rel.keep ok k1, (Tb ρ).mono (fun y h2 w H2 k2 ok2 r2 => ?_) (fun e h => XP.trans ok k1 ok1 h) h1⟩
  obtain ⟨z, hz, p⟩ := run_lift.mp h2
  exact hr ok2 (r1.keep ok1 k2) r2 hz (Post.trans (k1.trans k2) p)
theorem da_nil : DA X EX [] (fun _ => pure []) := pa_imp pa_nil fun σ H Q ⟨W, ρ, ok, rel, p⟩ => p [] H (Kp.refl W H) ok .nil
theorem paired_keep {K : PySem.W.Frag} {W : Wd} {H H' : Hp} (ok : W.Ok H) (k : Kp W H H') {vs : List V} {ds : List SD} (h : Paired (RV K W H) vs ds) : Paired (RV K W H') vs ds := paired_mono (fun _ _ z => z.keep ok k) h
theorem da_cons (ha : DE X EX e T) (hr : DA X EX es Ts) (hs : starEach (e :: es) X.env = (false, eval e X.env) :: starEach es X.env := by rfl) : DA X EX (e :: es) (fun ρ => do let x ← T ρ; let xs ← Ts ρ; pure (x :: xs)) := by
  refine pa_imp (pa_cons ha hr hs) fun σ H Q ⟨W, ρ, ok, rel, h⟩ => ?_
  refine ⟨W, ρ, ok, rel, (T ρ).mono (fun x h1 v H1 k1 ok1 r1 => ?_) (fun e h => h) h⟩
  refine ⟨W, ρ, ok1, rel.keep ok k1, (Ts ρ).mono (fun y h2 w H2 k2 ok2 r2 => ?_) (fun e h => XP.trans ok k1 ok1 h) h1⟩
  exact h2 (v :: w) H2 (k1.trans k2) ok2 (.cons (r1.keep ok1 k2) r2)
/-- arguments, then a step on their values -/
theorem arg_imp {r : List V → Hp → VK → Prop} {g : List SD → Option SD} (hr : ∀ {W : Wd} {H : Hp} {vs : List V} {xs : List SD} {z : SD} {Q : VK}, W.Ok H → Paired (RV X.K W H) vs xs → g xs = some z → Post X.K W H Q z → r vs H Q) (σ : L2.St) (H : Hp) (Q : VK)
    (h : dt X.K EX (fun ρ => do let xs ← Ts ρ; M.lift (g xs)) σ H Q) : tCB r (dta X.K EX Ts) σ H Q := by
  obtain ⟨W, ρ, ok, rel, h⟩ := h
  refine ⟨W, ρ, ok, rel, (Ts ρ).mono (fun x h1 v H1 k1 ok1 r1 => ?_) (fun e h => h) h⟩
  obtain ⟨z, hz, p⟩ := run_lift.mp h1
  exact hr ok1 r1 hz (Post.trans k1 p)
theorem un_imp {r : V → Hp → VK → Prop} {g : SD → Option SD} (hr : ∀ {W : Wd} {H : Hp} {v : V} {x z : SD} {Q : VK}, W.Ok H → RV X.K W H v x → g x = some z → Post X.K W H Q z → r v H Q) (σ : L2.St) (H : Hp) (Q : VK)
    (h : dt X.K EX (fun ρ => do let x ← T ρ; M.lift (g x)) σ H Q) : tUn r (dt X.K EX T) σ H Q := by
  obtain ⟨W, ρ, ok, rel, h⟩ := h
  refine ⟨W, ρ, ok, rel, (T ρ).mono (fun x h1 v H1 k1 ok1 r1 => ?_) (fun e h => h) h⟩
  obtain ⟨z, hz, p⟩ := run_lift.mp h1
  exact hr ok1 r1 hz (Post.trans k1 p)
end
end Dd
/-! DwD2 -/
/-! operators on data -/
namespace Dd
open PySem PySem.Spec PyProof.Rows L2
abbrev dI (i : Int) : SD := .d (.int i)
abbrev dB (b : Bool) : SD := .d (.bool b)
abbrev dS (x : Str) : SD := .d (.str x)
def ltS (a b : Str) : Bool := decide (a.cps.toList < b.cps.toList)
def szOk (n : Nat) : Bool := decide (n ≤ 100000)
theorem szOk.le {n : Nat} (h : szOk n = true) : n ≤ sizeLine := Nat.le_trans (of_decide_eq_true h) (by decide)
theorem szOk.lt {n : Nat} (h : szOk (n + 1) = true) : n < sizeLine := Nat.lt_of_lt_of_le (Nat.lt_of_succ_le (of_decide_eq_true h)) (by decide)
section
variable {K : PySem.W.Frag} {W : Wd} {H : Hp}
/-! ### new things -/
theorem Wd.Ok.notin (ok : W.Ok H) {p : Addr} (h : H p = none) : p ∉ W.S := fun z => by
  obtain ⟨o, e, _⟩ := ok.there p z
  rw [h] at e; cases e
theorem Wd.Ok.notinF (ok : W.Ok H) {p : Addr} (h : Fr0 H p) : p ∉ W.S := fun z => by
  obtain ⟨o, e, _, t⟩ := ok.there p z
  exact h o e t
theorem stp_new (ok : W.Ok H) {p : Addr} {o : HO} (h : H p = none) : Stp W.S W.S H (upd H p o) := (Kp.same (Dw.same_new h)).stp ok
theorem new_lst (ok : W.Ok H) {p : Addr} {xs : List V} {ds : List PyData} (h : H p = none) (r : RpAll K W.S H xs ds) {Q : VK} (q : Post K W H Q (.d (.list ds))) : Q (.ref p) (upd H p (.lst xs)) :=
  q _ _ (Kp.same (Dw.same_new h)) (ok.same (Dw.same_new h)) (.lst ⟨upd_same, ok.notin h⟩ (RpAll.step (stp_new ok h) r))
theorem new_tup (ok : W.Ok H) {p : Addr} {xs : List V} {ds : List PyData} (h : H p = none) (r : RpAll K W.S H xs ds) {Q : VK} (q : Post K W H Q (.d (.tuple ds))) : Q (.ref p) (upd H p (.tup xs)) :=
  q _ _ (Kp.same (Dw.same_new h)) (ok.same (Dw.same_new h)) (.tup (.inl (.inl upd_same)) (RpAll.step (stp_new ok h) r))
theorem new_dct (ok : W.Ok H) {p : Addr} {xs : List (Key × V)} {ds : List (PyData × PyData)} (h : H p = none) (r : RpKV K W.S H xs ds) {Q : VK} (q : Post K W H Q (.d (.dict ds))) : Q (.ref p) (upd H p (.dK xs)) :=
  q _ _ (Kp.same (Dw.same_new h)) (ok.same (Dw.same_new h)) (.dct (.inl upd_same) (ok.notin h) (RpKV.step (stp_new ok h) r))
theorem Post.here {Q : VK} {v : V} {x : SD} (ok : W.Ok H) (q : Post K W H Q x) (r : RV K W H v x) : Q v H := q v H (Kp.refl W H) ok r
/-! ### no dict: the library's data -/
mutual
theorem Rp.dp {S : List Addr} : ∀ {v : V} {d : PyData}, d.canLay0 = true → Rp K S H v d → Dp K H v d
  | _, _, _, .non => .non
  | _, _, _, .bl b => .bl b
  | _, _, _, .int i => .int i
  | _, _, _, .str x => .str x
  | _, _, c, .lst h t => .lst h.sq (RpAll.dp (by simpa [PyData.canLay0] using c) t)
  | _, _, c, .tup h t => .tup h (RpAll.dp (by simpa [PyData.canLay0] using c) t)
  | _, _, c, .dct _ _ _ => by simp [PyData.canLay0] at c
theorem RpAll.dp {S : List Addr} : ∀ {v : List V} {d : List PyData}, PyData.canLayAll0 d = true → RpAll K S H v d → DpAll K H v d
  | _, _, _, .nil => .nil
  | _, d :: ds, c, .cons h t => by
    have c' : d.canLay0 = true ∧ PyData.canLayAll0 ds = true := by simpa [PyData.canLayAll0] using c
    exact .cons (Rp.dp c'.1 h) (RpAll.dp c'.2 t)
end
end
/-! ### + - * // % ** -/
def gAdd : SD → SD → Option SD
  | .d (.int i), .d (.int j) => some (dI (i + j))
  | .d (.str a), .d (.str b) => if szOk (a.length + b.length) then some (dS (a ++ b)) else none
  | .d (.list a), .d (.list b) => if szOk (a.length + b.length) then some (.d (.list (a ++ b))) else none
  | .d (.tuple a), .d (.tuple b) => if !a.isEmpty && !b.isEmpty && szOk (a.length + b.length) then some (.d (.tuple (a ++ b))) else none
  | _, _ => none
def gSub : SD → SD → Option SD
  | .d (.int i), .d (.int j) => some (dI (i - j))
  | _, _ => none
def gMul : SD → SD → Option SD
  | .d (.int i), .d (.int j) => if decide (i.natAbs.log2 + j.natAbs.log2 < 1000000) then some (dI (i * j)) else none
  | _, _ => none
def gDiv : SD → SD → Option SD
  | .d (.int i), .d (.int j) => if decide (j ≠ 0) && decide (j.natAbs.log2 < 9000) then some (dI (i.fdiv j)) else none
  | _, _ => none
def gMod : SD → SD → Option SD
  | .d (.int i), .d (.int j) => if decide (j ≠ 0) then some (dI (i.fmod j)) else none
  | _, _ => none
def gPow : SD → SD → Option SD
  | .d (.int i), .d (.int j) => if decide (0 ≤ j) && decide (j ≤ 1000000) && decide (i.natAbs < 2 ^ 64) then some (dI (i ^ j.toNat)) else none
  | _, _ => none
section
variable {X : Cx} {EX : L2.St → XK} {a b c : Expr} {pos : Pos} {T Ta Tb Tc : List SD → M SD} {Ts : List SD → M (List SD)}
theorem de_add (ha : DE X EX a Ta) (hb : DE X EX b Tb) : DE X EX (.BinOp a .Add b pos) (fun ρ => do let x ← Ta ρ; let y ← Tb ρ; M.lift (gAdd x y)) := by
  refine pe_imp (pe_op (op_add.or (op_add_str.or (op_cat.or op_catT))) ha hb) (bin_imp fun {W H v w x y z Q} ok r1 r2 h q => ?_)
  unfold gAdd at h
  split at h
  · cases r1; cases r2; cases h
    exact .inl ⟨_, _, rfl, rfl, q.here ok (.int _)⟩
  · split at h
    · rename_i s
      cases r1; cases r2; cases h
      exact .inr (.inl ⟨_, _, rfl, rfl, szOk.le s, q.here ok (.str _)⟩)
    · cases h
  · split at h
    · rename_i s
      cases h
      cases r1 with | lst l1 t1 =>
      cases r2 with | lst l2 t2 =>
      exact .inr (.inr (.inl ⟨_, _, _, _, rfl, rfl, l1.1, l2.1, by rw [t1.length, t2.length]; exact szOk.le s, fun p hp => new_lst ok hp (t1.append t2) q⟩))
    · cases h
  · split at h
    · rename_i s
      cases h
      cases r1 with | tup l1 t1 =>
      cases r2 with | tup l2 t2 =>
      have s' := Bool.and_eq_true_iff.mp s
      have s'' := Bool.and_eq_true_iff.mp s'.1
      refine .inr (.inr (.inr ⟨_, _, _, _, rfl, rfl, l1, l2, ?_, by rw [t1.length, t2.length]; exact szOk.le s'.2, ?_, ?_⟩))
      · rintro rfl; cases t1; simp at s''
      · rintro rfl; cases t2; simp at s''
      · exact fun _ p hp => new_tup ok hp (t1.append t2) q
    · cases h
  · cases h
theorem de_sub (ha : DE X EX a Ta) (hb : DE X EX b Tb) : DE X EX (.BinOp a .Sub b pos) (fun ρ => do let x ← Ta ρ; let y ← Tb ρ; M.lift (gSub x y)) := by
  refine pe_imp (pe_op op_sub ha hb) (bin_imp fun {W H v w x y z Q} ok r1 r2 h q => ?_)
  unfold gSub at h
  split at h
  · cases r1; cases r2; cases h
    exact ⟨_, _, rfl, rfl, q.here ok (.int _)⟩
  · cases h
theorem de_mul (ha : DE X EX a Ta) (hb : DE X EX b Tb) : DE X EX (.BinOp a .Mult b pos) (fun ρ => do let x ← Ta ρ; let y ← Tb ρ; M.lift (gMul x y)) := by
  refine pe_imp (pe_op op_mulW ha hb) (bin_imp fun {W H v w x y z Q} ok r1 r2 h q => ?_)
  unfold gMul at h
  split at h
  · split at h
    · rename_i s
      cases r1; cases r2; cases h
      exact ⟨_, _, rfl, rfl, (of_decide_eq_true s : _ + _ < 1000000), q.here ok (.int _)⟩
    · cases h
  · cases h
theorem de_div (ha : DE X EX a Ta) (hb : DE X EX b Tb) : DE X EX (.BinOp a .FloorDiv b pos) (fun ρ => do let x ← Ta ρ; let y ← Tb ρ; M.lift (gDiv x y)) := by
  refine pe_imp (pe_op Dw.op_fdivZ ha hb) (bin_imp fun {W H v w x y z Q} ok r1 r2 h q => ?_)
  unfold gDiv at h
  split at h
  · split at h
    · rename_i s
      cases r1; cases r2; cases h
      have s' := Bool.and_eq_true_iff.mp s
      exact ⟨_, _, rfl, rfl, ⟨of_decide_eq_true s'.1, of_decide_eq_true s'.2⟩, q.here ok (.int _)⟩
    · cases h
  · cases h
theorem de_mod (ha : DE X EX a Ta) (hb : DE X EX b Tb) : DE X EX (.BinOp a .Mod b pos) (fun ρ => do let x ← Ta ρ; let y ← Tb ρ; M.lift (gMod x y)) := by
  refine pe_imp (pe_op op_modN ha hb) (bin_imp fun {W H v w x y z Q} ok r1 r2 h q => ?_)
  unfold gMod at h
  split at h
  · split at h
    · rename_i s
      cases r1; cases r2; cases h
      exact ⟨_, _, rfl, rfl, of_decide_eq_true s, q.here ok (.int _)⟩
    · cases h
  · cases h
theorem de_pow (ha : DE X EX a Ta) (hb : DE X EX b Tb) : DE X EX (.BinOp a .Pow b pos) (fun ρ => do let x ← Ta ρ; let y ← Tb ρ; M.lift (gPow x y)) := by
  refine pe_imp (pe_op op_pow ha hb) (bin_imp fun {W H v w x y z Q} ok r1 r2 h q => ?_)
  unfold gPow at h
  split at h
  · split at h
    · rename_i s
      cases r1; cases r2; cases h
      have s' := Bool.and_eq_true_iff.mp s
      have s'' := Bool.and_eq_true_iff.mp s'.1
      exact ⟨_, _, rfl, rfl, ⟨of_decide_eq_true s''.1, of_decide_eq_true s''.2, of_decide_eq_true s'.2⟩, q.here ok (.int _)⟩
    · cases h
  · cases h
def gNeg : SD → Option SD
  | .d (.int i) => some (dI (-i))
  | _ => none
theorem de_neg (ha : DE X EX a T) : DE X EX (.UnaryOp .USub a pos) (fun ρ => do let x ← T ρ; M.lift (gNeg x)) := by
  refine pe_imp (pe_un un_neg ha) (un_imp fun {W H v x z Q} ok r1 h q => ?_)
  unfold gNeg at h
  split at h
  · cases r1; cases h
    exact ⟨_, rfl, q.here ok (.int _)⟩
  · cases h
/-! ### comparisons -/
def gCmp (fi : Int → Int → Bool) (fs : Str → Str → Bool) : SD → SD → Option SD
  | .d (.int i), .d (.int j) => some (dB (fi i j))
  | .d (.str i), .d (.str j) => some (dB (fs i j))
  | _, _ => none
abbrev gLt : SD → SD → Option SD := gCmp (fun i j => decide (i < j)) ltS
abbrev gLe : SD → SD → Option SD := gCmp (fun i j => decide (i ≤ j)) (fun a b => !ltS b a)
abbrev gGt : SD → SD → Option SD := gCmp (fun i j => decide (j < i)) (fun a b => ltS b a)
abbrev gGe : SD → SD → Option SD := gCmp (fun i j => decide (j ≤ i)) (fun a b => !ltS a b)
/-- a comparison of values, as data -/
def CmpR (X : Cx) (op : CmpOp) (g : SD → SD → Option SD) : Prop := ∃ r, OpR X (compareOp op) r ∧ ∀ {W : Wd} {H : Hp} {v w : V} {x y z : SD} {Q : VK}, W.Ok H → RV X.K W H v x → RV X.K W H w y → g x y = some z → Post X.K W H Q z → r v w H Q
theorem cmp_two {op : CmpOp} {fi : Int → Int → Bool} {fs : Str → Str → Bool} (h1 : OpR X (compareOp op) (rI0 fun i j => .bl (fi i j)))
    (h2 : OpR X (compareOp op) (fun x y H Q => ∃ i j, x = .str i ∧ y = .str j ∧ Q (.bl (fs i j)) H)) : CmpR X op (gCmp fi fs) := by
  refine ⟨_, h1.or h2, fun {W H v w x y z Q} ok r1 r2 h q => ?_⟩
  unfold gCmp at h
  split at h
  · cases r1; cases r2; cases h
    exact .inl ⟨_, _, rfl, rfl, q.here ok (.bl _)⟩
  · cases r1; cases r2; cases h
    exact .inr ⟨_, _, rfl, rfl, q.here ok (.bl _)⟩
  · cases h
theorem c_lt : CmpR X .Lt gLt := cmp_two op_lt op_lt_str
theorem c_le : CmpR X .LtE gLe := cmp_two op_le op_le_str
theorem c_gt : CmpR X .Gt gGt := cmp_two op_gt op_gt_str
theorem c_ge : CmpR X .GtE gGe := cmp_two op_ge op_ge_str
def gEq : SD → SD → Option SD
  | .d x, .d y => if SeqAt.shaped x && SeqAt.shaped y then some (dB (PyData.eqv x y)) else none
  | _, _ => none
def gNe : SD → SD → Option SD
  | .d x, .d y => if SeqAt.shaped x && SeqAt.shaped y then some (dB (!PyData.eqv x y)) else none
  | _, _ => none
theorem c_eq {k : Nat} (hr : Room k X.A) : CmpR X .Eq gEq := by
  refine ⟨_, op_eqD hr.units, fun {W H v w x y z Q} ok r1 r2 h q => ?_⟩
  unfold gEq at h
  split at h
  · split at h
    · rename_i s
      have s' := Bool.and_eq_true_iff.mp s
      cases h
      exact ⟨_, _, Rp.dp (SeqAt.canLay_of_shaped s'.1) r1, Rp.dp (SeqAt.canLay_of_shaped s'.2) r2, s'.1, s'.2, q.here ok (.bl _)⟩
    · cases h
  · cases h
theorem c_ne {k : Nat} (hr : Room k X.A) : CmpR X .NotEq gNe := by
  refine ⟨_, op_neD hr.units, fun {W H v w x y z Q} ok r1 r2 h q => ?_⟩
  unfold gNe at h
  split at h
  · split at h
    · rename_i s
      have s' := Bool.and_eq_true_iff.mp s
      cases h
      exact ⟨_, _, Rp.dp (SeqAt.canLay_of_shaped s'.1) r1, Rp.dp (SeqAt.canLay_of_shaped s'.2) r2, s'.1, s'.2, q.here ok (.bl _)⟩
    · cases h
  · cases h
def isNone : SD → Bool
  | .d .none => true
  | _ => false
/-- x is None -/
def gIs : SD → SD → Option SD
  | .d x, .d .none => some (dB (isNone (.d x)))
  | _, _ => none
def gIsNot : SD → SD → Option SD
  | .d x, .d .none => some (dB (!isNone (.d x)))
  | _, _ => none
theorem isNone_rep {K : PySem.W.Frag} {S : List Addr} {H : Hp} {v : V} {d : PyData} (h : Rp K S H v d) : decide (v = .non) = isNone (.d d) := by
  cases h <;> first | rfl | exact decide_eq_false (by intro z; cases z)
theorem c_is : CmpR X .Is gIs := by
  refine ⟨_, op_isN, fun {W H v w x y z Q} ok r1 r2 h q => ?_⟩
  unfold gIs at h
  split at h
  · cases r2; cases h
    refine ⟨rfl, ?_⟩
    rw [isNone_rep r1]
    exact q.here ok (.bl _)
  · cases h
theorem c_isNot : CmpR X .IsNot gIsNot := by
  refine ⟨_, op_notN, fun {W H v w x y z Q} ok r1 r2 h q => ?_⟩
  unfold gIsNot at h
  split at h
  · cases r2; cases h
    refine ⟨rfl, ?_⟩
    rw [isNone_rep r1]
    exact q.here ok (.bl _)
  · cases h
theorem de_cmp {op : CmpOp} {g : SD → SD → Option SD} (hc : CmpR X op g) (ha : DE X EX a Ta) (hb : DE X EX b Tb) (hm : behindInMarks op b = false) : DE X EX (.Compare a [op] [b] pos) (fun ρ => do let x ← Ta ρ; let y ← Tb ρ; M.lift (g x y)) := by
  obtain ⟨r, h1, h2⟩ := hc
  exact pe_imp (pe_cmpR h1 ha hb hm) (bin_imp h2)
end
end Dd
/-! DwD3 -/
/-! tests, subscripts, displays -/
namespace Dd
open PySem PySem.Spec PyProof.Rows L2
def asB : SD → Option Bool
  | .d (.bool b) => some b
  | _ => none
/-- truth -/
def truD : SD → Option Bool
  | .d .none => some false
  | .d (.bool b) => some b
  | .d (.int i) => some (i != 0)
  | .d (.str x) => if szOk x.length then some ((x.length : Int) != 0) else none
  | .d (.list xs) => some (!xs.isEmpty)
  | .d (.tuple xs) => some (!xs.isEmpty)
  | .own xs => some (!xs.isEmpty)
  | _ => none
section
variable {X : Cx} {EX : L2.St → XK} {a b c e : Expr} {es rest : List Expr} {pos : Pos} {T Ta Tb Tc : List SD → M SD} {Ts : List SD → M (List SD)} {B B1 B2 : List SD → M Bool}
/-! ### tests -/
theorem dt_val (h : DE X EX e T) (he : ∀ whole, isTrue e X.env whole = (do let v ← whole; standAt e.pos; holding [v] (truthy v)) := by intro _; rfl) : DT X EX e (fun ρ => do let x ← T ρ; M.lift (asB x)) := by
  refine pt_imp (pt_val h he) fun σ H Q ⟨W, ρ, ok, rel, h⟩ => ?_
  refine ⟨W, ρ, ok, rel, (T ρ).mono (fun x h1 v H1 k1 ok1 r1 => ?_) (fun e h => h) h⟩
  obtain ⟨z, hz, p⟩ := run_lift.mp h1
  unfold asB at hz
  split at hz
  · cases r1; cases hz
    exact ⟨_, rfl, p H1 k1 ok1⟩
  · cases hz
theorem isEmpty_rp {K : PySem.W.Frag} {S : List Addr} {H : Hp} {xs : List V} {ds : List PyData} (h : RpAll K S H xs ds) : (!ds.isEmpty) = !xs.isEmpty := by cases h <;> rfl
theorem tru_rv {W : Wd} {H : Hp} {v : V} {x : SD} {k : Bool} (r : RV X.K W H v x) (h : truD x = some k) : TruV X.K v H k := by
  unfold truD at h
  split at h
  · cases r; cases h; rfl
  · cases r; cases h; rfl
  · cases r; cases h; rfl
  · split at h
    · rename_i s
      cases r; cases h; exact ⟨szOk.le s, rfl⟩
    · cases h
  · cases h
    cases r with | lst l t => exact .inl ⟨_, l.sq, isEmpty_rp t⟩
  · cases h
    cases r with | tup l t => exact .inr (.inl ⟨_, l, isEmpty_rp t⟩)
  · cases h
    obtain ⟨p, xs, rfl, _, _, hp, t⟩ := r
    exact .inl ⟨_, .inl (.inl hp), isEmpty_rp t⟩
  · cases h
theorem dt_truth (h : DE X EX e T) (he : ∀ whole, isTrue e X.env whole = (do let v ← whole; standAt e.pos; holding [v] (truthy v)) := by intro _; rfl) : DT X EX e (fun ρ => do let x ← T ρ; M.lift (truD x)) := by
  refine pt_imp (pt_truth h he) fun σ H Q ⟨W, ρ, ok, rel, h⟩ => ?_
  refine ⟨W, ρ, ok, rel, (T ρ).mono (fun x h1 v H1 k1 ok1 r1 => ?_) (fun e h => h) h⟩
  obtain ⟨z, hz, p⟩ := run_lift.mp h1
  exact ⟨z, tru_rv r1 hz, p H1 k1 ok1⟩
theorem dt_cmp {op : CmpOp} {g : SD → SD → Option SD} (hc : CmpR X op g) (ha : DE X EX a Ta) (hb : DE X EX b Tb) (hm : behindInMarks op b = false) : DT X EX (.Compare a [op] [b] pos) (fun ρ => do let x ← Ta ρ; let y ← Tb ρ; let z ← M.lift (g x y); M.lift (asB z)) := by
  obtain ⟨r, h1, h2⟩ := hc
  refine pt_imp (pt_cmpR h1 ha hb hm) fun σ H Q h => ?_
  refine bin_imp (EX := EX) (Ta := Ta) (Tb := Tb) (g := g) h2 σ H _ ?_
  obtain ⟨W, ρ, ok, rel, h⟩ := h
  refine ⟨W, ρ, ok, rel, (Ta ρ).mono (fun x h1 => (Tb ρ).mono (fun y h2 => (M.lift (g x y)).mono (fun z hz v H' k' ok' r' => ?_) (fun _ h => h) h2) (fun _ h => h) h1) (fun _ h => h) h⟩
  obtain ⟨t, ht, p⟩ := run_lift.mp hz
  unfold asB at ht
  split at ht
  · cases r'; cases ht
    exact ⟨_, rfl, p H' k' ok'⟩
  · cases ht
theorem dt_not (h : DT X EX e B) : DT X EX (.UnaryOp .Not e pos) (fun ρ => do let b ← B ρ; pure (!b)) := by
  refine pt_imp (pt_not h) fun σ H Q ⟨W, ρ, ok, rel, h⟩ => ?_
  exact ⟨W, ρ, ok, rel, (B ρ).mono (fun x h1 H1 k1 ok1 => h1 H1 k1 ok1) (fun e h => h) h⟩
theorem dw_and1 (h : DT X EX e B) : DW X EX (.BoolOp .And [e] pos) B := pw_and1 h
theorem dw_or1 (h : DT X EX e B) : DW X EX (.BoolOp .Or [e] pos) B := pw_or1 h
theorem dw_and (h1 : DT X EX a B1) (h2 : DW X EX (.BoolOp .And (b :: rest) pos) B2) : DW X EX (.BoolOp .And (a :: b :: rest) pos) (fun ρ => do if ← B1 ρ then B2 ρ else pure false) := by
  refine pw_imp (pw_and h1 h2) fun σ H Q ⟨W, ρ, ok, rel, h⟩ => ?_
  refine ⟨W, ρ, ok, rel, (B1 ρ).mono (fun x h1 H1 k1 ok1 => ?_) (fun e h => h) h⟩
  cases x with
  | true => exact ⟨W, ρ, ok1, rel.keep ok k1, (B2 ρ).mono (fun y h2 H2 k2 ok2 => h2 H2 (k1.trans k2) ok2) (fun e h => XP.trans ok k1 ok1 h) h1⟩
  | false => exact h1 H1 k1 ok1
theorem dw_or (h1 : DT X EX a B1) (h2 : DW X EX (.BoolOp .Or (b :: rest) pos) B2) : DW X EX (.BoolOp .Or (a :: b :: rest) pos) (fun ρ => do if ← B1 ρ then pure true else B2 ρ) := by
  refine pw_imp (pw_or h1 h2) fun σ H Q ⟨W, ρ, ok, rel, h⟩ => ?_
  refine ⟨W, ρ, ok, rel, (B1 ρ).mono (fun x h1 H1 k1 ok1 => ?_) (fun e h => h) h⟩
  cases x with
  | false => exact ⟨W, ρ, ok1, rel.keep ok k1, (B2 ρ).mono (fun y h2 H2 k2 ok2 => h2 H2 (k1.trans k2) ok2) (fun e h => XP.trans ok k1 ok1 h) h1⟩
  | true => exact h1 H1 k1 ok1
theorem dw_pt (h : DW X EX e B) : DT X EX e B := PW.pt h
/-! ### and, or, not as values (of bools) -/
theorem de_one {op} (h : DE X EX a T) : DE X EX (.BoolOp op [a] pos) T := pe_one h
theorem de_and (h1 : DE X EX a Ta) (h2 : DE X EX (.BoolOp .And (b :: rest) pos) Tb) : DE X EX (.BoolOp .And (a :: b :: rest) pos) (fun ρ => do let x ← Ta ρ; let k ← M.lift (asB x); if k then Tb ρ else pure (dB false)) := by
  refine pe_imp (pe_and h1 h2) fun σ H Q ⟨W, ρ, ok, rel, h⟩ => ?_
  refine ⟨W, ρ, ok, rel, (Ta ρ).mono (fun x h1 v H1 k1 ok1 r1 => ?_) (fun e h => h) h⟩
  obtain ⟨z, hz, p⟩ := run_lift.mp h1
  unfold asB at hz
  split at hz
  · cases r1; cases hz
    refine ⟨_, rfl, ?_⟩
    cases z with
    | true => exact ⟨W, ρ, ok1, rel.keep ok k1, (Tb ρ).mono (fun y h2 => Post.trans k1 h2) (fun e h => XP.trans ok k1 ok1 h) p⟩
    | false => exact p (.bl false) H1 k1 ok1 (Rp.bl false)
  · cases hz
theorem de_or (h1 : DE X EX a Ta) (h2 : DE X EX (.BoolOp .Or (b :: rest) pos) Tb) : DE X EX (.BoolOp .Or (a :: b :: rest) pos) (fun ρ => do let x ← Ta ρ; let k ← M.lift (asB x); if k then pure (dB true) else Tb ρ) := by
  refine pe_imp (pe_or h1 h2) fun σ H Q ⟨W, ρ, ok, rel, h⟩ => ?_
  refine ⟨W, ρ, ok, rel, (Ta ρ).mono (fun x h1 v H1 k1 ok1 r1 => ?_) (fun e h => h) h⟩
  obtain ⟨z, hz, p⟩ := run_lift.mp h1
  unfold asB at hz
  split at hz
  · cases r1; cases hz
    refine ⟨_, rfl, ?_⟩
    cases z with
    | false => exact ⟨W, ρ, ok1, rel.keep ok k1, (Tb ρ).mono (fun y h2 => Post.trans k1 h2) (fun e h => XP.trans ok k1 ok1 h) p⟩
    | true => exact p (.bl true) H1 k1 ok1 (Rp.bl true)
  · cases hz
theorem de_not (h1 : DE X EX a Ta) : DE X EX (.UnaryOp .Not a pos) (fun ρ => do let x ← Ta ρ; let k ← M.lift (asB x); pure (dB (!k))) := by
  refine pe_imp (pe_not h1) fun σ H Q ⟨W, ρ, ok, rel, h⟩ => ?_
  refine ⟨W, ρ, ok, rel, (Ta ρ).mono (fun x h1 v H1 k1 ok1 r1 => ?_) (fun e h => h) h⟩
  obtain ⟨z, hz, p⟩ := run_lift.mp h1
  unfold asB at hz
  split at hz
  · cases r1; cases hz
    exact ⟨_, rfl, p _ H1 k1 ok1 (Rp.bl _)⟩
  · cases hz
theorem de_if (h0 : DT X EX c B) (h1 : DE X EX a Ta) (h2 : DE X EX b Tb) : DE X EX (.IfExp c a b pos) (fun ρ => do if ← B ρ then Ta ρ else Tb ρ) := by
  refine pe_imp (pe_ifExp h0 h1 h2) fun σ H Q ⟨W, ρ, ok, rel, h⟩ => ?_
  refine ⟨W, ρ, ok, rel, (B ρ).mono (fun x h1 H1 k1 ok1 => ?_) (fun e h => h) h⟩
  cases x with
  | true => exact ⟨W, ρ, ok1, rel.keep ok k1, (Ta ρ).mono (fun y h2 => Post.trans k1 h2) (fun e h => XP.trans ok k1 ok1 h) h1⟩
  | false => exact ⟨W, ρ, ok1, rel.keep ok k1, (Tb ρ).mono (fun y h2 => Post.trans k1 h2) (fun e h => XP.trans ok k1 ok1 h) h1⟩
/-! ### displays -/
def allD : List SD → Option (List PyData)
  | [] => some []
  | .d x :: r => (allD r).map (x :: ·)
  | _ => none
theorem allD_rp {K : PySem.W.Frag} {W : Wd} {H : Hp} : ∀ {vs : List V} {xs : List SD} {ds : List PyData}, Paired (RV K W H) vs xs → allD xs = some ds → RpAll K W.S H vs ds
  | _, _, _, .nil, h => by cases h; exact .nil
  | _, .d x :: r, ds, .cons r1 t, h => by
    unfold allD at h
    obtain ⟨ds', h1, rfl⟩ := Option.map_eq_some_iff.mp h
    exact .cons r1 (allD_rp t h1)
  | _, .no :: _, _, .cons _ _, h => by cases h
  | _, .src :: _, _, .cons _ _, h => by cases h
  | _, .own _ :: _, _, .cons _ _, h => by cases h
  | _, .ownD _ :: _, _, .cons _ _, h => by cases h
  | _, .ty _ :: _, _, .cons _ _, h => by cases h
def gTup (xs : List SD) : Option SD := (allD xs).bind fun ds => if szOk ds.length then some (.d (.tuple ds)) else none
def gLst (xs : List SD) : Option SD := (allD xs).bind fun ds => if szOk ds.length then some (.d (.list ds)) else none
theorem de_tup {x1} (h : DA X EX es Ts) : DE X EX (.Tuple es x1 pos) (fun ρ => do let xs ← Ts ρ; M.lift (gTup xs)) := by
  refine pe_imp (pe_tup h) (arg_imp (r := fun xs H Q => xs.length ≤ sizeLine ∧ ∀ p, H p = none → Q (.ref p) (upd H p (.tup xs))) fun {W H vs xs z Q} ok r h q => ?_)
  obtain ⟨ds, h1, h2⟩ := Option.bind_eq_some_iff.mp h
  split at h2
  · rename_i s
    cases h2
    have t := allD_rp r h1
    exact ⟨by rw [t.length]; exact szOk.le s, fun p hp => new_tup ok hp t q⟩
  · cases h2
theorem de_lst (h : DA X EX es Ts) : DE X EX (.List es pos) (fun ρ => do let xs ← Ts ρ; M.lift (gLst xs)) := by
  refine pe_imp (pe_lst h) (arg_imp (r := fun xs H Q => xs.length ≤ sizeLine ∧ ∀ p, H p = none → Q (.ref p) (upd H p (.lst xs))) fun {W H vs xs z Q} ok r h q => ?_)
  obtain ⟨ds, h1, h2⟩ := Option.bind_eq_some_iff.mp h
  split at h2
  · rename_i s
    cases h2
    have t := allD_rp r h1
    exact ⟨by rw [t.length]; exact szOk.le s, fun p hp => new_lst ok hp t q⟩
  · cases h2
/-! ### subscripts -/
def keyOf : PyData → Option Key
  | .int i => some (.inl i)
  | .str x => some (.inr x)
  | _ => none
/-- the value at a key -/
def valD : List (PyData × PyData) → Key → Option PyData
  | [], _ => none
  | (k, v) :: r, q => if keyOf k = some q then some v else valD r q
def gIx : SD → SD → Option SD
  | .d (.list xs), .d (.int i) => (atI xs i).map .d
  | .d (.tuple xs), .d (.int i) => (atI xs i).map .d
  | .d (.str z), .d (.int i) => if szOk z.length then (atI z.cps.toList i).map fun c => dS ⟨#[c]⟩ else none
  | .d (.dict kvs), .d k => (keyOf k).bind fun q => (valD kvs q).map .d
  | .own xs, .d (.int i) => (atI xs i).map .d
  | .ownD kvs, .d k => (keyOf k).bind fun q => ((kvs.find? fun p => decide (p.1 = q)).map (·.2)).map .d
  | _, _ => none
theorem keyOf_keyD (k : Key) : keyOf (keyD k) = some k := by cases k <;> rfl
theorem keyOf_rp {K : PySem.W.Frag} {S : List Addr} {H : Hp} {v : V} {d : PyData} {k : Key} (h : Rp K S H v d) (e : keyOf d = some k) : v = kV k := by
  cases h <;> first | (cases e; rfl) | cases e
theorem valD_rp {K : PySem.W.Frag} {S : List Addr} {H : Hp} {q : Key} : ∀ {kvs : List (Key × V)} {ds : List (PyData × PyData)} , RpKV K S H kvs ds → match valD ds q with
    | some d => ∃ v, valV kvs q = some v ∧ Rp K S H v d
    | none => valV kvs q = none
  | _, _, .nil => rfl
  | (k, v) :: kvs, (_, d) :: ds, .cons h t => by
    have ih := valD_rp (q := q) t
    unfold valD
    rw [keyOf_keyD]
    by_cases e : k = q
    · subst e
      rw [if_pos rfl]
      exact ⟨v, by simp [valV, List.find?_cons], h⟩
    · rw [if_neg (fun z => e (Option.some.inj z))]
      have e2 : valV ((k, v) :: kvs) q = valV kvs q := by simp [valV, List.find?_cons, e]
      rw [e2]
      exact ih
theorem findD_rp {R : V → PyData → Prop} {q : Key} : ∀ {kvs : List (Key × V)} {ds : List (Key × PyData)}, Paired (fun (a : Key × V) (b : Key × PyData) => a.1 = b.1 ∧ R a.2 b.2) kvs ds → match (ds.find? fun p => decide (p.1 = q)).map (·.2) with
    | some d => ∃ v, valV kvs q = some v ∧ R v d
    | none => valV kvs q = none
  | _, _, .nil => rfl
  | (k, v) :: kvs, (k', d) :: ds, .cons h t => by
    have ih := findD_rp (q := q) t
    obtain ⟨h1, h2⟩ := h
    simp only at h1
    subst h1
    by_cases e : k = q
    · subst e
      simp [valV, List.find?_cons, h2]
    · have e2 : valV ((k, v) :: kvs) q = valV kvs q := by simp [valV, List.find?_cons, e]
      rw [e2]
      simpa [List.find?_cons, e] using ih
theorem atI_rp {K : PySem.W.Frag} {S : List Addr} {H : Hp} {xs : List V} {ds : List PyData} {i : Int} {d : PyData} (t : RpAll K S H xs ds) (h : atI ds i = some d) : ∃ v, atI xs i = some v ∧ Rp K S H v d := by
  unfold atI at h ⊢
  rw [t.length]
  obtain ⟨j, h1, h2⟩ := Option.bind_eq_some_iff.mp h
  obtain ⟨v, h3, h4⟩ := t.get h2
  exact ⟨v, by rw [h1]; exact h3, h4⟩
theorem ix_dict (hu : X.A.units + 1 < cLine) : IxR X (fun x y H Q => ∃ a v, x = .ref a ∧ DGet H a y (some v) ∧ Q v H) := by
  intro value slice pins s σ H x y v u Q I rx ry h hs
  obtain ⟨a, r, rfl, g, q⟩ := h
  obtain rfl : v = Value.ref a := rx
  exact tail_any (dict_typeIs I g) slot_dict_getitem.lookup (d_getItem hu I g ry fun w' s' I' rw' => ⟨r, H, I', rw', q⟩) hs
theorem de_ix {k : Nat} (hr : Room k X.A) (ha : DE X EX a Ta) (hb : DE X EX b Tb) (hs : PlainIx b) : DE X EX (.Subscript a b pos) (fun ρ => do let x ← Ta ρ; let y ← Tb ρ; M.lift (gIx x y)) := by
  refine pe_imp (pe_ix (ix_seq.or (ix_dict (hu_of hr))) ha hb hs) (bin_imp fun {W H v w x y z Q} ok r1 r2 h q => ?_)
  unfold gIx at h
  split at h
  · obtain ⟨d, h1, rfl⟩ := Option.map_eq_some_iff.mp h
    cases r2
    cases r1 with | lst l t =>
    obtain ⟨v, h2, h3⟩ := atI_rp t h1
    exact .inl (.inl ⟨_, _, _, v, rfl, rfl, l.sq, h2, q.here ok h3⟩)
  · obtain ⟨d, h1, rfl⟩ := Option.map_eq_some_iff.mp h
    cases r2
    cases r1 with | tup l t =>
    obtain ⟨v, h2, h3⟩ := atI_rp t h1
    exact .inl (.inr (.inl ⟨_, _, _, v, rfl, rfl, l, h2, q.here ok h3⟩))
  · split at h
    · rename_i s
      obtain ⟨c, h1, rfl⟩ := Option.map_eq_some_iff.mp h
      cases r1; cases r2
      exact .inl (.inr (.inr ⟨_, _, c, rfl, rfl, szOk.le s, h1, q.here ok (.str _)⟩))
    · cases h
  · obtain ⟨kk, h1, h2⟩ := Option.bind_eq_some_iff.mp h
    obtain ⟨d, h3, rfl⟩ := Option.map_eq_some_iff.mp h2
    have e := keyOf_rp r2 h1
    subst e
    cases r1 with | dct l n t =>
    have z := valD_rp (q := kk) t
    rw [h3] at z
    obtain ⟨v, h4, h5⟩ := z
    exact .inr ⟨_, v, rfl, .inl ⟨_, kk, l, rfl, h4.symm⟩, q.here ok h5⟩
  · obtain ⟨d, h1, rfl⟩ := Option.map_eq_some_iff.mp h
    cases r2
    obtain ⟨p, xs, rfl, _, _, hp, t⟩ := r1
    obtain ⟨v, h2, h3⟩ := atI_rp t h1
    exact .inl (.inl ⟨_, _, _, v, rfl, rfl, .inl (.inl hp), h2, q.here ok h3⟩)
  · obtain ⟨kk, h1, h2⟩ := Option.bind_eq_some_iff.mp h
    obtain ⟨d, h3, rfl⟩ := Option.map_eq_some_iff.mp h2
    have e := keyOf_rp r2 h1
    subst e
    obtain ⟨p, xs, rfl, _, _, hp, t⟩ := r1
    have z := findD_rp (q := kk) t
    rw [h3] at z
    obtain ⟨v, h4, h5⟩ := z
    exact .inr ⟨_, v, rfl, .inl ⟨_, kk, .inl hp, rfl, h4.symm⟩, q.here ok h5⟩
  · cases h
end
end Dd
/-! DwD4 -/
/-! slices, in, built-ins -/
namespace Dd
open PySem PySem.Spec PyProof.Rows L2
section
variable {X : Cx} {EX : L2.St → XK} {a b c e : Expr} {es rest : List Expr} {pos p p2 : Pos} {T Ta Tb Tc : List SD → M SD} {Ts : List SD → M (List SD)} {B B1 B2 : List SD → M Bool}
/-! ### slices -/
def asI : SD → Option Int
  | .d (.int i) => some i
  | _ => none
def dto (K : PySem.W.Frag) (EX : L2.St → XK) (T : List SD → M (Option Int)) : TO := fun σ H Q => ∃ W ρ, W.Ok H ∧ Rel K W H σ ρ ∧ (T ρ).run (fun o => ∀ H', Kp W H H' → W.Ok H' → Q o H') (XP K W H (EX σ))
abbrev DO (X : Cx) (EX : L2.St → XK) (e : Option Expr) (T : List SD → M (Option Int)) : Prop := PO X e (dto X.K EX T)
theorem po_imp {X : Cx} {e : Option Expr} {t t' : TO} (h : PO X e t) (i : ∀ σ H Q, t' σ H Q → t σ H Q) : PO X e t' := ⟨fun pins s σ H Q J q => h.run pins s σ H Q J (i σ H Q q)⟩
theorem do_none : DO X EX none (fun _ => pure none) := po_imp po_none fun σ H Q ⟨W, ρ, ok, rel, p⟩ => p H (Kp.refl W H) ok
theorem do_some (h : DE X EX e T) : DO X EX (some e) (fun ρ => do let x ← T ρ; let i ← M.lift (asI x); pure (some i)) := by
  refine po_imp (po_some h) fun σ H Q ⟨W, ρ, ok, rel, h⟩ => ?_
  refine ⟨W, ρ, ok, rel, (T ρ).mono (fun x h1 v H1 k1 ok1 r1 => ?_) (fun e h => h) h⟩
  obtain ⟨z, hz, p⟩ := run_lift.mp h1
  unfold asI at hz
  split at hz
  · cases r1; cases hz
    exact ⟨_, rfl, p H1 k1 ok1⟩
  · cases hz
def cutD {α : Type} (xs : List α) (lo hi : Option Int) : List α := (xs.drop (HT.sIx xs.length 0 lo)).take (HT.sIx xs.length xs.length hi - HT.sIx xs.length 0 lo)
def gSl (x : SD) (lo hi : Option Int) : Option SD := match x with
  | .d (.list xs) => some (.d (.list (cutD xs lo hi)))
  | .d (.tuple xs) => some (.d (.tuple (cutD xs lo hi)))
  | .d (.str z) => if szOk z.length then some (dS (cutS z lo hi)) else none
  | .own xs => some (.d (.list (cutD xs lo hi)))
  | _ => none
theorem cut_rp {K : PySem.W.Frag} {S : List Addr} {H : Hp} {xs : List V} {ds : List PyData} (t : RpAll K S H xs ds) (lo hi : Option Int) : RpAll K S H (cutV xs lo hi) (cutD ds lo hi) := by
  unfold cutV cutD
  rw [t.length]
  exact (t.drop _).take _
theorem de_slice {lo hi : Option Expr} {Tl Th : List SD → M (Option Int)} (he : DE X EX e T) (hl : DO X EX lo Tl) (hh : DO X EX hi Th) : DE X EX (.Subscript e (.Slice lo hi none p2) pos) (fun ρ => do let x ← T ρ; let l ← Tl ρ; let h ← Th ρ; M.lift (gSl x l h)) := by
  refine pe_imp (pe_slice (sl_list.or (sl_tupA.or sl_str)) he hl hh) fun σ H Q ⟨W, ρ, ok, rel, h⟩ => ?_
  refine ⟨W, ρ, ok, rel, (T ρ).mono (fun x h1 v H1 k1 ok1 r1 => ?_) (fun e h => h) h⟩
  refine ⟨W, ρ, ok1, rel.keep ok k1, (Tl ρ).mono (fun l h2 H2 k2 ok2 => ?_) (fun e h => XP.trans ok k1 ok1 h) h1⟩
  have k12 := k1.trans k2
  refine ⟨W, ρ, ok2, (rel.keep ok k1).keep ok1 k2, (Th ρ).mono (fun u h3 H3 k3 ok3 => ?_) (fun e h => XP.trans ok k12 ok2 h) h2⟩
  obtain ⟨z, hz, q⟩ := run_lift.mp h3
  have q := Post.trans (k12.trans k3) q
  have r1 := (r1.keep ok1 k2).keep ok2 k3
  unfold gSl at hz
  split at hz
  · cases hz
    cases r1 with | lst l1 t1 => exact .inl ⟨_, _, rfl, l1.sq, fun p hp => new_lst ok3 hp (cut_rp t1 _ _) q⟩
  · cases hz
    cases r1 with | tup l1 t1 =>
    refine .inr (.inl ⟨_, _, rfl, l1, fun w => ?_, fun _ p hp => new_tup ok3 hp (cut_rp t1 _ _) q⟩)
    have e1 := cut_rp t1 l u
    have e2 : cutV _ l u = _ := show (_ : List V) = _ from by
      unfold cutV
      rw [w.1, w.2, List.drop_zero, Nat.sub_zero, List.take_length]
    rw [e2] at e1
    exact q.here ok3 (.tup l1 e1)
  · split at hz
    · rename_i s
      cases r1; cases hz
      exact .inr (.inr ⟨_, rfl, szOk.le s, q.here ok3 (.str _)⟩)
    · cases hz
  · cases hz
    obtain ⟨p, xs, rfl, _, _, hp, t⟩ := r1
    exact .inl ⟨_, _, rfl, .inl (.inl hp), fun p hp => new_lst ok3 hp (cut_rp t _ _) q⟩
  · cases hz
/-! ### in, not in -/
def flatD : PyData → Bool
  | .none => true
  | .bool _ => true
  | .int _ => true
  | .str _ => true
  | _ => false
def inD (x : PyData) (ds : List PyData) : Bool := ds.any fun y => PyData.eqv y x
theorem flat_rp {K : PySem.W.Frag} {S : List Addr} {H : Hp} {v : V} {d : PyData} (r : Rp K S H v d) (f : flatD d = true) : flatV v = true := by
  cases r <;> first | rfl | cases f
theorem eq_rp {K : PySem.W.Frag} {S : List Addr} {H : Hp} {v w : V} {d e : PyData} (r : Rp K S H v d) (f : flatD d = true) (r2 : Rp K S H w e) (f2 : flatD e = true) : eqV v w = PyData.eqv d e := by
  cases r <;> cases r2 <;> first | exact Bool.noConfusion f | exact Bool.noConfusion f2 | (simp [eqV, PyData.eqv]; done)
theorem all_rp {K : PySem.W.Frag} {S : List Addr} {H : Hp} : ∀ {vs : List V} {ds : List PyData}, RpAll K S H vs ds → ds.all flatD = true → vs.all flatV = true
  | _, _, .nil, _ => rfl
  | _, d :: ds, .cons r t, f => by
    have f' : flatD d = true ∧ ds.all flatD = true := by simpa using f
    simp only [List.all_cons, Bool.and_eq_true]
    exact ⟨flat_rp r f'.1, all_rp t f'.2⟩
theorem in_rp {K : PySem.W.Frag} {S : List Addr} {H : Hp} {v : V} {d : PyData} (r : Rp K S H v d) (f : flatD d = true) : ∀ {vs : List V} {ds : List PyData}, RpAll K S H vs ds → ds.all flatD = true → inV v vs = inD d ds
  | _, _, .nil, _ => rfl
  | _, e :: ds, .cons r2 t, f2 => by
    have f' : flatD e = true ∧ ds.all flatD = true := by simpa using f2
    have ih := in_rp r f t f'.2
    unfold inV inD at ih ⊢
    rw [List.any_cons, List.any_cons, ih, eq_rp r2 f'.1 r f]
def gIn0 (neg : Bool) : SD → SD → Option SD
  | .d x, .d (.list ds) => if flatD x && ds.all flatD then some (dB (if neg then !inD x ds else inD x ds)) else if SeqAt.shaped x && SeqAt.shaped (.list ds) then some (dB (if neg then !inD x ds else inD x ds)) else none
  | .d x, .d (.tuple ds) => if flatD x && ds.all flatD then some (dB (if neg then !inD x ds else inD x ds)) else none
  | .d x, .d (.dict ds) => (keyOf x).map fun q => dB (if neg then !(valD ds q).isSome else (valD ds q).isSome)
  | .d x, .own ds => if flatD x && ds.all flatD then some (dB (if neg then !inD x ds else inD x ds)) else none
  | .d x, .ownD ds => (keyOf x).map fun q => dB (if neg then !(ds.find? fun p => decide (p.1 = q)).isSome else (ds.find? fun p => decide (p.1 = q)).isSome)
  | _, _ => none
theorem op_inDict (hu : X.A.units + 1 < cLine) : OpR X (compareOp .In) (fun y x H Q => ∃ a o, x = .ref a ∧ DGet H a y o ∧ Q (.bl o.isSome) H) := by
  intro pins s σ H x y v u Q I rx ry h
  obtain ⟨a, o, rfl, g, q⟩ := h
  obtain rfl : u = Value.ref a := ry
  exact d_in hu I g rx fun s3 I3 => ⟨.bl o.isSome, H, I3, rfl, q⟩
theorem op_notInDict (hu : X.A.units + 1 < cLine) : OpR X (compareOp .NotIn) (fun y x H Q => ∃ a o, x = .ref a ∧ DGet H a y o ∧ Q (.bl (!o.isSome)) H) := by
  intro pins s σ H x y v u Q I rx ry h
  obtain ⟨a, o, rfl, g, q⟩ := h
  obtain rfl : u = Value.ref a := ry
  exact d_notIn hu I g rx fun s3 I3 => ⟨.bl (!o.isSome), H, I3, rfl, q⟩
theorem isSome_rp {K : PySem.W.Frag} {S : List Addr} {H : Hp} {q : Key} {kvs : List (Key × V)} {ds : List (PyData × PyData)} (t : RpKV K S H kvs ds) : (valV kvs q).isSome = (valD ds q).isSome := by
  have z := valD_rp (q := q) t
  cases e : valD ds q with
  | none => rw [e] at z; rw [z]; rfl
  | some d => rw [e] at z; obtain ⟨v, z, _⟩ := z; rw [z]; rfl
theorem isSome_rp2 {R : V → PyData → Prop} {q : Key} {kvs : List (Key × V)} {ds : List (Key × PyData)} (t : Paired (fun (a : Key × V) (b : Key × PyData) => a.1 = b.1 ∧ R a.2 b.2) kvs ds) : (valV kvs q).isSome = (ds.find? fun p => decide (p.1 = q)).isSome := by
  have z := findD_rp (q := q) t
  cases e : ds.find? fun p => decide (p.1 = q) with
  | none => rw [e] at z; have z : valV kvs q = none := z; rw [z]; rfl
  | some d => rw [e] at z; obtain ⟨v, z, _⟩ := z; rw [z]; rfl
theorem c_in0 {neg : Bool} {op : CmpOp} (h1 : OpR X (compareOp op) (rIn X.K neg)) (h2 : OpR X (compareOp op) (fun y x H Q => ∃ a o, x = .ref a ∧ DGet H a y o ∧ Q (.bl (if neg then !o.isSome else o.isSome)) H))
    (h3 : OpR X (compareOp op) (fun x y H Q => ∃ d ds, Dp X.K H x d ∧ Dp X.K H y (.list ds) ∧ SeqAt.shaped d = true ∧ SeqAt.shaped (.list ds) = true ∧ Q (.bl (if neg then !inD d ds else inD d ds)) H)) : CmpR X op (gIn0 neg) := by
  refine ⟨_, h1.or (h2.or h3), fun {W H v w x y z Q} ok r1 r2 h q => ?_⟩
  unfold gIn0 at h
  split at h
  · split at h
    · rename_i s
      have s' := Bool.and_eq_true_iff.mp s
      cases h
      cases r2 with | lst l t =>
      refine .inl ⟨_, _, rfl, .inl l.sq, flat_rp r1 s'.1, all_rp t s'.2, ?_⟩
      rw [in_rp r1 s'.1 t s'.2]
      exact q.here ok (.bl _)
    · split at h
      · rename_i s
        have s' := Bool.and_eq_true_iff.mp s
        cases h
        exact .inr (.inr ⟨_, _, Rp.dp (SeqAt.canLay_of_shaped s'.1) r1, Rp.dp (SeqAt.canLay_of_shaped s'.2) r2, s'.1, s'.2, q.here ok (.bl _)⟩)
      · cases h
  · split at h
    · rename_i s
      have s' := Bool.and_eq_true_iff.mp s
      cases h
      cases r2 with | tup l t =>
      refine .inl ⟨_, _, rfl, .inr l, flat_rp r1 s'.1, all_rp t s'.2, ?_⟩
      rw [in_rp r1 s'.1 t s'.2]
      exact q.here ok (.bl _)
    · cases h
  · obtain ⟨kk, h1, rfl⟩ := Option.map_eq_some_iff.mp h
    have e := keyOf_rp r1 h1
    subst e
    cases r2 with | dct l n t =>
    refine .inr (.inl ⟨_, _, rfl, .inl ⟨_, kk, l, rfl, rfl⟩, ?_⟩)
    rw [isSome_rp t]
    exact q.here ok (.bl _)
  · split at h
    · rename_i s
      have s' := Bool.and_eq_true_iff.mp s
      cases h
      obtain ⟨p, xs, rfl, _, _, hp, t⟩ := r2
      refine .inl ⟨_, _, rfl, .inl (.inl (.inl hp)), flat_rp r1 s'.1, all_rp t s'.2, ?_⟩
      rw [in_rp r1 s'.1 t s'.2]
      exact q.here ok (.bl _)
    · cases h
  · obtain ⟨kk, h1, rfl⟩ := Option.map_eq_some_iff.mp h
    have e := keyOf_rp r1 h1
    subst e
    obtain ⟨p, xs, rfl, _, _, hp, t⟩ := r2
    refine .inr (.inl ⟨_, _, rfl, .inl ⟨_, kk, .inl hp, rfl, rfl⟩, ?_⟩)
    rw [isSome_rp2 t]
    exact q.here ok (.bl _)
  · cases h
abbrev gIn : SD → SD → Option SD := gIn0 false
abbrev gNotIn : SD → SD → Option SD := gIn0 true
theorem c_in {k : Nat} (hr : Room k X.A) : CmpR X .In gIn := c_in0 op_in_seq (op_inDict (hu_of hr)) (op_inD (by have := hr.un; omega))
theorem c_notIn {k : Nat} (hr : Room k X.A) : CmpR X .NotIn gNotIn := c_in0 op_notIn_seq (op_notInDict (hu_of hr)) (op_notInD (by have := hr.un; omega))
/-! ### chains -/
theorem chain_imp {r r' : R2} {g g' : SD → SD → Option SD} (hr : ∀ {W : Wd} {H : Hp} {v w : V} {x y z : SD} {Q : VK}, W.Ok H → RV X.K W H v x → RV X.K W H w y → g x y = some z → Post X.K W H Q z → r v w H Q)
    (hr' : ∀ {W : Wd} {H : Hp} {v w : V} {x y z : SD} {Q : VK}, W.Ok H → RV X.K W H v x → RV X.K W H w y → g' x y = some z → Post X.K W H Q z → r' v w H Q) (σ : L2.St) (H : Hp) (Q : VK)
    (h : dt X.K EX (fun ρ => do let x ← Ta ρ; let y ← Tb ρ; let z ← M.lift (g x y); let k ← M.lift (asB z); if k then do let w ← Tc ρ; M.lift (g' y w) else pure (dB false)) σ H Q) : tChain r r' (dt X.K EX Ta) (dt X.K EX Tb) (dt X.K EX Tc) σ H Q := by
  obtain ⟨W, ρ, ok, rel, h⟩ := h
  refine ⟨W, ρ, ok, rel, (Ta ρ).mono (fun x h1 v H1 k1 ok1 r1 => ?_) (fun e h => h) h⟩
  refine ⟨W, ρ, ok1, rel.keep ok k1, (Tb ρ).mono (fun y h2 w H2 k2 ok2 r2 => ?_) (fun e h => XP.trans ok k1 ok1 h) h1⟩
  have k12 := k1.trans k2
  have rel2 := (rel.keep ok k1).keep ok1 k2
  obtain ⟨z, hz, p⟩ := run_lift.mp h2
  obtain ⟨kk, hk, p⟩ := run_lift.mp p
  refine hr ok2 (r1.keep ok1 k2) r2 hz fun v' H3 k3 ok3 r3 => ?_
  unfold asB at hk
  split at hk
  · cases r3; cases hk
    refine ⟨_, rfl, ?_⟩
    cases kk with
    | false => exact p (.bl false) H3 (k12.trans k3) ok3 (Rp.bl false)
    | true =>
      refine ⟨W, ρ, ok3, rel2.keep ok2 k3, (Tc ρ).mono (fun u h4 w' H4 k4 ok4 r4 => ?_) (fun e h => XP.trans ok (k12.trans k3) ok3 h) p⟩
      obtain ⟨z', hz', p'⟩ := run_lift.mp h4
      exact hr' ok4 ((r2.keep ok2 k3).keep ok3 k4) r4 hz' (Post.trans ((k12.trans k3).trans k4) p')
  · cases hk
theorem de_chain {op op' : CmpOp} {g g' : SD → SD → Option SD} (h1 : CmpR X op g) (h2 : CmpR X op' g') (ha : DE X EX a Ta) (hb : DE X EX b Tb) (hc : DE X EX c Tc) (hm : lastMarks [op, op'] [b, c] = false := by with_unfolding_all rfl) :
    DE X EX (.Compare a [op, op'] [b, c] pos) (fun ρ => do let x ← Ta ρ; let y ← Tb ρ; let z ← M.lift (g x y); let k ← M.lift (asB z); if k then do let w ← Tc ρ; M.lift (g' y w) else pure (dB false)) := by
  obtain ⟨r, i1, i2⟩ := h1
  obtain ⟨r', j1, j2⟩ := h2
  exact pe_imp (pe_chain i1 j1 ha hb hc hm) (chain_imp i2 j2)
theorem dt_chain {op op' : CmpOp} {g g' : SD → SD → Option SD} (h1 : CmpR X op g) (h2 : CmpR X op' g') (ha : DE X EX a Ta) (hb : DE X EX b Tb) (hc : DE X EX c Tc) (hm : lastMarks [op, op'] [b, c] = false := by with_unfolding_all rfl) :
    DT X EX (.Compare a [op, op'] [b, c] pos) (fun ρ => do let x ← (do let x ← Ta ρ; let y ← Tb ρ; let z ← M.lift (g x y); let k ← M.lift (asB z); if k then do let w ← Tc ρ; M.lift (g' y w) else pure (dB false)); M.lift (asB x)) := by
  obtain ⟨r, i1, i2⟩ := h1
  obtain ⟨r', j1, j2⟩ := h2
  refine pt_imp (pt_chain i1 j1 ha hb hc hm) fun σ H Q h => ?_
  refine chain_imp (EX := EX) (Ta := Ta) (Tb := Tb) (Tc := Tc) i2 j2 σ H _ ?_
  obtain ⟨W, ρ, ok, rel, h⟩ := h
  refine ⟨W, ρ, ok, rel, M.mono _ (fun x hz v H' k' ok' r' => ?_) (fun _ h => h) h⟩
  obtain ⟨t, ht, p⟩ := run_lift.mp hz
  unfold asB at ht
  split at ht
  · cases r'; cases ht
    exact ⟨_, rfl, p H' k' ok'⟩
  · cases ht
end
end Dd
/-! DwD5 -/
/-! built-ins and calls -/
namespace Dd
open PySem PySem.Spec PyProof.Rows L2
/-- a built-in by values, as data -/
def BR (X : Cx) (f : Value) (g : List SD → M SD) : Prop := ∃ r, CallR X f r ∧ ∀ {W : Wd} {H : Hp} {vs : List V} {xs : List SD} {Q : VK} {E : Exn → Prop}, W.Ok H → Paired (RV X.K W H) vs xs → (g xs).run (Post X.K W H Q) E → r vs H Q
section
variable {X : Cx} {EX : L2.St → XK} {a b c e : Expr} {es rest : List Expr} {x : Str} {pos p p2 : Pos} {T Ta Tb Tc : List SD → M SD} {Ts : List SD → M (List SD)} {B B1 B2 : List SD → M Bool} {g : List SD → M SD} {bid : String}
theorem BR.imp {r : List V → Hp → VK → Prop} (h2 : ∀ {W : Wd} {H : Hp} {vs : List V} {xs : List SD} {Q : VK} {E : Exn → Prop}, W.Ok H → Paired (RV X.K W H) vs xs → (g xs).run (Post X.K W H Q) E → r vs H Q) (σ : L2.St) (H : Hp) (Q : VK)
    (h : dt X.K EX (fun ρ => do let xs ← Ts ρ; g xs) σ H Q) : tCB r (dta X.K EX Ts) σ H Q := by
  obtain ⟨W, ρ, ok, rel, h⟩ := h
  refine ⟨W, ρ, ok, rel, (Ts ρ).mono (fun x h1 v H1 k1 ok1 r1 => ?_) (fun e h => h) h⟩
  exact h2 ok1 r1 ((g x).mono (fun z p => Post.trans k1 p) (fun _ h => h) h1)
theorem de_b (hc : BR X (.builtin bid) g) (hg : Gl X x) (hm : X.mg x = none) (hv : bootBuiltins x = some (.builtin bid)) (ha : DA X EX (e :: es) Ts) (hn : x ≠ "__name__" := by decide) (hdb : (x == ("__debug__" : Str)) = false := by decide)
    (he : starEach (e :: es) X.env = (false, eval e X.env) :: starEach es X.env := by rfl) (hpl : (backTo pos (starEach es X.env)).any (·.1) = false := by rfl) : DE X EX (.Call (.Name x p) (e :: es) [] pos) (fun ρ => do let xs ← Ts ρ; g xs) := by
  obtain ⟨r, h1, h2⟩ := hc
  exact pe_imp (pe_callB h1 hg hm hv ha hn hdb he hpl) (BR.imp h2)
theorem de_bty (hc : BR X (.type bid) g) (hg : Gl X x) (hm : X.mg x = none) (hv : bootBuiltins x = some (.type bid)) (ha : DA X EX (e :: es) Ts) (hn : x ≠ "__name__" := by decide) (hdb : (x == ("__debug__" : Str)) = false := by decide)
    (he : starEach (e :: es) X.env = (false, eval e X.env) :: starEach es X.env := by rfl) (hpl : (backTo pos (starEach es X.env)).any (·.1) = false := by rfl) : DE X EX (.Call (.Name x p) (e :: es) [] pos) (fun ρ => do let xs ← Ts ρ; g xs) := by
  obtain ⟨r, h1, h2⟩ := hc
  exact pe_imp (pe_callTy h1 hg hm hv ha hn hdb he hpl) (BR.imp h2)
/-- a built-in class as a value -/
theorem de_ty {n : String} (hg : Gl X x) (hm : X.mg x = none) (hv : bootBuiltins x = some (.type n)) (hn : x ≠ "__name__" := by decide) (hd : (x == ("__debug__" : Str)) = false := by decide) : DE X EX (.Name x pos) (fun _ => pure (.ty n)) :=
  pe_imp (pe_bltn (v := .ty n) hg hm hv rfl hn hd) fun σ H Q ⟨W, ρ, ok, rel, p⟩ => p _ H (Kp.refl W H) ok rfl
/-- a module's constant -/
theorem de_glob {v : V} {u : Value} {d : PyData} (hg : Gl X x) (hm : X.mg x = some u) (r : RelV v u) (rd : ∀ S H, Rp X.K S H v d) (hd : (x == ("__debug__" : Str)) = false := by decide) : DE X EX (.Name x pos) (fun _ => pure (.d d)) := de_c (pe_glob hg hm r hd) rd
theorem pair1 {α β : Type} {R : α → β → Prop} {vs : List α} {x : β} (h : Paired R vs [x]) : ∃ v, vs = [v] ∧ R v x := by
  cases h with | cons h t => cases t; exact ⟨_, rfl, h⟩
theorem pair2 {α β : Type} {R : α → β → Prop} {vs : List α} {x y : β} (h : Paired R vs [x, y]) : ∃ v w, vs = [v, w] ∧ R v x ∧ R w y := by
  cases h with | cons h t => cases t with | cons h2 t => cases t; exact ⟨_, _, rfl, h, h2⟩
/-! ### len, abs -/
def lenD : SD → Option Int
  | .d (.list xs) => some xs.length
  | .d (.tuple xs) => some xs.length
  | .d (.str z) => if szOk z.length then some z.length else none
  | .own xs => some xs.length
  | .ownD xs => some xs.length
  | _ => none
def bLen : List SD → M SD
  | [x] => do let n ← M.lift (lenD x); pure (dI n)
  | _ => M.fail
theorem br_len : BR X (.builtin "len") bLen := by
  refine ⟨_, call_len_seq.or (call_len_str.or call_lenD), fun {W H vs xs Q E} ok r h => ?_⟩
  unfold bLen at h
  split at h
  · obtain ⟨v, rfl, r1⟩ := pair1 r
    replace r := r1
    obtain ⟨n, hn, q⟩ := run_lift.mp h
    unfold lenD at hn
    split at hn
    · cases hn
      cases r with | lst l t => exact .inl ⟨_, _, rfl, .inl l.sq, by rw [t.length]; exact q.here ok (.int _)⟩
    · cases hn
      cases r with | tup l t => exact .inl ⟨_, _, rfl, .inr l, by rw [t.length]; exact q.here ok (.int _)⟩
    · split at hn
      · rename_i s
        cases r; cases hn
        exact .inr (.inl ⟨_, rfl, szOk.le s, q.here ok (.int _)⟩)
      · cases hn
    · cases hn
      obtain ⟨p, xs, rfl, _, _, hp, t⟩ := r
      exact .inl ⟨_, _, rfl, .inl (.inl (.inl hp)), by rw [t.length]; exact q.here ok (.int _)⟩
    · cases hn
      obtain ⟨p, xs, rfl, _, _, hp, t⟩ := r
      exact .inr (.inr ⟨_, _, rfl, hp, by rw [Paired.length t]; exact q.here ok (.int _)⟩)
    · cases hn
  · exact h.elim
def bAbs : List SD → M SD
  | [.d (.int i)] => pure (dI (if i < 0 then -i else i))
  | _ => M.fail
theorem br_abs : BR X (.builtin "abs") bAbs := by
  refine ⟨_, call_abs, fun {W H vs xs Q E} ok r h => ?_⟩
  unfold bAbs at h
  split at h
  · obtain ⟨v, rfl, r1⟩ := pair1 r
    replace r := r1
    cases r
    exact ⟨_, rfl, Post.here (K := X.K) ok h (.int _)⟩
  · exact h.elim
/-! ### all, any, sum -/
def bools : List PyData → Option (List Bool)
  | [] => some []
  | .bool b :: r => (bools r).map (b :: ·)
  | _ => none
theorem bools_rp {K : PySem.W.Frag} {S : List Addr} {H : Hp} : ∀ {vs : List V} {ds : List PyData} {bs : List Bool}, RpAll K S H vs ds → bools ds = some bs → vs = bs.map V.bl
  | _, _, _, .nil, h => by cases h; rfl
  | _, .bool b :: r, bs, .cons r1 t, h => by
    unfold bools at h
    obtain ⟨ds', h1, rfl⟩ := Option.map_eq_some_iff.mp h
    cases r1
    rw [bools_rp t h1]
    rfl
  | _, .none :: _, _, .cons _ _, h => by cases h
  | _, .int _ :: _, _, .cons _ _, h => by cases h
  | _, .str _ :: _, _, .cons _ _, h => by cases h
  | _, .list _ :: _, _, .cons _ _, h => by cases h
  | _, .tuple _ :: _, _, .cons _ _, h => by cases h
  | _, .dict _ :: _, _, .cons _ _, h => by cases h
def bBools (f : List Bool → Bool) : List SD → M SD
  | [.d (.list ds)] => do let bs ← M.lift (bools ds); pure (dB (f bs))
  | _ => M.fail
abbrev bAll : List SD → M SD := bBools (fun bs => bs.all (fun b => b))
abbrev bAny : List SD → M SD := bBools (fun bs => bs.any (fun b => b))
theorem br_all (hc : X.calm = true) : BR X (.builtin "all") bAll := by
  refine ⟨_, cr_all hc, fun {W H vs xs Q E} ok r h => ?_⟩
  unfold bAll bBools at h
  split at h
  · obtain ⟨v, rfl, r1⟩ := pair1 r
    replace r := r1
    obtain ⟨n, hn, q⟩ := run_lift.mp h
    cases r with | lst l t =>
    refine ⟨_, n, rfl, ?_, Post.here (K := X.K) ok q (.bl _)⟩
    rw [← bools_rp t hn]
    exact l.sq
  · exact h.elim
theorem br_any (hc : X.calm = true) : BR X (.builtin "any") bAny := by
  refine ⟨_, cr_any hc, fun {W H vs xs Q E} ok r h => ?_⟩
  unfold bAny bBools at h
  split at h
  · obtain ⟨v, rfl, r1⟩ := pair1 r
    replace r := r1
    obtain ⟨n, hn, q⟩ := run_lift.mp h
    cases r with | lst l t =>
    refine ⟨_, n, rfl, ?_, Post.here (K := X.K) ok q (.bl _)⟩
    rw [← bools_rp t hn]
    exact l.sq
  · exact h.elim
def intsD : List PyData → Option (List Int)
  | [] => some []
  | .int b :: r => (intsD r).map (b :: ·)
  | _ => none
theorem intsD_rp {K : PySem.W.Frag} {S : List Addr} {H : Hp} : ∀ {vs : List V} {ds : List PyData} {bs : List Int}, RpAll K S H vs ds → intsD ds = some bs → vs = bs.map V.int
  | _, _, _, .nil, h => by cases h; rfl
  | _, .int b :: r, bs, .cons r1 t, h => by
    unfold intsD at h
    obtain ⟨ds', h1, rfl⟩ := Option.map_eq_some_iff.mp h
    cases r1
    rw [intsD_rp t h1]
    rfl
  | _, .none :: _, _, .cons _ _, h => by cases h
  | _, .bool _ :: _, _, .cons _ _, h => by cases h
  | _, .str _ :: _, _, .cons _ _, h => by cases h
  | _, .list _ :: _, _, .cons _ _, h => by cases h
  | _, .tuple _ :: _, _, .cons _ _, h => by cases h
  | _, .dict _ :: _, _, .cons _ _, h => by cases h
def bSum : List SD → M SD
  | [.d (.list ds)] => do let bs ← M.lift (intsD ds); pure (dI bs.sum)
  | _ => M.fail
theorem br_sum (hc : X.calm = true) : BR X (.builtin "sum") bSum := by
  refine ⟨_, cr_sum hc, fun {W H vs xs Q E} ok r h => ?_⟩
  unfold bSum at h
  split at h
  · obtain ⟨v, rfl, r1⟩ := pair1 r
    replace r := r1
    obtain ⟨n, hn, q⟩ := run_lift.mp h
    cases r with | lst l t =>
    refine ⟨_, n, rfl, ?_, Post.here (K := X.K) ok q (.int _)⟩
    rw [← intsD_rp t hn]
    exact l.sq
  · exact h.elim
/-! ### list, tuple, dict -/
def strsOf : List (PyData × PyData) → List PyData := List.map (·.1)
theorem keys_rp {K : PySem.W.Frag} {S : List Addr} {H : Hp} : ∀ {kvs : List (Key × V)} {ds : List (PyData × PyData)}, RpKV K S H kvs ds → RpAll K S H (kvs.map fun kv => kV kv.1) (ds.map (·.1))
  | _, _, .nil => .nil
  | (k, _) :: _, _, .cons _ t => by
    refine .cons ?_ (keys_rp t)
    cases k with
    | inl i => exact .int i
    | inr z => exact .str z
def bList : List SD → M SD
  | [.d (.list ds)] => pure (.d (.list ds))
  | [.d (.tuple ds)] => pure (.d (.list ds))
  | [.d (.dict ds)] => pure (.d (.list (ds.map (·.1))))
  | [.own ds] => pure (.d (.list ds))
  | _ => M.fail
theorem br_list (hc : X.calm = true) : BR X (.type "list") bList := by
  refine ⟨_, call_list_of.or (call_listD hc), fun {W H vs xs Q E} ok r h => ?_⟩
  unfold bList at h
  split at h
  · obtain ⟨v, rfl, r1⟩ := pair1 r
    replace r := r1
    cases r with | lst l t => exact .inl ⟨_, _, rfl, .inl l.sq, fun p hp => new_lst ok hp t h⟩
  · obtain ⟨v, rfl, r1⟩ := pair1 r
    replace r := r1
    cases r with | tup l t => exact .inl ⟨_, _, rfl, .inr l, fun p hp => new_lst ok hp t h⟩
  · obtain ⟨v, rfl, r1⟩ := pair1 r
    replace r := r1
    cases r with | dct l n t => exact .inr ⟨_, _, rfl, l, fun p hp => new_lst ok hp (keys_rp t) h⟩
  · obtain ⟨v, rfl, r1⟩ := pair1 r
    replace r := r1
    obtain ⟨p, xs, rfl, _, _, hp, t⟩ := r
    exact .inl ⟨_, _, rfl, .inl (.inl (.inl hp)), fun p hp => new_lst ok hp t h⟩
  · exact h.elim
def bTuple : List SD → M SD
  | [.d (.list ds)] => pure (.d (.tuple ds))
  | [.d (.tuple ds)] => pure (.d (.tuple ds))
  | [.own ds] => pure (.d (.tuple ds))
  | _ => M.fail
theorem br_tuple : BR X (.type "tuple") bTuple := by
  refine ⟨_, call_tuple_of, fun {W H vs xs Q E} ok r h => ?_⟩
  unfold bTuple at h
  split at h
  · obtain ⟨v, rfl, r1⟩ := pair1 r
    replace r := r1
    cases r with | lst l t => exact ⟨_, _, rfl, .inl ⟨l.sq, fun p hp => new_tup ok hp t h⟩⟩
  · obtain ⟨v, rfl, r1⟩ := pair1 r
    replace r := r1
    cases r with | tup l t => exact ⟨_, _, rfl, .inr ⟨l, Post.here (K := X.K) ok h (.tup l t)⟩⟩
  · obtain ⟨v, rfl, r1⟩ := pair1 r
    replace r := r1
    obtain ⟨p, xs, rfl, _, _, hp, t⟩ := r
    exact ⟨_, _, rfl, .inl ⟨.inl (.inl hp), fun p hp => new_tup ok hp t h⟩⟩
  · exact h.elim
/-- a list of pairs (key, value) -/
def pairsD : List PyData → Option (List (Key × PyData))
  | [] => some []
  | .tuple [k, v] :: r => (keyOf k).bind fun q => (pairsD r).map ((q, v) :: ·)
  | _ => none
def putD (kvs : List (Key × PyData)) (k : Key) (v : PyData) : List (Key × PyData) := if (kvs.any fun p => decide (p.1 = k)) = true then kvs.map fun p => if p.1 = k then (p.1, v) else p else kvs ++ [(k, v)]
def mergeD (kvs more : List (Key × PyData)) : List (Key × PyData) := more.foldl (fun acc kv => putD acc kv.1 kv.2) kvs
def dictOf (kvs : List (Key × PyData)) : PyData := .dict (kvs.map fun p => (keyD p.1, p.2))
abbrev PKV (K : PySem.W.Frag) (S : List Addr) (H : Hp) : List (Key × V) → List (Key × PyData) → Prop := Paired fun (a : Key × V) (b : Key × PyData) => a.1 = b.1 ∧ Rp K S H a.2 b.2
theorem pkv_kv {K : PySem.W.Frag} {S : List Addr} {H : Hp} : ∀ {kvs : List (Key × V)} {ds : List (Key × PyData)}, PKV K S H kvs ds → RpKV K S H kvs (ds.map fun p => (keyD p.1, p.2))
  | _, _, .nil => .nil
  | (k, v) :: _, (k', d) :: _, .cons h t => by
    obtain ⟨h1, h2⟩ := h
    simp only at h1
    subst h1
    exact .cons h2 (pkv_kv t)
theorem pkv_any {K : PySem.W.Frag} {S : List Addr} {H : Hp} {k : Key} : ∀ {kvs : List (Key × V)} {ds : List (Key × PyData)}, PKV K S H kvs ds → (kvs.any fun kv => decide (kv.1 = k)) = ds.any fun p => decide (p.1 = k)
  | _, _, .nil => rfl
  | _, _, .cons h t => by rw [List.any_cons, List.any_cons, pkv_any t, h.1]
theorem pkv_map {K : PySem.W.Frag} {S : List Addr} {H : Hp} {k : Key} {v : V} {d : PyData} (r : Rp K S H v d) : ∀ {kvs : List (Key × V)} {ds : List (Key × PyData)}, PKV K S H kvs ds → PKV K S H (kvs.map fun kv => if kv.1 = k then (kv.1, v) else kv) (ds.map fun p => if p.1 = k then (p.1, d) else p)
  | _, _, .nil => .nil
  | (k1, v1) :: _, (k2, d2) :: _, .cons h t => by
    obtain ⟨h1, h2⟩ := h
    simp only at h1
    subst h1
    refine .cons ?_ (pkv_map r t)
    by_cases e : k1 = k
    · simp only [if_pos e, true_and]; exact r
    · simp only [if_neg e, true_and]; exact h2
theorem paired_app {α β : Type} {R : α → β → Prop} : ∀ {a c : List α} {b d : List β}, Paired R a b → Paired R c d → Paired R (a ++ c) (b ++ d)
  | _, _, _, _, .nil, s => s
  | _, _, _, _, .cons h t, s => .cons h (paired_app t s)
theorem pkv_put {K : PySem.W.Frag} {S : List Addr} {H : Hp} {k : Key} {v : V} {d : PyData} (r : Rp K S H v d) {kvs : List (Key × V)} {ds : List (Key × PyData)} (h : PKV K S H kvs ds) : PKV K S H (putK kvs k v) (putD ds k d) := by
  unfold putK putD
  rw [pkv_any h]
  by_cases e : (ds.any fun p => decide (p.1 = k)) = true
  · rw [if_pos e, if_pos e]; exact pkv_map r h
  · rw [if_neg e, if_neg e]; exact paired_app h (.cons ⟨rfl, r⟩ .nil)
theorem pkv_merge {K : PySem.W.Frag} {S : List Addr} {H : Hp} : ∀ {more : List (Key × V)} {ms : List (Key × PyData)} {kvs : List (Key × V)} {ds : List (Key × PyData)}, PKV K S H more ms → PKV K S H kvs ds → PKV K S H (mergeK kvs more) (mergeD ds ms)
  | _, _, _, _, .nil, h => h
  | (k1, v1) :: _, (k2, d2) :: _, _, _, .cons h t, h0 => by
    obtain ⟨h1, h2⟩ := h
    simp only at h1
    subst h1
    show PKV K S H (mergeK (putK _ k1 v1) _) (mergeD (putD _ k1 d2) _)
    exact pkv_merge t (pkv_put h2 h0)
theorem rp_pair {K : PySem.W.Frag} {S : List Addr} {H : Hp} : ∀ {vs : List V} {ds : List PyData} {es : List (Key × PyData)}, RpAll K S H vs ds → pairsD ds = some es → ∃ (ps : List Addr) (kvs : List (Key × V)), vs = ps.map V.ref ∧ Paired (fun p kv => SqT K H p [kV kv.1, kv.2]) ps kvs ∧ PKV K S H kvs es
  | _, _, _, .nil, h => by cases h; exact ⟨[], [], rfl, .nil, .nil⟩
  | _, .tuple [k, v] :: r, es, .cons r1 t, h => by
    unfold pairsD at h
    obtain ⟨q, h1, h2⟩ := Option.bind_eq_some_iff.mp h
    obtain ⟨es', h3, rfl⟩ := Option.map_eq_some_iff.mp h2
    obtain ⟨ps, kvs, e1, e2, e3⟩ := rp_pair t h3
    cases r1 with | tup l tt =>
    cases tt with | cons ra tt =>
    cases tt with | cons rb tt =>
    cases tt
    have e := keyOf_rp ra h1
    subst e
    exact ⟨_ :: ps, (q, _) :: kvs, by rw [e1]; rfl, .cons l e2, .cons ⟨rfl, rb⟩ e3⟩
  | _, .tuple [] :: _, _, .cons _ _, h => by cases h
  | _, .tuple [_] :: _, _, .cons _ _, h => by cases h
  | _, .tuple (_ :: _ :: _ :: _) :: _, _, .cons _ _, h => by cases h
  | _, .none :: _, _, .cons _ _, h => by cases h
  | _, .bool _ :: _, _, .cons _ _, h => by cases h
  | _, .int _ :: _, _, .cons _ _, h => by cases h
  | _, .str _ :: _, _, .cons _ _, h => by cases h
  | _, .list _ :: _, _, .cons _ _, h => by cases h
  | _, .dict _ :: _, _, .cons _ _, h => by cases h
def bDict : List SD → M SD
  | [.d (.list ds)] => do let es ← M.lift (pairsD ds); pure (.d (dictOf (mergeD [] es)))
  | [.d (.dict ds)] => pure (.d (.dict ds))
  | _ => M.fail
theorem br_dict (hc : X.calm = true) : BR X (.type "dict") bDict := by
  refine ⟨_, (call_dictP hc).or call_dictD, fun {W H vs xs Q E} ok r h => ?_⟩
  unfold bDict at h
  split at h
  · obtain ⟨v, rfl, r1⟩ := pair1 r
    obtain ⟨es, h1, q⟩ := run_lift.mp h
    cases r1 with | lst l t =>
    obtain ⟨ps, kvs, e1, e2, e3⟩ := rp_pair t h1
    subst e1
    exact .inl ⟨_, ps, kvs, rfl, l.sq, e2, fun p hp => new_dct ok hp (pkv_kv (pkv_merge e3 .nil)) q⟩
  · obtain ⟨v, rfl, r1⟩ := pair1 r
    cases r1 with | dct l n t => exact .inr ⟨_, _, rfl, l, fun p hp => new_dct ok hp t h⟩
  · exact h.elim
/-! ### isinstance -/
def tyName : PyData → String
  | .none => "NoneType"
  | .bool _ => "bool"
  | .int _ => "int"
  | .str _ => "str"
  | .list _ => "list"
  | .tuple _ => "tuple"
  | .dict _ => "dict"
theorem ty_rp {K : PySem.W.Frag} {S : List Addr} {H : Hp} {v : V} {d : PyData} (r : Rp K S H v d) : TyX K H v (.type (tyName d)) := by
  cases r with
  | non => exact .base .non
  | bl b => exact .base (.bl b)
  | int i => exact .base (.int i)
  | str x => exact .base (.str x)
  | lst l t => exact .base (.lst l.1)
  | tup l t =>
    rcases l with (l | ⟨o, l⟩) | ⟨o, its, n, h1, h2, _⟩
    · exact .base (.tup l)
    · exact .fTuple l
    · exact .kTuple h1 h2
  | dct l n t =>
    rcases l with l | ⟨o, l⟩
    · exact .base (.dK l)
    · exact .fDict l
def bIsi : List SD → M SD
  | [.d x, .ty n] => do let b ← M.lift (kitB (tyName x) n); pure (dB b)
  | _ => M.fail
theorem br_isi : BR X (.builtin "isinstance") bIsi := by
  refine ⟨_, call_isi, fun {W H vs xs Q E} ok r h => ?_⟩
  unfold bIsi at h
  split at h
  · obtain ⟨v, w, rfl, r1, r2⟩ := pair2 r
    obtain ⟨es, h1, q⟩ := run_lift.mp h
    cases r2
    exact ⟨_, _, _, _, _, rfl, .ty _, ty_rp r1, kit_ty h1, Post.here (K := X.K) ok q (.bl _)⟩
  · exact h.elim
/-! ### sorted, min, max -/
def bSorted : List SD → M SD
  | [.d (.list ds)] => do M.need (PySem.W.AllAlike ds ∧ PySem.W.Sortable ds ∧ (∀ d ∈ ds, d.canLay0 = true ∧ d.depth ≤ 30)); pure (.d (.list (ds.mergeSort (PySem.W.dataLe false (fun d => d)))))
  | _ => M.fail
theorem zip_rp {K : PySem.W.Frag} {S : List Addr} {H : Hp} : ∀ {vs : List V} {ds : List PyData}, RpAll K S H vs ds → ∃ bs : List (V × PyData), bs.map (·.1) = vs ∧ bs.map (·.2) = ds ∧ ∀ b ∈ bs, Rp K S H b.1 b.2
  | _, _, .nil => ⟨[], rfl, rfl, fun _ h => nomatch h⟩
  | _, _, .cons (v := v) (d := d) r t => by
    obtain ⟨bs, h1, h2, h3⟩ := zip_rp t
    refine ⟨(v, d) :: bs, by rw [← h1]; rfl, by rw [← h2]; rfl, fun b hb => ?_⟩
    rcases List.mem_cons.mp hb with rfl | hb
    · exact r
    · exact h3 b hb
theorem rp_zip {K : PySem.W.Frag} {S : List Addr} {H : Hp} : ∀ {bs : List (V × PyData)}, (∀ b ∈ bs, Rp K S H b.1 b.2) → RpAll K S H (bs.map (·.1)) (bs.map (·.2))
  | [], _ => .nil
  | b :: bs, h => .cons (h b List.mem_cons_self) (rp_zip fun c hc => h c (List.mem_cons_of_mem _ hc))
theorem br_sorted {k : Nat} (hr : Room k X.A) : BR X (.builtin "sorted") bSorted := by
  refine ⟨_, Dw.cr_sortData hr.units, fun {W H vs xs Q E} ok r h => ?_⟩
  unfold bSorted at h
  split at h
  · obtain ⟨v, rfl, r1⟩ := pair1 r
    obtain ⟨⟨al, so, dp⟩, q⟩ := h
    cases r1 with | lst l t =>
    obtain ⟨bs, e1, e2, e3⟩ := zip_rp t
    subst e1 e2
    refine ⟨_, bs, rfl, l.sq, fun b hb => Rp.dp (dp _ (List.mem_map_of_mem hb)).1 (e3 b hb), al, so, fun b hb => (dp _ (List.mem_map_of_mem hb)).2, fun p hp => ?_⟩
    have e4 : (bs.mergeSort (PySem.W.dataLe false (·.2))).map (·.2) = (bs.map (·.2)).mergeSort (PySem.W.dataLe false (fun d => d)) := List.map_mergeSort (fun a _ b _ => rfl)
    have t2 : RpAll X.K W.S H _ _ := rp_zip (bs := bs.mergeSort (PySem.W.dataLe false (·.2))) fun b hb => e3 b (List.mem_mergeSort.mp hb)
    rw [e4] at t2
    exact new_lst ok hp t2 q
  · exact h.elim
end
end Dd
/-! DwD6 -/
/-! statements, defs, calls -/
namespace Dd
open PySem PySem.Spec PyProof.Rows L2
/-! ### what a def promises -/
def spX (K : PySem.W.Frag) (n : Nat) (f : List SD → M SD) : Sp := fun vs H Q E => ∃ W xs, W.Ok H ∧ Paired (RV K W H) vs xs ∧ (∀ x ∈ xs, isOwn x = false) ∧ xs.length = n ∧ (f xs).run (Post K W H Q) (XP K W H E) ∧ W.tab = theTab K
mutual
def noMut : PyData → Bool
  | .list _ => false
  | .dict _ => false
  | .tuple xs => noMutAll xs
  | _ => true
def noMutAll : List PyData → Bool
  | [] => true
  | x :: r => noMut x && noMutAll r
end
def noMutS : SD → Bool
  | .d x => noMut x
  | .ty _ => true
  | _ => false
mutual
theorem Rp.noMut {K : PySem.W.Frag} {S S' : List Addr} {H : Hp} : ∀ {v : V} {d : PyData}, Dd.noMut d = true → Rp K S H v d → Rp K S' H v d
  | _, _, _, .non => .non
  | _, _, _, .bl b => .bl b
  | _, _, _, .int i => .int i
  | _, _, _, .str x => .str x
  | _, _, c, .lst h t => by simp [Dd.noMut] at c
  | _, _, c, .tup h t => .tup h (RpAll.noMut (by simpa [Dd.noMut] using c) t)
  | _, _, c, .dct _ _ _ => by simp [Dd.noMut] at c
theorem RpAll.noMut {K : PySem.W.Frag} {S S' : List Addr} {H : Hp} : ∀ {v : List V} {d : List PyData}, noMutAll d = true → RpAll K S H v d → RpAll K S' H v d
  | _, _, _, .nil => .nil
  | _, d :: ds, c, .cons h t => by
    have c' : Dd.noMut d = true ∧ noMutAll ds = true := by simpa [noMutAll] using c
    exact .cons (Rp.noMut c'.1 h) (RpAll.noMut c'.2 t)
end
/-- an owned thing as data -/
def frzS : SD → SD
  | .own ds => .d (.list ds)
  | .ownD ds => .d (dictOf ds)
  | x => x
/-- what is given back holds nothing that may change -/
def guardM (m : M SD) : M SD := ⟨fun P E => m.run (fun r => noMutS r = true ∧ P r) (fun e => (∀ p ∈ e.fs, noMut p.2 = true) ∧ E e), fun h g p => m.mono (fun _ q => ⟨q.1, h _ q.2⟩) (fun _ q => ⟨q.1, g _ q.2⟩) p⟩
def callM (n : Nat) (f : List SD → M SD) (xs : List SD) : M SD := if xs.length = n then (if (xs.any isOwn) = true then guardM (f (xs.map frzS)) else f xs) else M.fail
/-- the world without what is owned among the values -/
def ownsOf : List V → List SD → List Addr
  | .ref p :: vs, x :: xs => if isOwn x = true then p :: ownsOf vs xs else ownsOf vs xs
  | _ :: vs, _ :: xs => ownsOf vs xs
  | _, _ => []
def Wd.less (W : Wd) (l : List Addr) : Wd := ⟨W.S.filter fun b => decide (b ∉ l), W.src, W.tab⟩
section
variable {K : PySem.W.Frag} {W : Wd} {H H' : Hp}
theorem owns_src : ∀ {vs : List V} {xs : List SD}, Paired (RV K W H) vs xs → ∀ p ∈ ownsOf vs xs, p ∈ W.S ∧ ∀ l, W.src ≠ some (p, l)
  | _, _, .nil, p, h => by simp [ownsOf] at h
  | v :: vs, x :: xs, .cons r t, p, h => by
    have ih := owns_src t
    cases v with
    | ref q =>
      unfold ownsOf at h
      split at h
      · rename_i e
        rcases List.mem_cons.mp h with rfl | h
        · cases x with
          | own ds => obtain ⟨p', ys, e', m, ns, _⟩ := r; cases e'; exact ⟨m, ns⟩
          | ownD ds => obtain ⟨p', ys, e', m, ns, _⟩ := r; cases e'; exact ⟨m, ns⟩
          | _ => cases e
        · exact ih p h
      · exact ih p h
    | _ => exact ih p h
theorem Wd.Ok.less (ok : W.Ok H) {l : List Addr} (hl : ∀ p ∈ l, ∀ q, W.src ≠ some (p, q)) : (W.less l).Ok H := by
  refine ⟨fun b h => ok.there b (List.mem_filter.mp h).1, fun a q e => ?_, ok.tabs⟩
  obtain ⟨h1, h2, h3⟩ := ok.draw a q e
  refine ⟨List.mem_filter.mpr ⟨h1, decide_eq_true fun z => hl a z q e⟩, fun z => h2 (List.mem_filter.mp z).1, h3⟩
theorem less_stp {l : List Addr} : Stp W.S (W.less l).S H H := ⟨fun _ _ h _ _ => h, fun b h => .inl (List.mem_filter.mp h).1⟩
theorem frz_rv {l : List Addr} {v : V} : ∀ {x : SD}, RV K W H v x → (∀ p, v = .ref p → isOwn x = true → p ∈ l) → RV K (W.less l) H v (frzS x)
  | .no, _, _ => trivial
  | .d _, h, _ => Rp.step less_stp h
  | .src, h, _ => h
  | .ty _, h, _ => h
  | .own ds, ⟨p, xs, e, m, ns, hp, t⟩, hl => by
    subst e
    exact Rp.lst ⟨hp, fun z => (of_decide_eq_true (List.mem_filter.mp z).2) (hl p rfl rfl)⟩ (RpAll.step less_stp t)
  | .ownD ds, ⟨p, xs, e, m, ns, hp, t⟩, hl => by
    subst e
    exact Rp.dct (.inl hp) (fun z => (of_decide_eq_true (List.mem_filter.mp z).2) (hl p rfl rfl)) (pkv_kv (paired_mono (fun _ _ z => ⟨z.1, Rp.step less_stp z.2⟩) t))
theorem frz_all {l : List Addr} : ∀ {vs : List V} {xs : List SD}, Paired (RV K W H) vs xs → (∀ p ∈ ownsOf vs xs, p ∈ l) → Paired (RV K (W.less l) H) vs (xs.map frzS)
  | _, _, .nil, _ => .nil
  | v :: vs, x :: xs, .cons r t, h => by
    refine .cons (frz_rv r fun p e o => h p ?_) (frz_all t fun p hp => h p ?_)
    · subst e
      unfold ownsOf
      rw [if_pos o]
      exact List.mem_cons_self
    · cases v with
      | ref q =>
        unfold ownsOf
        split
        · exact List.mem_cons_of_mem _ hp
        · exact hp
      | _ => exact hp
theorem frz_own : ∀ (x : SD), isOwn (frzS x) = false
  | .no => rfl
  | .d _ => rfl
  | .src => rfl
  | .ty _ => rfl
  | .own _ => rfl
  | .ownD _ => rfl
theorem Wd.Ok.more {l : List Addr} (ok : W.Ok H) (ok' : (W.less l).Ok H') (k : Kp W H H') (hl : ∀ p ∈ l, ∀ q, W.src ≠ some (p, q)) : W.Ok H' := by
  refine ⟨fun b h => ?_, fun a q e => ?_, ok'.tabs⟩
  · by_cases z : b ∈ l
    · obtain ⟨o, h1, h2⟩ := ok.there b h
      exact ⟨o, k b o h1 (hl b z) h2.2, h2⟩
    · exact ok'.there b (List.mem_filter.mpr ⟨h, decide_eq_true z⟩)
  · obtain ⟨h1, h2, h3⟩ := ok.draw a q e
    exact ⟨h1, h2, (ok'.draw a q e).2.2⟩
/-- a def's promise gives what the call's step on data asks -/
theorem call_sp {n : Nat} {f : List SD → M SD} {vs : List V} {xs : List SD} {Q : VK} {E : XK} (ok : W.Ok H) (r : Paired (RV K W H) vs xs) (tb : W.tab = theTab K) (h : (callM n f xs).run (Post K W H Q) (XP K W H E)) : spX K n f vs H Q E := by
  unfold callM at h
  split at h
  · rename_i hn
    split at h
    · have ho := owns_src r
      have hl : ∀ p ∈ ownsOf vs xs, ∀ q, W.src ≠ some (p, q) := fun p hp => (ho p hp).2
      refine ⟨W.less (ownsOf vs xs), xs.map frzS, ok.less hl, frz_all r fun _ h => h, fun x hx => ?_, by rw [List.length_map]; exact hn, M.mono _ (fun z q v H' k' ok' rv => ?_) (fun e q C dx H' fs hC k' ok' hn' hd ns rf => ?_) h, tb⟩
      · obtain ⟨y, _, rfl⟩ := List.mem_map.mp hx
        exact frz_own y
      · have k2 : Kp W H H' := k'
        refine q.2 v H' k2 (ok.more ok' k2 hl) ?_
        have nm := q.1
        cases z with
        | d x => exact Rp.noMut nm rv
        | ty n => exact rv
        | _ => cases nm
      · have k2 : Kp W H H' := k'
        refine q.2 C dx H' fs hC k2 (ok.more ok' k2 hl) hn' hd (fun z => ?_) ?_
        · obtain ⟨o, h1, _, t1⟩ := ok.there dx z
          exact hn' o h1 t1
        · have go : ∀ {fs : List (Str × V)} {gs : List (Str × PyData)}, (∀ p ∈ gs, noMut p.2 = true) → Paired (fun (a : Str × V) (b : Str × PyData) => a.1 = b.1 ∧ Rp K (W.less (ownsOf vs xs)).S H' a.2 b.2) fs gs → Paired (fun (a : Str × V) (b : Str × PyData) => a.1 = b.1 ∧ Rp K W.S H' a.2 b.2) fs gs := by
            intro fs gs hg t
            induction t with
            | nil => exact .nil
            | cons h t ih => exact .cons ⟨h.1, Rp.noMut (hg _ List.mem_cons_self) h.2⟩ (ih fun p hp => hg p (List.mem_cons_of_mem _ hp))
          exact go q.1 rf
    · rename_i ho
      refine ⟨W, xs, ok, r, fun x hx => ?_, hn, h, tb⟩
      cases e : isOwn x with
      | false => rfl
      | true => exact absurd (List.any_eq_true.mpr ⟨x, hx, e⟩) ho
  · exact h.elim
end
section
variable {X : Cx} {EX : L2.St → XK} {a b c e : Expr} {es rest : List Expr} {x : Str} {pos p p2 : Pos} {T Ta Tb Tc : List SD → M SD} {Ts : List SD → M (List SD)} {f : Addr} {fd : FuncData} {n k : Nat} {g : List SD → M SD} {ps : List Str}
/-- f(e, ..), f a def of the text that may raise -/
theorem de_call (G : FnOk X.prog X.w X.K X.mg X.base (L2.CX X.prog X.w) k f fd ps (spX X.K n g)) (room : Room k X.A) (hg : Gl X x) (hm : X.mg x = some (.ref f)) (hk : PySem.W.keepIn X.K (.ref f) = true) (hb : L2.Binds X.K fd ps []) (hx : ∀ σ, PassesAt (L2.CX X.prog X.w) X σ (EX σ))
    (ha : DA X EX (e :: es) Ts) (hdb : (x == ("__debug__" : Str)) = false := by decide) (he : starEach (e :: es) X.env = (false, eval e X.env) :: starEach es X.env := by rfl) (hpl : (backTo pos (starEach es X.env)).any (·.1) = false := by rfl) :
    DE X EX (.Call (.Name x p) (e :: es) [] pos) (fun ρ => do let xs ← Ts ρ; callM n g xs) := by
  refine pe_imp (pe_callSD (dvs := []) (ds := []) G room hg hm hk hb .nil hx ha hdb he hpl) fun σ H Q ⟨W, ρ, ok, rel, h⟩ => ?_
  refine ⟨W, ρ, ok, rel, (Ts ρ).mono (fun xs h1 vs H1 k1 ok1 r1 => ?_) (fun e h => h) h⟩
  show spX X.K n g (vs ++ []) H1 Q (EX σ)
  rw [List.append_nil]
  exact call_sp ok1 r1 rel.tab (M.mono _ (fun z q => Post.trans k1 q) (fun e q => XP.trans ok k1 ok1 q) h1)
/-- the same where nothing may be raised (a comprehension's block) -/
theorem FnOk.calm {P : Program} {w : World} {K : PySem.W.Frag} {mg : Str → Option Value} {base : Heap} (G : FnOk P w K mg base (L2.CX P w) k f fd ps (spX K n g)) : FnOk P w K mg base CX0 k f fd ps (spX K n fun xs => M.calm (g xs)) := by
  refine ⟨fun vs H Q E h => ?_, fun A outer s H args us vs Q E hr e0 hb hv hs => ?_⟩
  · obtain ⟨W, xs, ok, r, h1, h2, h3, tb⟩ := h
    exact G.len vs H Q E0 ⟨W, xs, ok, r, h1, h2, (g xs).mono (fun _ z => z) (fun _ z => z.elim) h3, tb⟩
  · obtain ⟨W, xs, ok, r, h1, h2, h3, tb⟩ := hs
    refine codeAny_mono (G.run A outer s H args us vs Q E0 hr e0 hb hv ⟨W, xs, ok, r, h1, h2, (g xs).mono (fun _ z => z) (fun _ z => z.elim) h3, tb⟩) fun r s' hq => ?_
    cases r with
    | ok fl => cases fl <;> exact hq
    | error e =>
      obtain ⟨_, _, _, _, _, _, _, _, _, _, _, _, z⟩ := hq
      exact z.elim
theorem de_calm (G : FnOk X.prog X.w X.K X.mg X.base (L2.CX X.prog X.w) k f fd ps (spX X.K n g)) (room : Room k X.A) (hg : Gl X x) (hm : X.mg x = some (.ref f)) (hk : PySem.W.keepIn X.K (.ref f) = true) (hb : L2.Binds X.K fd ps [])
    (ha : DA X (fun _ => E0) (e :: es) Ts) (hdb : (x == ("__debug__" : Str)) = false := by decide) (he : starEach (e :: es) X.env = (false, eval e X.env) :: starEach es X.env := by rfl) (hpl : (backTo pos (starEach es X.env)).any (·.1) = false := by rfl) :
    DE X (fun _ => E0) (.Call (.Name x p) (e :: es) [] pos) (fun ρ => do let xs ← Ts ρ; callM n (fun xs => M.calm (g xs)) xs) := by
  refine pe_imp (pe_call (dvs := []) (ds := []) (FnOk.calm G) room hg hm hk hb .nil pass0 ha hdb he hpl) fun σ H Q ⟨W, ρ, ok, rel, h⟩ => ?_
  refine ⟨W, ρ, ok, rel, (Ts ρ).mono (fun xs h1 vs H1 k1 ok1 r1 => ?_) (fun e h => h) h⟩
  show spX X.K n (fun xs => M.calm (g xs)) (vs ++ []) H1 Q E0
  rw [List.append_nil]
  exact call_sp ok1 r1 rel.tab (M.mono _ (fun z q => Post.trans k1 q) (fun e q => XP.trans ok k1 ok1 q) h1)
end
end Dd
/-! DwD7 -/
/-! statements -/
namespace Dd
open PySem PySem.Spec PyProof.Rows L2
inductive Out where
  | nx (ρ : List SD)
  | rt (x : SD)
  | bk (ρ : List SD)
  | ct (ρ : List SD)
/-- in a def's run that began in the world W0 at the heap H0 -/
structure SSt (K : PySem.W.Frag) (W0 : Wd) (H0 : Hp) (W : Wd) (H : Hp) (σ : L2.St) (ρ : List SD) : Prop where
  ok : W.Ok H
  rel : Rel K W H σ ρ
  src : W.src = W0.src
  sub : ∀ b ∈ W0.S, b ∈ W.S
  frm : Kp W0 H0 H
  mine : ∀ b ∈ W.S, b ∈ W0.S ∨ Fr0 H0 b
  own : ∀ (i : Nat) (x : SD) (p : Addr), ρ[i]? = some x → isOwn x = true → σ[i]? = some (some (.ref p)) → Fr0 H0 p
  ok0 : W0.Ok H0
  tab : W.tab = W0.tab
def SXP (K : PySem.W.Frag) (W0 : Wd) (H0 : Hp) (E : XK) (e : Exn) : Prop := XP K W0 H0 E e
def OutP (K : PySem.W.Frag) (W0 : Wd) (H0 : Hp) (W : Wd) (H : Hp) (D : Ends) : Out → Prop
  | .nx ρ => ∀ W' σ' H', Stp W.S W'.S H H' → SSt K W0 H0 W' H' σ' ρ → D.nx σ' H'
  | .bk ρ => ∀ W' σ' H', Stp W.S W'.S H H' → SSt K W0 H0 W' H' σ' ρ → D.bk σ' H'
  | .ct ρ => ∀ W' σ' H', Stp W.S W'.S H H' → SSt K W0 H0 W' H' σ' ρ → D.ct σ' H'
  | .rt x => ∀ v H', Kp W0 H0 H' → W0.Ok H' → RV K W0 H' v x → D.rt v H'
def ds (K : PySem.W.Frag) (E : XK) (T : List SD → M Out) : TS := fun D σ H => ∃ W0 H0 W ρ, SSt K W0 H0 W H σ ρ ∧ (T ρ).run (OutP K W0 H0 W H D) (XP K W0 H0 E)
abbrev DS (X : Cx) (E : XK) (st : Stmt) (T : List SD → M Out) : Prop := PS X st (ds X.K E T)
abbrev DSs (X : Cx) (E : XK) (st : List Stmt) (T : List SD → M Out) : Prop := PSs X st (ds X.K E T)
theorem ps_imp {X : Cx} {e : Stmt} {t t' : TS} (h : PS X e t) (i : ∀ D σ H, t' D σ H → t D σ H) : PS X e t' := ⟨fun pins s σ H Q J q => h.run pins s σ H Q J (i Q σ H q)⟩
theorem pss_imp {X : Cx} {e : List Stmt} {t t' : TS} (h : PSs X e t) (i : ∀ D σ H, t' D σ H → t D σ H) : PSs X e t' := ⟨fun pins s σ H Q J q => h.run pins s σ H Q J (i Q σ H q)⟩
section
variable {K : PySem.W.Frag} {W0 W : Wd} {H0 H H' : Hp} {σ : L2.St} {ρ : List SD}
theorem Stp.refl (S : List Addr) (H : Hp) : Stp S S H H := ⟨fun _ _ h _ _ => h, fun _ h => .inl h⟩
theorem Stp.trans {S S1 S2 : List Addr} {H H1 H2 : Hp} (a : Stp S S1 H H1) (b : Stp S1 S2 H1 H2) : Stp S S2 H H2 := by
  refine ⟨fun c o h t n => ?_, fun c h => ?_⟩
  · refine b.keep c o (a.keep c o h t n) t ?_
    rcases n with n | n
    · refine .inl fun z => ?_
      rcases a.news c z with q | q
      · exact n q
      · exact q o h t
    · exact .inr n
  · rcases b.news c h with q | q
    · exact a.news c q
    · by_cases z : c ∈ S
      · exact .inl z
      · exact .inr fun o e t => q o (a.keep c o e t (.inl z)) t
theorem Kp.to (s : SSt K W0 H0 W H σ ρ) (k : Kp W H H') : Kp W0 H H' := fun b o h n t => k b o h (by rw [s.src]; exact n) t
theorem SSt.ok0' (s : SSt K W0 H0 W H σ ρ) (ok : W.Ok H') : W0.Ok H' := by
  refine ⟨fun b h => ok.there b (s.sub b h), fun a l e => ?_, s.tab ▸ ok.tabs⟩
  have q := ok.draw a l (by rw [s.src]; exact e)
  exact ⟨(s.ok0.draw a l e).1, (s.ok0.draw a l e).2.1, q.2.2⟩
/-- the world's part of the things that were there at the entry -/
theorem SSt.back (s : SSt K W0 H0 W H σ ρ) (H' : Hp) : Stp W.S W0.S H' H' := ⟨fun _ _ h _ _ => h, fun b h => .inl (s.sub b h)⟩
theorem SSt.xp (s : SSt K W0 H0 W H σ ρ) {E : XK} {e : Exn} (h : XP K W0 H0 E e) : XP K W H E e := fun C dx H' fs hC k ok n hd ns r => by
  refine h C dx H' fs hC (s.frm.trans (Kp.to s k)) (s.ok0' ok) (s.frm.free s.ok0 n (s.ok0' s.ok)) hd (fun z => ns (s.sub dx z)) (paired_mono (fun _ _ z => ⟨z.1, Rp.step (s.back H') z.2⟩) r)
theorem SSt.keep (s : SSt K W0 H0 W H σ ρ) (k : Kp W H H') (ok : W.Ok H') : SSt K W0 H0 W H' σ ρ :=
  ⟨ok, s.rel.keep s.ok k, s.src, s.sub, s.frm.trans (Kp.to s k), s.mine, s.own, s.ok0, s.tab⟩
theorem RV.back (s : SSt K W0 H0 W H σ ρ) {H' : Hp} {v : V} : ∀ {x : SD}, isOwn x = false → RV K W H' v x → RV K W0 H' v x
  | .no, _, _ => trivial
  | .d _, _, h => Rp.step (s.back H') h
  | .src, _, ⟨a, l, e, q⟩ => ⟨a, l, by rw [← s.src]; exact e, q⟩
  | .ty _, _, h => h
/-- a slot gets what is not owned -/
theorem Rel.set (r : Rel K W H σ ρ) {i : Nat} {v : V} {x : SD} (h : RV K W H v x) (no : isOwn x = false) : Rel K W H (σ.set i (some v)) (ρ.set i x) := by
  refine ⟨by rw [List.length_set, List.length_set, r.len], fun j y e n => ?_, fun j k y z p ne e1 e2 o1 o2 s1 => ?_, r.tab⟩
  · by_cases z : i = j
    · subst z
      have lt : i < ρ.length := by
        have := (List.getElem?_eq_some_iff.mp e).1
        rwa [List.length_set] at this
      rw [List.getElem?_set_self lt] at e
      cases e
      exact ⟨v, List.getElem?_set_self (by rw [r.len]; exact lt), h⟩
    · rw [List.getElem?_set_ne z] at e ⊢
      exact r.get j y e n
  · have ne1 : i ≠ j := fun z => by
      subst z
      have lt : i < ρ.length := by
        have := (List.getElem?_eq_some_iff.mp e1).1
        rwa [List.length_set] at this
      rw [List.getElem?_set_self lt] at e1
      cases e1
      rw [no] at o1; cases o1
    have ne2 : i ≠ k := fun z => by
      subst z
      have lt : i < ρ.length := by
        have := (List.getElem?_eq_some_iff.mp e2).1
        rwa [List.length_set] at this
      rw [List.getElem?_set_self lt] at e2
      cases e2
      rw [no] at o2; cases o2
    rw [List.getElem?_set_ne ne1] at e1 s1
    rw [List.getElem?_set_ne ne2] at e2 ⊢
    exact r.sep j k y z p ne e1 e2 o1 o2 s1
theorem SSt.set (s : SSt K W0 H0 W H σ ρ) {i : Nat} {v : V} {x : SD} (h : RV K W H v x) (no : isOwn x = false) : SSt K W0 H0 W H (σ.set i (some v)) (ρ.set i x) := by
  refine ⟨s.ok, s.rel.set h no, s.src, s.sub, s.frm, s.mine, fun j y p e o q => ?_, s.ok0, s.tab⟩
  have ne : i ≠ j := fun z => by
    subst z
    have lt : i < ρ.length := by
      have := (List.getElem?_eq_some_iff.mp e).1
      rwa [List.length_set] at this
    rw [List.getElem?_set_self lt] at e
    cases e
    rw [no] at o; cases o
  rw [List.getElem?_set_ne ne] at e q
  exact s.own j y p e o q
end
def plain (x : SD) : Option SD := if isOwn x = true then none else some x
theorem plain_eq {x y : SD} (h : plain x = some y) : x = y ∧ isOwn x = false := by
  unfold plain at h
  split at h
  · cases h
  · rename_i e
    cases h
    exact ⟨rfl, by simpa using e⟩
/-- the next statements -/
def seqM (m : M Out) (f : List SD → M Out) : M Out := do
  match ← m with
  | .nx ρ => f ρ
  | o => pure o
section
variable {X : Cx} {E : XK} {st : Stmt} {sts a b : List Stmt} {e c : Expr} {es : List Expr} {x : Str} {pos p p2 : Pos} {T : List SD → M SD} {Ts : List SD → M (List SD)} {B : List SD → M Bool} {U U1 U2 : List SD → M Out}
theorem dss_nil : DSs X E [] (fun ρ => pure (.nx ρ)) := pss_imp pss_nil fun D σ H ⟨W0, H0, W, ρ, s, h⟩ => h W σ H (Stp.refl _ _) s
theorem seq_run {W0 W : Wd} {H0 H : Hp} {D : Ends} {ρ : List SD} (f : List SD → M Out) {m : M Out} (h : (seqM m f).run (OutP X.K W0 H0 W H D) (XP X.K W0 H0 E)) (hd : D.nx = ds X.K E f D) : True := trivial
theorem dss_cons (h1 : DS X E st U1) (h2 : DSs X E sts U2) : DSs X E (st :: sts) (fun ρ => seqM (U1 ρ) U2) := by
  refine pss_imp (pss_cons h1 h2) fun D σ H ⟨W0, H0, W, ρ, s, h⟩ => ?_
  refine ⟨W0, H0, W, ρ, s, (U1 ρ).mono (fun o q => ?_) (fun _ h => h) h⟩
  cases o with
  | nx ρ' =>
    intro W' σ' H' st' s'
    refine ⟨W0, H0, W', ρ', s', (U2 ρ').mono (fun o q => ?_) (fun _ h => h) q⟩
    cases o with
    | nx ρ2 => exact fun W2 σ2 H2 st2 s2 => q W2 σ2 H2 (st'.trans st2) s2
    | bk ρ2 => exact fun W2 σ2 H2 st2 s2 => q W2 σ2 H2 (st'.trans st2) s2
    | ct ρ2 => exact fun W2 σ2 H2 st2 s2 => q W2 σ2 H2 (st'.trans st2) s2
    | rt y => exact q
  | bk ρ' => exact q
  | ct ρ' => exact q
  | rt y => exact q
theorem dss_one (h1 : DS X E st U1) : DSs X E [st] U1 := pss_one h1
theorem ds_pass : DS X E (.Pass pos) (fun ρ => pure (.nx ρ)) := ps_imp ps_pass fun D σ H ⟨W0, H0, W, ρ, s, h⟩ => h W σ H (Stp.refl _ _) s
theorem ds_break : DS X E (.Break pos) (fun ρ => pure (.bk ρ)) := ps_imp ps_break fun D σ H ⟨W0, H0, W, ρ, s, h⟩ => h W σ H (Stp.refl _ _) s
theorem ds_continue : DS X E (.Continue pos) (fun ρ => pure (.ct ρ)) := ps_imp ps_continue fun D σ H ⟨W0, H0, W, ρ, s, h⟩ => h W σ H (Stp.refl _ _) s
theorem ds_doc {z j p'} : DS X E (.Expr (.Constant (.str z) j pos) p') (fun ρ => pure (.nx ρ)) := ps_imp ps_doc fun D σ H ⟨W0, H0, W, ρ, s, h⟩ => h W σ H (Stp.refl _ _) s
theorem ds_fail : DS X E st (fun _ => M.fail) := ⟨fun _ _ _ _ _ _ ⟨_, _, _, _, _, h⟩ => h.elim⟩
/-- an expression, then something on its value -/
theorem ex_run {W0 W : Wd} {H0 H : Hp} {σ : L2.St} {ρ : List SD} (s : SSt X.K W0 H0 W H σ ρ) {P : SD → Prop} {Q : VK} (h : (T ρ).run P (XP X.K W0 H0 E)) (i : ∀ x, P x → ∀ v H', Kp W H H' → W.Ok H' → RV X.K W H' v x → Q v H') : dt X.K (fun _ => E) T σ H Q :=
  ⟨W, ρ, s.ok, s.rel, (T ρ).mono (fun x q v H' k ok r => i x q v H' k ok r) (fun _ q => s.xp q) h⟩
theorem ds_expr (h : DE X (fun _ => E) e T) (hs : swapsWith e none pos.line X.env = pure false := by rfl) : DS X E (.Expr e pos) (fun ρ => do let _ ← T ρ; pure (.nx ρ)) := by
  refine ps_imp (ps_expr h hs) fun D σ H ⟨W0, H0, W, ρ, s, h⟩ => ?_
  exact ex_run s h fun x q v H' k ok r => q W σ H' (k.stp s.ok) (s.keep k ok)
theorem ds_ret (h : DE X (fun _ => E) e T) : DS X E (.Return (some e) pos) (fun ρ => do let x ← T ρ; let y ← M.lift (plain x); pure (.rt y)) := by
  refine ps_imp (ps_ret h) fun D σ H ⟨W0, H0, W, ρ, s, h⟩ => ?_
  refine ex_run s h fun x q v H' k ok r => ?_
  obtain ⟨y, hy, q⟩ := run_lift.mp q
  obtain ⟨rfl, no⟩ := plain_eq hy
  have s' := s.keep k ok
  exact q v H' s'.frm (s'.ok0' ok) (RV.back s' no r)
theorem ds_retN : DS X E (.Return none pos) (fun _ => pure (.rt (.d .none))) := by
  refine ps_imp ps_retN fun D σ H ⟨W0, H0, W, ρ, s, h⟩ => ?_
  exact h .non H s.frm (s.ok0' s.ok) .non
/-- return x, x owned -/
theorem ds_retO (i : Nat) (h : PE X e (tVar i)) : DS X E (.Return (some e) pos) (fun ρ => do let x ← M.lift (getS ρ i); pure (.rt (frzS x))) := by
  refine ps_imp (ps_ret h) fun D σ H ⟨W0, H0, W, ρ, s, h⟩ => ?_
  obtain ⟨x, hx, q⟩ := run_lift.mp h
  obtain ⟨h1, h2⟩ := getS_eq hx
  obtain ⟨v, h3, h4⟩ := s.rel.get i x h1 h2
  refine ⟨v, h3, q v H s.frm (s.ok0' s.ok) ?_⟩
  cases x with
  | own ds =>
    obtain ⟨p, xs, rfl, m, ns, hp, t⟩ := h4
    exact Rp.lst ⟨hp, s.ok0.notinF (s.own i _ p h1 rfl h3)⟩ (RpAll.step (s.back H) t)
  | ownD ds =>
    obtain ⟨p, xs, rfl, m, ns, hp, t⟩ := h4
    exact Rp.dct (.inl hp) (s.ok0.notinF (s.own i _ p h1 rfl h3)) (pkv_kv (paired_mono (fun _ _ z => ⟨z.1, Rp.step (s.back H) z.2⟩) t))
  | no => exact absurd rfl h2
  | d x => exact RV.back s (x := .d x) rfl h4
  | src => exact RV.back s (x := .src) rfl h4
  | ty n => exact RV.back s (x := .ty n) rfl h4
theorem ds_if (hc : DT X (fun _ => E) c B) (ha : DSs X E a U1) (hb : DSs X E b U2) : DS X E (.If c a b pos) (fun ρ => do if ← B ρ then U1 ρ else U2 ρ) := by
  refine ps_imp (ps_if hc ha hb) fun D σ H ⟨W0, H0, W, ρ, s, h⟩ => ?_
  refine ⟨W, ρ, s.ok, s.rel, (B ρ).mono (fun x q H' k ok => ?_) (fun _ q => s.xp q) h⟩
  have st := k.stp s.ok
  have go : ∀ {U : List SD → M Out}, (U ρ).run (OutP X.K W0 H0 W H D) (XP X.K W0 H0 E) → ds X.K E U D σ H' := fun {U} q => by
    refine ⟨W0, H0, W, ρ, s.keep k ok, (U ρ).mono (fun o q => ?_) (fun _ h => h) q⟩
    cases o with
    | nx ρ2 => exact fun W2 σ2 H2 st2 s2 => q W2 σ2 H2 (st.trans st2) s2
    | bk ρ2 => exact fun W2 σ2 H2 st2 s2 => q W2 σ2 H2 (st.trans st2) s2
    | ct ρ2 => exact fun W2 σ2 H2 st2 s2 => q W2 σ2 H2 (st.trans st2) s2
    | rt y => exact q
  cases x with
  | true => exact go q
  | false => exact go q
/-! ### name = value -/
theorem ds_set {i : Nat} {pos' : Pos} (hN : X.N.Nodup) (hi : X.N[i]? = some x) (hx : Loc X.env.scope x) (he : DE X (fun _ => E) e T) (hs : swapsWith e (some (.Name x pos')) pos.line X.env = pure false := by rfl)
    (hf : X.fn x = true ∨ X.env.scope.names.lookup x = some .local := by first | exact .inl rfl | exact .inr rfl | assumption) : DS X E (.Assign [.Name x pos'] e pos) (fun ρ => do let v ← T ρ; let y ← M.lift (plain v); pure (.nx (ρ.set i y))) := by
  refine ps_imp (ps_set hN hi hx he hs hf) fun D σ H ⟨W0, H0, W, ρ, s, h⟩ => ?_
  refine ex_run s h fun x q v H' k ok r => ?_
  obtain ⟨y, hy, q⟩ := run_lift.mp q
  obtain ⟨rfl, no⟩ := plain_eq hy
  exact q W _ H' (k.stp s.ok) ((s.keep k ok).set r no)
end
end Dd
/-! DwD8 -/
/-! owned things, targets, loops -/
namespace Dd
open PySem PySem.Spec PyProof.Rows L2
section
variable {K : PySem.W.Frag} {W0 W : Wd} {H0 H H' H2 : Hp} {σ : L2.St} {ρ : List SD} {p : Addr} {i : Nat}
/-- of less than 62 bits (a form that costs the kernel nothing) -/
def bigI (i : Int) : Bool := Nat.blt i.natAbs (2 ^ 62)
theorem bigI.nat {i : Int} (h : bigI i = true) : i.natAbs < 2 ^ 62 := by
  unfold bigI at h
  exact Nat.le_of_ble_eq_true h
theorem bigI.lo {i : Int} (h : bigI i = true) : -(2 ^ 62) ≤ i := by have := bigI.nat h; omega
theorem bigI.hi {i : Int} (h : bigI i = true) : i < 2 ^ 62 := by have := bigI.nat h; omega
def Wd.add (W : Wd) (p : Addr) : Wd := ⟨p :: W.S, W.src, W.tab⟩
theorem add_stp (ok : W.Ok H) (k : Kp W H H2) (hp : H p = none) : Stp W.S (W.add p).S H H2 := by
  refine ⟨(k.stp ok).keep, fun b h => ?_⟩
  rcases List.mem_cons.mp h with rfl | h
  · exact .inr (Fr0.of hp)
  · exact .inl h
theorem lt_set {α : Type} {l : List α} {i : Nat} {x y : α} (h : (l.set i x)[i]? = some y) : i < l.length := by
  have := (List.getElem?_eq_some_iff.mp h).1
  rwa [List.length_set] at this
theorem RV.add (ok : W.Ok H) (k : Kp W H H2) (hp : H p = none) {v : V} : ∀ {x : SD}, RV K W H v x → RV K (W.add p) H2 v x
  | .no, _ => trivial
  | .d _, h => Rp.step (add_stp ok k hp) h
  | .src, h => h
  | .ty _, h => h
  | .own _, ⟨q, xs, e, m, ns, hq, r⟩ => ⟨q, xs, e, List.mem_cons_of_mem _ m, ns, k _ _ hq ns nt_lst, RpAll.step (add_stp ok k hp) r⟩
  | .ownD _, ⟨q, xs, e, m, ns, hq, r⟩ => ⟨q, xs, e, List.mem_cons_of_mem _ m, ns, k _ _ hq ns nt_dK, paired_mono (fun _ _ z => ⟨z.1, Rp.step (add_stp ok k hp) z.2⟩) r⟩
theorem own_there {v : V} {x : SD} (r : RV K W H v x) (o : isOwn x = true) : ∃ q u, v = .ref q ∧ H q = some u ∧ q ∈ W.S ∧ (∀ l, W.src ≠ some (q, l)) ∧ NT u ∧ ∀ f, u ≠ .ext f := by
  cases x with
  | own ds => obtain ⟨q, xs, e, m, ns, hq, _⟩ := r; exact ⟨q, _, e, hq, m, ns, nt_lst, (fun f z => nomatch z)⟩
  | ownD ds => obtain ⟨q, xs, e, m, ns, hq, _⟩ := r; exact ⟨q, _, e, hq, m, ns, nt_dK, (fun f z => nomatch z)⟩
  | _ => cases o
theorem own_ne {x : SD} (o : isOwn x = true) : x ≠ .no := by rintro rfl; cases o
/-- the tables stand, whatever an owned thing becomes -/
theorem tabs_upd {T : List (Addr × Str)} {u o : HO} (t : LamX.Tabs T H) (hp : H p = some u) (n1 : NT u) (n2 : ∀ f, u ≠ .ext f) : LamX.Tabs T (upd H p o) := fun q hq => by
  obtain ⟨ps, h1, h2, h3⟩ := t q hq
  have e1 : q.1 ≠ p := fun z => by
    rw [z, hp] at h1
    exact n1 ps (Option.some.inj h1)
  refine ⟨ps, by rw [upd_ne e1]; exact h1, h2, fun pos cv hc => ?_⟩
  obtain ⟨c, e2, e3⟩ := h3 pos cv hc
  have e4 : c ≠ p := fun z => by
    rw [z, hp] at e3
    exact n2 _ (Option.some.inj e3)
  exact ⟨c, e2, by rw [upd_ne e4]; exact e3⟩
theorem tabs_but {T : List (Addr × Str)} {u : HO} (t : LamX.Tabs T H) (hp : H p = some u) (n1 : NT u) (n2 : ∀ f, u ≠ .ext f) (B : ∀ b, b ≠ p → H2 b = H b) : LamX.Tabs T H2 := fun q hq => by
  obtain ⟨ps, h1, h2, h3⟩ := t q hq
  have e1 : q.1 ≠ p := fun z => by
    rw [z, hp] at h1
    exact n1 ps (Option.some.inj h1)
  refine ⟨ps, by rw [B _ e1]; exact h1, h2, fun pos cv hc => ?_⟩
  obtain ⟨c, e2, e3⟩ := h3 pos cv hc
  have e4 : c ≠ p := fun z => by
    rw [z, hp] at e3
    exact n2 _ (Option.some.inj e3)
  exact ⟨c, e2, by rw [B _ e4]; exact e3⟩
/-- a new owned thing at slot i -/
theorem SSt.new (s : SSt K W0 H0 W H σ ρ) (k : Kp W H H2) (hp : H p = none) (ok2 : (W.add p).Ok H2) {x : SD} (ox : isOwn x = true) (r : RV K (W.add p) H2 (.ref p) x) : SSt K W0 H0 (W.add p) H2 (σ.set i (some (.ref p))) (ρ.set i x) := by
  have p0 : Fr0 H0 p := s.frm.free s.ok0 (Fr0.of hp) (s.ok0' s.ok)
  have apart : ∀ (j : Nat) (y : SD), ρ[j]? = some y → isOwn y = true → σ[j]? ≠ some (some (.ref p)) := fun j y e o z => by
    obtain ⟨v, h1, h2⟩ := s.rel.get j y e (own_ne o)
    obtain ⟨q, u, e1, e2, _⟩ := own_there h2 o
    rw [h1] at z
    cases z
    cases e1
    rw [hp] at e2; cases e2
  refine ⟨ok2, ⟨by rw [List.length_set, List.length_set, s.rel.len], fun j y e n => ?_, fun j l y z q ne e1 e2 o1 o2 q1 => ?_, s.rel.tab⟩, s.src, fun b h => List.mem_cons_of_mem _ (s.sub b h), s.frm.trans (Kp.to s k), fun b h => ?_, fun j y q e o e1 => ?_, s.ok0, s.tab⟩
  · by_cases z : i = j
    · subst z
      have lt := lt_set e
      rw [List.getElem?_set_self lt] at e
      cases e
      exact ⟨.ref p, List.getElem?_set_self (by rw [s.rel.len]; exact lt), r⟩
    · rw [List.getElem?_set_ne z] at e ⊢
      obtain ⟨v, h1, h2⟩ := s.rel.get j y e n
      exact ⟨v, h1, RV.add s.ok k hp h2⟩
  · by_cases z1 : i = j
    · subst z1
      rw [List.getElem?_set_ne ne] at e2 ⊢
      have lt : i < σ.length := by rw [s.rel.len]; exact lt_set e1
      rw [List.getElem?_set_self lt] at q1
      cases q1
      exact apart l z e2 o2
    · rw [List.getElem?_set_ne z1] at e1 q1
      by_cases z2 : i = l
      · subst z2
        have lt : i < σ.length := by rw [s.rel.len]; exact lt_set e2
        rw [List.getElem?_set_self lt]
        intro z
        cases z
        exact apart j y e1 o1 q1
      · rw [List.getElem?_set_ne z2] at e2 ⊢
        exact s.rel.sep j l y z q ne e1 e2 o1 o2 q1
  · rcases List.mem_cons.mp h with rfl | h
    · exact .inr p0
    · exact s.mine b h
  · by_cases z : i = j
    · subst z
      have lt : i < σ.length := by rw [s.rel.len]; exact lt_set e
      rw [List.getElem?_set_self lt] at e1
      cases e1
      exact p0
    · rw [List.getElem?_set_ne z] at e e1
      exact s.own j y q e o e1
theorem add_ok (ok : W.Ok H) (hp : H p = none) {o : HO} (nf : ¬ Fix o ∧ NT o) : (W.add p).Ok (upd H p o) := by
  have sm := Dw.same_new (o := o) hp
  refine ⟨fun b h => ?_, fun a l e => ?_, fun q hq => (ok.tabs q hq).ext sm⟩
  · rcases List.mem_cons.mp h with rfl | h
    · exact ⟨o, upd_same, nf⟩
    · obtain ⟨u, e, n⟩ := ok.there b h
      exact ⟨u, sm _ _ e, n⟩
  · obtain ⟨h1, h2, h3⟩ := ok.draw a l e
    refine ⟨List.mem_cons_of_mem _ h1, fun z => ?_, Src.same sm h3⟩
    rcases List.mem_cons.mp z with rfl | z
    · obtain ⟨ms, i, r, sd, S⟩ := h3
      rw [S.cells] at hp; cases hp
    · exact h2 z
/-- an owned thing changes -/
theorem SSt.mut (s : SSt K W0 H0 W H σ ρ) {y x : SD} {o : HO} (e : ρ[i]? = some y) (oy : isOwn y = true) (es : σ[i]? = some (some (.ref p))) (nf : ¬ Fix o ∧ NT o) (ox : isOwn x = true)
    (r : Stp W.S W.S H (upd H p o) → p ∈ W.S → (∀ l, W.src ≠ some (p, l)) → RV K W (upd H p o) (.ref p) x) : Stp W.S W.S H (upd H p o) ∧ SSt K W0 H0 W (upd H p o) σ (ρ.set i x) := by
  obtain ⟨v, h1, h2⟩ := s.rel.get i y e (own_ne oy)
  rw [es] at h1
  cases h1
  obtain ⟨q, u, e1, e2, mem, ns, nt1, nx1⟩ := own_there h2 oy
  cases e1
  have p0 := s.own i y p e oy es
  have ne : ∀ b o', H b = some o' → b ∉ W.S ∨ Fix o' → b ≠ p := fun b o' hb c z => by
    subst z
    rcases c with c | c
    · exact c mem
    · obtain ⟨o2, e3, nf2, _⟩ := s.ok.there b mem
      rw [hb] at e3; cases e3
      exact nf2 c
  have st : Stp W.S W.S H (upd H p o) := ⟨fun b o' hb _ c => by rw [upd_ne (ne b o' hb c)]; exact hb, fun b h => .inl h⟩
  have rp := r st mem ns
  have lt : i < ρ.length := (List.getElem?_eq_some_iff.mp e).1
  refine ⟨st, ⟨fun b h => ?_, fun a l e' => ?_, tabs_upd s.ok.tabs e2 nt1 nx1⟩, ⟨by rw [List.length_set]; exact s.rel.len, fun j z ej n => ?_, fun j l z z' q' ne' f1 f2 o1 o2 q1 => ?_, s.rel.tab⟩, s.src, s.sub, fun b o' hb n t => ?_, s.mine, fun j z q' ej oz eq => ?_, s.ok0, s.tab⟩
  · by_cases z : b = p
    · subst z; exact ⟨o, upd_same, nf⟩
    · rw [upd_ne z]; exact s.ok.there b h
  · obtain ⟨g1, g2, g3⟩ := s.ok.draw a l e'
    exact ⟨g1, g2, Dw.Src.put g3 (fun z => ns l (by rw [z]; exact e')) (fun z => g2 (by rw [← z]; exact mem))⟩
  · by_cases z' : i = j
    · subst z'
      rw [List.getElem?_set_self lt] at ej
      cases ej
      exact ⟨_, es, rp⟩
    · rw [List.getElem?_set_ne z'] at ej
      obtain ⟨v, g1, g2⟩ := s.rel.get j z ej n
      refine ⟨v, g1, ?_⟩
      cases z with
      | no => trivial
      | d x => exact Rp.step st g2
      | src => exact g2
      | ty n => exact g2
      | own ds =>
        obtain ⟨q2, xs, rfl, m2, ns2, hq2, t2⟩ := g2
        have nq : q2 ≠ p := fun z => by subst z; exact s.rel.sep i j y _ q2 z' e ej oy rfl es g1
        exact ⟨q2, xs, rfl, m2, ns2, by rw [upd_ne nq]; exact hq2, RpAll.step st t2⟩
      | ownD ds =>
        obtain ⟨q2, xs, rfl, m2, ns2, hq2, t2⟩ := g2
        have nq : q2 ≠ p := fun z => by subst z; exact s.rel.sep i j y _ q2 z' e ej oy rfl es g1
        exact ⟨q2, xs, rfl, m2, ns2, by rw [upd_ne nq]; exact hq2, paired_mono (fun _ _ z => ⟨z.1, Rp.step st z.2⟩) t2⟩
  · have back : ∀ (j : Nat) (z : SD), (ρ.set i x)[j]? = some z → isOwn z = true → ∃ z0, ρ[j]? = some z0 ∧ isOwn z0 = true := fun j z ej oz => by
      by_cases zj : i = j
      · subst zj; exact ⟨y, e, oy⟩
      · rw [List.getElem?_set_ne zj] at ej; exact ⟨z, ej, oz⟩
    obtain ⟨z1, g1, g2⟩ := back j z f1 o1
    obtain ⟨z2, g3, g4⟩ := back l z' f2 o2
    exact s.rel.sep j l z1 z2 q' ne' g1 g3 g2 g4 q1
  · have nb : b ≠ p := fun z => by subst z; exact p0 o' hb t
    rw [upd_ne nb]
    exact s.frm b o' hb n t
  · by_cases zj : i = j
    · subst zj; rw [es] at eq; cases eq; exact p0
    · rw [List.getElem?_set_ne zj] at ej; exact s.own j z q' ej oz eq
end
section
variable {X : Cx} {E : XK} {st : Stmt} {sts a b : List Stmt} {e e2 c o : Expr} {es : List Expr} {x : Str} {pos p p2 apos cpos : Pos} {T T2 : List SD → M SD} {Ts : List SD → M (List SD)} {B : List SD → M Bool} {U U1 U2 : List SD → M Out}
/-! ### name = [..], owned -/
theorem ds_setL {i : Nat} {pos' : Pos} (hN : X.N.Nodup) (hi : X.N[i]? = some x) (hx : Loc X.env.scope x) (he : DA X (fun _ => E) es Ts) (hs : swapsWith (.List es p) (some (.Name x pos')) pos.line X.env = pure false := by rfl)
    (hf : X.fn x = true ∨ X.env.scope.names.lookup x = some .local := by first | exact .inl rfl | exact .inr rfl | assumption) : DS X E (.Assign [.Name x pos'] (.List es p) pos) (fun ρ => do let vs ← Ts ρ; let ds ← M.lift (allD vs); M.when (szOk ds.length) (pure (.nx (ρ.set i (.own ds))))) := by
  refine ps_imp (ps_set hN hi hx (pe_lst he) hs hf) fun D σ H ⟨W0, H0, W, ρ, s, h⟩ => ?_
  refine ⟨W, ρ, s.ok, s.rel, (Ts ρ).mono (fun xs q vs H' k ok r => ?_) (fun _ q => s.xp q) h⟩
  obtain ⟨ds, hd, q⟩ := run_lift.mp q
  have t := allD_rp r hd
  obtain ⟨sz, q⟩ := run_when.mp q
  refine ⟨by rw [t.length]; exact szOk.le sz, fun p hp => ?_⟩
  have s' := s.keep k ok
  have sm := Dw.same_new (o := .lst vs) hp
  have k2 : Kp W H' (upd H' p (.lst vs)) := Kp.same sm
  refine q (W.add p) _ _ ((k.stp s.ok).trans (add_stp ok k2 hp)) (s'.new k2 hp (add_ok ok hp ⟨(fun z => z), nt_lst⟩) rfl ⟨p, vs, rfl, List.mem_cons_self, fun l z => ?_, upd_same, RpAll.step (add_stp ok k2 hp) t⟩)
  obtain ⟨o, e, _⟩ := ok.there p (ok.draw p l z).1
  rw [hp] at e; cases e
/-- name = dict(d), owned -/
def asDict : SD → Option (List (Key × PyData))
  | .d (.dict ds) => ds.mapM fun p => (keyOf p.1).map fun k => (k, p.2)
  | .ownD ds => some ds
  | _ => none
theorem asDict_rp {K : PySem.W.Frag} {S : List Addr} {H : Hp} : ∀ {kvs : List (Key × V)} {ds : List (PyData × PyData)} {es : List (Key × PyData)}, RpKV K S H kvs ds → (ds.mapM fun p => (keyOf p.1).map fun k => (k, p.2)) = some es → PKV K S H kvs es
  | _, _, _, .nil, h => by
    simp at h; subst h; exact .nil
  | (k, v) :: kvs, (_, d) :: ds, es, .cons h t, e => by
    rw [List.mapM_cons] at e
    simp only [keyOf_keyD, Option.map_some, Option.pure_def, Option.bind_eq_bind, Option.bind_some] at e
    obtain ⟨es', h1, h2⟩ := Option.bind_eq_some_iff.mp e
    cases h2
    exact .cons ⟨rfl, h⟩ (asDict_rp t h1)
theorem ds_setD {i : Nat} {pos' : Pos} (hN : X.N.Nodup) (hi : X.N[i]? = some x) (hx : Loc X.env.scope x) (he : DE X (fun _ => E) e T) (hg : Gl X "dict") (hm : X.mg "dict" = none) (hv : bootBuiltins "dict" = some (.type "dict"))
    (hs : swapsWith (.Call (.Name "dict" p) [e] [] p2) (some (.Name x pos')) pos.line X.env = pure false := by rfl) (hst : starEach [e] X.env = (false, eval e X.env) :: starEach [] X.env := by rfl)
    (hf : X.fn x = true ∨ X.env.scope.names.lookup x = some .local := by first | exact .inl rfl | exact .inr rfl | assumption) : DS X E (.Assign [.Name x pos'] (.Call (.Name "dict" p) [e] [] p2) pos) (fun ρ => do let v ← T ρ; let ds ← M.lift (asDict v); pure (.nx (ρ.set i (.ownD ds)))) := by
  refine ps_imp (ps_set hN hi hx (pe_callTy call_dictD hg hm hv (pa_cons he pa_nil hst) (by decide) (by decide) hst rfl) hs hf) fun D σ H ⟨W0, H0, W, ρ, s, h⟩ => ?_
  refine ex_run (T := T) s h fun y q v H' k ok r => ?_
  obtain ⟨ds, hd, q⟩ := run_lift.mp q
  have s' := s.keep k ok
  have fin : ∀ {a : Addr} {kvs : List (Key × V)}, Rd H' a (.dK kvs) → PKV X.K W.S H' kvs ds → ∃ a0 kvs0, [V.ref a] = [.ref a0] ∧ Rd H' a0 (.dK kvs0) ∧ ∀ p, H' p = none → gName i (.ref p) σ (upd H' p (.dK kvs0)) D.nx := fun {a kvs} hr t => by
    refine ⟨a, kvs, rfl, hr, fun p hp => ?_⟩
    have sm := Dw.same_new (o := .dK kvs) hp
    have k2 : Kp W H' (upd H' p (.dK kvs)) := Kp.same sm
    refine q (W.add p) _ _ ((k.stp s.ok).trans (add_stp ok k2 hp)) (s'.new k2 hp (add_ok ok hp ⟨(fun z => z), nt_dK⟩) rfl ⟨p, kvs, rfl, List.mem_cons_self, fun l z => ?_, upd_same, paired_mono (fun _ _ z => ⟨z.1, Rp.step (add_stp ok k2 hp) z.2⟩) t⟩)
    obtain ⟨o, e, _⟩ := ok.there p (ok.draw p l z).1
    rw [hp] at e; cases e
  unfold asDict at hd
  split at hd
  · cases r with | dct l n t => exact fin l (asDict_rp t hd)
  · cases hd
    obtain ⟨q', xs, rfl, _, _, hq, t⟩ := r
    exact fin (.inl hq) t
  · cases hd
/-! ### x.append(e), x.insert(i, e), x owned -/
def ownL (ρ : List SD) (i : Nat) : Option (List PyData) := match getS ρ i with
  | some (.own ds) => some ds
  | _ => none
def ownK (ρ : List SD) (i : Nat) : Option (List (Key × PyData)) := match getS ρ i with
  | some (.ownD ds) => some ds
  | _ => none
theorem ownL_eq {ρ : List SD} {i : Nat} {ds : List PyData} (h : ownL ρ i = some ds) : ρ[i]? = some (.own ds) := by
  unfold ownL at h
  split at h
  · rename_i e
    cases h
    exact (getS_eq e).1
  · cases h
theorem ownK_eq {ρ : List SD} {i : Nat} {ds : List (Key × PyData)} (h : ownK ρ i = some ds) : ρ[i]? = some (.ownD ds) := by
  unfold ownK at h
  split at h
  · rename_i e
    cases h
    exact (getS_eq e).1
  · cases h
def asD : SD → Option PyData
  | .d x => some x
  | _ => none
theorem asD_eq {x : SD} {d : PyData} (h : asD x = some d) : x = .d d := by
  cases x with
  | d y => cases h; rfl
  | _ => cases h
theorem ds_append (i : Nat) (ho : PE X o (tVar i)) (he : DE X (fun _ => E) e T) (hbase : attributeBase o "append" X.env (eval o X.env) = eval o X.env := by rfl)
    (hfew : ((backTo cpos (starEach [e] X.env)).all (fun x => !x.1) && (backToKw cpos (keywordEach [] X.env)).all (fun x => x.1.isSome) && decide (([e] : List Expr).length + ([] : List Keyword).length + (if ([] : List Keyword).isEmpty then 0 else 1) < 30)) = true := by rfl)
    (hline : (apos.endLine == cpos.line) = true := by rfl) (hs : starEach [e] X.env = (false, eval e X.env) :: starEach [] X.env := by rfl) (hplain : (backTo cpos (starEach [] X.env)).any (·.1) = false := by rfl)
    (hsw : swapsWith (.Call (.Attribute o "append" apos) [e] [] cpos) none pos.line X.env = pure false := by rfl) :
    DS X E (.Expr (.Call (.Attribute o "append" apos) [e] [] cpos) pos) (fun ρ => do let ds ← M.lift (ownL ρ i); let y ← T ρ; let z ← M.lift (asD y); M.when (szOk (ds.length + 1)) (pure (.nx (ρ.set i (.own (ds ++ [z])))))) := by
  refine ps_imp (ps_expr (pe_bm PySem.F.plainAttrs_list PySem.F.slot_list_append PySem.F.type_list_append mt_append ho (pa_cons he pa_nil hs) hbase hfew hline hs hplain) hsw) fun D σ H ⟨W0, H0, W, ρ, s, h⟩ => ?_
  obtain ⟨ds, hg, h⟩ := run_lift.mp h
  have h1 := ownL_eq hg
  obtain ⟨v, h3, h4⟩ := s.rel.get i _ h1 (fun z => nomatch z)
  obtain ⟨q, xs, rfl, mem, ns, hq, t⟩ := h4
  refine ⟨.ref q, h3, .inl ⟨rfl, xs, .inl (.inl hq)⟩, ?_⟩
  refine ex_run (T := T) s h fun y q' v H' k ok r => ?_
  obtain ⟨z, hz, q'⟩ := run_lift.mp q'
  obtain rfl := asD_eq hz
  obtain ⟨sz, q'⟩ := run_when.mp q'
  have hq' : H' q = some (.lst xs) := k q _ hq ns nt_lst
  have t' := RpAll.step (k.stp s.ok) t
  have s' := s.keep k ok
  have m := s'.mut (x := .own (ds ++ [z])) (o := .lst (xs ++ [v])) h1 rfl h3 ⟨(fun z => z), nt_lst⟩ rfl fun st mem ns => ⟨q, _, rfl, mem, ns, upd_same, RpAll.append (RpAll.step st t') (.cons (Rp.step st r) .nil)⟩
  exact ⟨q, xs, v, rfl, rfl, hq', szOk.lt (by rw [t.length]; exact sz), q' W σ _ ((k.stp s.ok).trans m.1) m.2⟩
theorem ds_insert (i : Nat) (ho : PE X o (tVar i)) (h1 : DE X (fun _ => E) e T) (h2 : DE X (fun _ => E) e2 T2) (hbase : attributeBase o "insert" X.env (eval o X.env) = eval o X.env := by rfl)
    (hfew : ((backTo cpos (starEach [e, e2] X.env)).all (fun x => !x.1) && (backToKw cpos (keywordEach [] X.env)).all (fun x => x.1.isSome) && decide (([e, e2] : List Expr).length + ([] : List Keyword).length + (if ([] : List Keyword).isEmpty then 0 else 1) < 30)) = true := by rfl)
    (hline : (apos.endLine == cpos.line) = true := by rfl) (hs : starEach [e, e2] X.env = (false, eval e X.env) :: starEach [e2] X.env := by rfl) (hs2 : starEach [e2] X.env = (false, eval e2 X.env) :: starEach [] X.env := by rfl) (hplain : (backTo cpos (starEach [e2] X.env)).any (·.1) = false := by rfl)
    (hsw : swapsWith (.Call (.Attribute o "insert" apos) [e, e2] [] cpos) none pos.line X.env = pure false := by rfl) :
    DS X E (.Expr (.Call (.Attribute o "insert" apos) [e, e2] [] cpos) pos) (fun ρ => do let ds ← M.lift (ownL ρ i); let w ← T ρ; let j ← M.lift (asI w); let y ← T2 ρ; let z ← M.lift (asD y); M.when (szOk (ds.length + 1) && decide (0 ≤ j) && bigI j) (pure (.nx (ρ.set i (.own (ds.take j.toNat ++ [z] ++ ds.drop j.toNat)))))) := by
  refine ps_imp (ps_expr (pe_bm PySem.F.plainAttrs_list PySem.F.slot_list_insert PySem.F.type_list_insert mt_insert ho (pa_cons h1 (pa_cons h2 pa_nil hs2) hs) hbase hfew hline hs hplain) hsw) fun D σ H ⟨W0, H0, W, ρ, s, h⟩ => ?_
  obtain ⟨ds, hg, h⟩ := run_lift.mp h
  have h1 := ownL_eq hg
  obtain ⟨v, h3, h4⟩ := s.rel.get i _ h1 (fun z => nomatch z)
  obtain ⟨q, xs, rfl, mem, ns, hq, t⟩ := h4
  refine ⟨.ref q, h3, .inl ⟨rfl, xs, .inl (.inl hq)⟩, ?_⟩
  refine ex_run (T := T) s h fun w h vw H1 k1 ok1 r1 => ?_
  obtain ⟨j, hj, h⟩ := run_lift.mp h
  have s1 := s.keep k1 ok1
  refine ex_run (T := T2) s1 h fun y q' v H' k ok r => ?_
  obtain ⟨z, hz, q'⟩ := run_lift.mp q'
  obtain rfl := asD_eq hz
  obtain ⟨sz, q'⟩ := run_when.mp q'
  obtain ⟨sz, c2⟩ := Bool.and_eq_true_iff.mp sz
  obtain ⟨sz, c1⟩ := Bool.and_eq_true_iff.mp sz
  have hq' : H' q = some (.lst xs) := k q _ (k1 q _ hq ns nt_lst) ns nt_lst
  have t' := RpAll.step (k.stp ok1) (RpAll.step (k1.stp s.ok) t)
  have s' := s1.keep k ok
  have ev : vw = .int j := by
    unfold asI at hj
    split at hj
    · cases r1; cases hj; rfl
    · cases hj
  subst ev
  have m := s'.mut (x := .own (ds.take j.toNat ++ [z] ++ ds.drop j.toNat)) (o := .lst (xs.take j.toNat ++ [v] ++ xs.drop j.toNat)) h1 rfl h3 ⟨(fun z => z), nt_lst⟩ rfl fun st mem ns => ⟨q, _, rfl, mem, ns, upd_same, RpAll.append (RpAll.append ((RpAll.step st t').take _) (.cons (Rp.step st r) .nil)) ((RpAll.step st t').drop _)⟩
  exact ⟨q, xs, j, v, rfl, rfl, hq', szOk.lt (by rw [t.length]; exact sz), of_decide_eq_true c1, (by have := bigI.hi c2; omega), q' W σ _ (((k1.stp s.ok).trans (k.stp ok1)).trans m.1) m.2⟩
/-- d[k] = e, d owned -/
theorem ds_put {r : Nat} (i : Nat) {pos' : Pos} (room : Room r X.A) (ho : PE X o (tVar i)) (h1 : DE X (fun _ => E) e T) (h2 : DE X (fun _ => E) e2 T2) (hs : swapsWith e2 (some (.Subscript o e pos')) pos.line X.env = pure false := by rfl) :
    DS X E (.Assign [.Subscript o e pos'] e2 pos) (fun ρ => do let y ← T2 ρ; let z ← M.lift (asD y); let ds ← M.lift (ownK ρ i); let w ← T ρ; let kd ← M.lift (asD w); let kk ← M.lift (keyOf kd); M.when (szOk (ds.length + 1)) (pure (.nx (ρ.set i (.ownD (putD ds kk z)))))) := by
  refine ps_imp (ps_dput (hu_of room) ho h1 h2 hs) fun D σ H ⟨W0, H0, W, ρ, s, h⟩ => ?_
  refine ex_run (T := T2) s h fun y h v H1 k1 ok1 r1 => ?_
  obtain ⟨z, hz, h⟩ := run_lift.mp h
  obtain rfl := asD_eq hz
  have s1 := s.keep k1 ok1
  obtain ⟨ds, hg, h⟩ := run_lift.mp h
  have hi := ownK_eq hg
  obtain ⟨u, h3, h4⟩ := s1.rel.get i _ hi (fun z => nomatch z)
  obtain ⟨q, kvs, rfl, mem, ns, hq, t⟩ := h4
  refine ⟨.ref q, h3, ?_⟩
  refine ex_run (T := T) s1 h fun w h vw H' k ok r => ?_
  obtain ⟨kd, hk, h⟩ := run_lift.mp h
  obtain rfl := asD_eq hk
  obtain ⟨kk, hkk, h⟩ := run_lift.mp h
  have e := keyOf_rp r hkk
  subst e
  obtain ⟨sz, h⟩ := run_when.mp h
  have hq' : H' q = some (.dK kvs) := k q _ hq ns nt_dK
  have t' : PKV X.K W.S H' kvs ds := paired_mono (fun _ _ z => ⟨z.1, Rp.step (k.stp ok1) z.2⟩) t
  have r1' := Rp.step (k.stp ok1) r1
  have s' := s1.keep k ok
  have m := s'.mut (x := .ownD (putD ds kk z)) (o := .dK (putK kvs kk v)) hi rfl h3 ⟨(fun z => z), nt_dK⟩ rfl fun st mem ns => ⟨q, _, rfl, mem, ns, upd_same, pkv_put (Rp.step st r1') (paired_mono (fun _ _ z => ⟨z.1, Rp.step st z.2⟩) t')⟩
  exact ⟨q, _, rfl, .inl ⟨kvs, kk, hq', rfl, szOk.lt (by rw [Paired.length t]; exact sz), rfl⟩, h W σ _ (((k1.stp s.ok).trans (k.stp ok1)).trans m.1) m.2⟩
end
end Dd
/-! DwD9 -/
/-! targets, iterators, loops -/
namespace Dd
open PySem PySem.Spec PyProof.Rows L2
/-! ### targets -/
inductive Tg where
  | nm (i : Nat)
  | tp (is : List Nat)
def gNames : List Nat → TGs
  | [] => gNil
  | i :: r => gCons (gName i) (gNames r)
def gOf (K : PySem.W.Frag) : Tg → TG
  | .nm i => gName i
  | .tp is => L2.gTup K is.length (gNames is)
def setsD (ρ : List SD) : List Nat → List PyData → List SD
  | i :: r, x :: xs => setsD (ρ.set i (.d x)) r xs
  | _, _ => ρ
def kOf : Tg → SD → List SD → Option (List SD)
  | .nm i, x, ρ => (plain x).map fun y => ρ.set i y
  | .tp is, .d (.tuple xs), ρ => if xs.length = is.length then some (setsD ρ is xs) else none
  | _, _, _ => none
def setsV (σ : L2.St) : List Nat → List V → L2.St
  | i :: r, x :: xs => setsV (σ.set i (some x)) r xs
  | _, _ => σ
section
variable {K : PySem.W.Frag} {W0 W : Wd} {H0 H : Hp}
theorem gNames_run {H : Hp} {Q : L2.St → Hp → Prop} : ∀ {is : List Nat} {vs : List V} {σ : L2.St}, vs.length = is.length → Q (setsV σ is vs) H → gNames is vs σ H Q
  | [], [], _, _, h => ⟨rfl, h⟩
  | i :: r, v :: vs, σ, e, h => ⟨v, vs, rfl, gNames_run (by simpa using e) h⟩
theorem sets_rel : ∀ {is : List Nat} {vs : List V} {ds : List PyData} {σ : L2.St} {ρ : List SD}, RpAll K W.S H vs ds → Rel K W H σ ρ → Rel K W H (setsV σ is vs) (setsD ρ is ds)
  | [], _, _, _, _, _, r => r
  | _ :: _, _, _, _, _, .nil, r => r
  | i :: is, _, _, σ, ρ, .cons (v := v) (d := d) h t, r => by
    show Rel K W H (setsV (σ.set i (some v)) is _) (setsD (ρ.set i (.d d)) is _)
    exact sets_rel t (r.set (x := .d d) h rfl)
theorem sets_sst : ∀ {is : List Nat} {vs : List V} {ds : List PyData} {σ : L2.St} {ρ : List SD}, RpAll K W.S H vs ds → SSt K W0 H0 W H σ ρ → SSt K W0 H0 W H (setsV σ is vs) (setsD ρ is ds)
  | [], _, _, _, _, _, r => r
  | _ :: _, _, _, _, _, .nil, r => r
  | i :: is, _, _, σ, ρ, .cons (v := v) (d := d) h t, r => by
    show SSt K W0 H0 W H (setsV (σ.set i (some v)) is _) (setsD (ρ.set i (.d d)) is _)
    exact sets_sst t (r.set (x := .d d) h rfl)
theorem tg_sst {tg : Tg} {σ : L2.St} {ρ ρ' : List SD} {v : V} {x : SD} {Q : L2.St → Hp → Prop} (s : SSt K W0 H0 W H σ ρ) (r : RV K W H v x) (e : kOf tg x ρ = some ρ') (q : ∀ σ', SSt K W0 H0 W H σ' ρ' → Q σ' H) : gOf K tg v σ H Q := by
  cases tg with
  | nm i =>
    obtain ⟨y, h1, rfl⟩ := Option.map_eq_some_iff.mp e
    obtain ⟨rfl, no⟩ := plain_eq h1
    exact q _ (s.set r no)
  | tp is =>
    cases x with
    | d y =>
      cases y with
      | tuple xs =>
        simp only [kOf] at e
        split at e
        · rename_i hl
          cases e
          cases r with | tup l t =>
          exact ⟨_, _, rfl, l, by rw [t.length]; exact hl, gNames_run (by rw [t.length]; exact hl) (q _ (sets_sst t s))⟩
        · cases e
      | _ => cases e
    | _ => cases e
end
/-! ### iterators -/
def WalkD (K : PySem.W.Frag) (W : Wd) (H : Hp) (J : It) (items : List SD) : Prop := ∃ G Y, Walk J items.length G Y ∧ (∀ (W' : Wd) (H' : Hp), Stp W.S W'.S H H' → G H') ∧
  ∀ (i : Nat) (W' : Wd) (H1 : Hp) (x : V) (H2 : Hp), Stp W.S W'.S H H1 → W'.Ok H1 → Y i H1 x H2 → i < items.length → Same H1 H2 ∧ ∃ it, items[i]? = some it ∧ RV K W' H2 x it ∧ isOwn it = false
def dti (K : PySem.W.Frag) (EX : L2.St → XK) (T : List SD → M (List SD)) : TI := fun σ H R => ∃ W ρ, W.Ok H ∧ Rel K W H σ ρ ∧ (T ρ).run (fun items => ∀ J H', Kp W H H' → W.Ok H' → WalkD K W H' J items → R J H') (XP K W H (EX σ))
abbrev DI (X : Cx) (EX : L2.St → XK) (tg e : Expr) (T : List SD → M (List SD)) : Prop := PI X tg e (dti X.K EX T)
theorem pi_imp {X : Cx} {tg e : Expr} {t t' : TI} (h : PI X tg e t) (i : ∀ σ H Q, t' σ H Q → t σ H Q) : PI X tg e t' := ⟨fun pins s σ H Q J q => h.run pins s σ H Q J (i σ H Q q)⟩
section
variable {X : Cx} {EX : L2.St → XK} {tg e e2 : Expr} {T T2 : List SD → M SD} {Ts : List SD → M (List SD)} {p pos : Pos}
def iSeq (K : PySem.W.Frag) (tl : TE) : TI := fun σ H R => tl σ H fun x H1 => (∃ a, x = .ref a ∧ (∃ xs, SqL K H1 a xs) ∧ R (Itl K a) H1) ∨ (∃ a, x = .ref a ∧ (∃ xs, SqT K H1 a xs) ∧ R (Itt K a) H1) ∨ ∃ z, x = .str z ∧ R (Its z) H1
theorem pi_seq {tl : TE} (hl : PE X e tl) : PI X tg e (iSeq X.K tl) := by
  refine ⟨fun pins s σ H R I h => ?_⟩
  refine thn (hl.run pins s σ H _ I h) fun v s1 ⟨x, H1, I1, r1, q1⟩ => ?_
  rcases q1 with ⟨a, e, ⟨xs, hq⟩, q⟩ | ⟨a, e, ⟨xs, hq⟩, q⟩ | ⟨z, e, q⟩
  · subst e
    cases r1
    obtain ⟨its, rv, p, hz⟩ := I1.list hq
    refine wpAny_pyIter_list p.isList ?_
    refine ⟨s1.heap.objs.size, [s1.heap.objs.size], _, _, H1, rfl, I1.kept (t' := s1.toks) fun b o e => Heap.get?_push_of_some _ e, turn_list a _, ⟨_, Heap.get?_push_size _ rfl, rfl, rfl⟩, fun b hb => ?_, q⟩
    have e : b = s1.heap.objs.size := by simpa using hb
    subst e
    exact I1.fpOk (Nat.le_refl _) (I1.hok.fresh (Nat.le_refl _))
  · subst e
    cases r1
    obtain ⟨its, rv, p, hz⟩ := I1.tuple hq
    refine wpAny_pyIter_tuple (show s1.heap.IsTuple a its.toArray from p) ?_
    refine ⟨s1.heap.objs.size, [s1.heap.objs.size], _, _, H1, rfl, I1.kept (t' := s1.toks) fun b o e => Heap.get?_push_of_some _ e, turn_tuple a _, ⟨_, Heap.get?_push_size _ rfl, rfl, rfl⟩, fun b hb => ?_, q⟩
    have e : b = s1.heap.objs.size := by simpa using hb
    subst e
    exact I1.fpOk (Nat.le_refl _) (I1.hok.fresh (Nat.le_refl _))
  · subst e
    obtain ⟨t, rfl⟩ := r1
    cases ha : z.cps.all (· < 128)
    · exact wpAny_pyIter_wide ha (pi_one (tk := s1.toks) I1 _ (turn_str _ z t "str_iterator" (.inr rfl)) ⟨_, Heap.get?_push_size _ rfl, rfl, rfl⟩ q)
    · exact wpAny_pyIter_ascii ha (pi_one (tk := s1.toks) I1 _ (turn_str _ z t "str_ascii_iterator" (.inl rfl)) ⟨_, Heap.get?_push_size _ rfl, rfl, rfl⟩ q)
def itemsD : SD → Option (List SD)
  | .d (.list ds) => some (ds.map .d)
  | .d (.tuple ds) => some (ds.map .d)
  | .d (.str z) => some (z.cps.toList.map fun c => dS ⟨#[c]⟩)
  | _ => none
theorem get_items {K : PySem.W.Frag} {W : Wd} {H : Hp} {xs : List V} {ds : List PyData} {i : Nat} {x : V} (t : RpAll K W.S H xs ds) (h : xs[i]? = some x) : ∃ it, (ds.map SD.d)[i]? = some it ∧ RV K W H x it ∧ isOwn it = false := by
  obtain ⟨d, h1, h2⟩ := t.get' h
  exact ⟨.d d, by rw [List.getElem?_map, h1]; rfl, h2, rfl⟩
theorem di_seq (h : DE X EX e T) : DI X EX tg e (fun ρ => do let x ← T ρ; M.lift (itemsD x)) := by
  refine pi_imp (pi_seq h) fun σ H R ⟨W, ρ, ok, rel, h⟩ => ?_
  refine ⟨W, ρ, ok, rel, (T ρ).mono (fun x q v H' k ok' r => ?_) (fun _ q => q) h⟩
  obtain ⟨its, hi, q⟩ := run_lift.mp q
  unfold itemsD at hi
  split at hi
  · cases hi
    cases r with | lst l t =>
    refine .inl ⟨_, rfl, ⟨_, l.sq⟩, q _ H' k ok' ?_⟩
    refine ⟨_, _, (by rw [List.length_map, ← t.length]; exact walk_list), fun W' H2 st => (st.ls l).sq, fun i W' H1 x H2 st ok1 y lt => ?_⟩
    obtain ⟨rfl, y⟩ := y
    exact ⟨Same.refl _, get_items (RpAll.step st t) y⟩
  · cases hi
    cases r with | tup l t =>
    refine .inr (.inl ⟨_, rfl, ⟨_, l⟩, q _ H' k ok' ?_⟩)
    refine ⟨_, _, (by rw [List.length_map, ← t.length]; exact walk_tup), fun W' H2 st => st.tp l, fun i W' H1 x H2 st ok1 y lt => ?_⟩
    obtain ⟨rfl, y⟩ := y
    exact ⟨Same.refl _, get_items (RpAll.step st t) y⟩
  · cases hi
    cases r
    rename_i z
    refine .inr (.inr ⟨_, rfl, q _ H' k ok' ?_⟩)
    refine ⟨_, _, (by rw [List.length_map]; exact walk_str), fun W' H2 st => trivial, fun i W' H1 x H2 st ok1 y lt => ?_⟩
    obtain ⟨rfl, c, hc, rfl⟩ := y
    refine ⟨Same.refl _, dS ⟨#[c]⟩, ?_, Rp.str _, rfl⟩
    rw [List.getElem?_map, Array.getElem?_toList, hc]
    rfl
  · cases hi
def rangeD (lo : Int) (n : Nat) : List SD := (List.range n).map fun i : Nat => dI (lo + (i : Int))
theorem rangeD_walk {K : PySem.W.Frag} {W : Wd} {H : Hp} (lo : Int) (n : Nat) : WalkD K W H (Itr lo n) (rangeD lo n) := by
  refine ⟨_, _, (by unfold rangeD; rw [List.length_map, List.length_range]; exact walk_range), fun _ _ _ => trivial, fun i W' H1 x H2 st ok1 y lt => ?_⟩
  obtain ⟨rfl, rfl⟩ := y
  refine ⟨Same.refl _, dI (lo + i), ?_, Rp.int _, rfl⟩
  unfold rangeD at lt ⊢
  rw [List.length_map, List.length_range] at lt
  rw [List.getElem?_map, List.getElem?_range lt]
  rfl
theorem di_range1 (hg : Gl X "range") (hm : X.mg "range" = none) (h : DE X EX e T) (hs : starEach [e] X.env = [(false, eval e X.env)] := by rfl) : DI X EX tg (.Call (.Name "range" p) [e] [] pos) (fun ρ => do let x ← T ρ; let j ← M.lift (asI x); M.when (bigI j) (pure (rangeD 0 j.toNat))) := by
  refine pi_imp (pi_range1 hg hm (pa_cons h pa_nil hs) hs) fun σ H R ⟨W, ρ, ok, rel, h⟩ => ?_
  refine ⟨W, ρ, ok, rel, (T ρ).mono (fun x q v H' k ok' r => ?_) (fun _ q => q) h⟩
  obtain ⟨j, hj, qa⟩ := run_lift.mp q
  obtain ⟨c, qb⟩ := run_when.mp qa
  unfold asI at hj
  split at hj
  · cases r; cases hj
    exact ⟨j, rfl, bigI.lo c, bigI.hi c, qb _ H' k ok' (rangeD_walk 0 _)⟩
  · cases hj
theorem di_range2 (hg : Gl X "range") (hm : X.mg "range" = none) (h : DE X EX e T) (h2 : DE X EX e2 T2) (hs : starEach [e, e2] X.env = [(false, eval e X.env), (false, eval e2 X.env)] := by rfl) (hs2 : starEach [e2] X.env = [(false, eval e2 X.env)] := by rfl) :
    DI X EX tg (.Call (.Name "range" p) [e, e2] [] pos) (fun ρ => do let x ← T ρ; let i ← M.lift (asI x); let y ← T2 ρ; let j ← M.lift (asI y); M.when (bigI i && bigI j) (pure (rangeD i (j - i).toNat))) := by
  have hs' : starEach (e :: [e2]) X.env = (false, eval e X.env) :: starEach [e2] X.env := by rw [hs, hs2]
  refine pi_imp (pi_range2 hg hm (pa_cons h (pa_cons h2 pa_nil hs2) hs') hs hs2) fun σ H R ⟨W, ρ, ok, rel, h⟩ => ?_
  refine ⟨W, ρ, ok, rel, (T ρ).mono (fun x q v H1 k1 ok1 r1 => ?_) (fun _ q => q) h⟩
  obtain ⟨i, hi, q⟩ := run_lift.mp q
  refine ⟨W, ρ, ok1, rel.keep ok k1, (T2 ρ).mono (fun y q w H2 k2 ok2 r2 => ?_) (fun e h => XP.trans ok k1 ok1 h) q⟩
  obtain ⟨j, hj, qa⟩ := run_lift.mp q
  obtain ⟨c, qb⟩ := run_when.mp qa
  obtain ⟨c1, c2⟩ := Bool.and_eq_true_iff.mp c
  unfold asI at hi hj
  split at hi
  · cases r1; cases hi
    split at hj
    · cases r2; cases hj
      exact ⟨i, j, rfl, ⟨bigI.lo c1, bigI.hi c1, bigI.lo c2, bigI.hi c2⟩, qb _ H2 (k1.trans k2) ok2 (rangeD_walk i _)⟩
    · cases hj
  · cases hi
/-! ### enumerate, zip -/
def pairD (x y : PyData) : SD := .d (.tuple [x, y])
theorem pair_walk {K : PySem.W.Frag} {W' : Wd} {H1 H2 : Hp} {v x y : V} {T : Addr} {a b : PyData} (ok1 : W'.Ok H1) (hT : H1 T = none) (e : H2 = upd H1 T (.tup [x, y])) (ra : Rp K W'.S H1 x a) (rb : Rp K W'.S H1 y b) : Same H1 H2 ∧ RV K W' H2 (.ref T) (pairD a b) := by
  subst e
  exact ⟨Dw.same_new hT, .tup (.inl (.inl upd_same)) (.cons (Rp.step (stp_new ok1 hT) ra) (.cons (Rp.step (stp_new ok1 hT) rb) .nil))⟩
def enumD (ds : List PyData) : List SD := (List.range ds.length).map fun i : Nat => pairD (.int (i : Int)) (ds.getD i .none)
def enumS : SD → Option (List SD)
  | .d (.list ds) => some (enumD ds)
  | _ => none
theorem di_enum {elts : List Expr} {kk : Nat} {tpos : Pos} (hg : Gl X "enumerate") (hm : X.mg "enumerate" = none) (h : DE X EX e T) (hs : starEach [e] X.env = [(false, eval e X.env)] := by rfl) :
    DI X EX (.Tuple elts kk tpos) (.Call (.Name "enumerate" p) [e] [] pos) (fun ρ => do let x ← T ρ; M.lift (enumS x)) := by
  refine pi_imp (pi_enum hg hm (pa_cons h pa_nil hs) hs) fun σ H R ⟨W, ρ, ok, rel, h⟩ => ?_
  refine ⟨W, ρ, ok, rel, (T ρ).mono (fun x q v H' k ok' r => ?_) (fun _ q => q) h⟩
  obtain ⟨its, hi, q⟩ := run_lift.mp q
  unfold enumS at hi
  split at hi
  · cases hi
    cases r with | lst l t =>
    refine ⟨_, _, rfl, l.sq, q _ H' k ok' ?_⟩
    refine ⟨_, _, (by unfold enumD; rw [List.length_map, List.length_range, ← t.length]; exact walk_enum), fun W' H2 st => (st.ls l).sq, fun i W' H1 x H2 st ok1 y lt => ?_⟩
    obtain ⟨T', a, b, rfl, hT, e, ha, hb⟩ := y
    cases ha
    obtain ⟨d, hd, rd⟩ := (RpAll.step st t).get' hb
    obtain ⟨sm, rv⟩ := pair_walk (v := .ref T') ok1 hT e (.int (i : Int)) rd
    refine ⟨sm, _, ?_, rv, rfl⟩
    unfold enumD at lt ⊢
    rw [List.length_map, List.length_range] at lt
    rw [List.getElem?_map, List.getElem?_range lt]
    simp [List.getD, hd]
  · cases hi
def zipS : SD → SD → Option (List SD)
  | .d (.list ds), .d (.list es) => some ((ds.zip es).map fun p => pairD p.1 p.2)
  | _, _ => none
theorem di_zip {elts : List Expr} {kk : Nat} {tpos : Pos} (hg : Gl X "zip") (hm : X.mg "zip" = none) (h : DE X EX e T) (h2 : DE X EX e2 T2) (hs : starEach [e, e2] X.env = (false, eval e X.env) :: starEach [e2] X.env := by rfl) (hs2 : starEach [e2] X.env = (false, eval e2 X.env) :: starEach [] X.env := by rfl)
    (hpl : (backTo pos (starEach [e2] X.env)).any (·.1) = false := by rfl) :
    DI X EX (.Tuple elts kk tpos) (.Call (.Name "zip" p) [e, e2] [] pos) (fun ρ => do let x ← T ρ; let y ← T2 ρ; M.lift (zipS x y)) := by
  refine pi_imp (pi_zip hg hm (pa_cons h (pa_cons h2 pa_nil hs2) hs) hs hpl) fun σ H R ⟨W, ρ, ok, rel, h⟩ => ?_
  refine ⟨W, ρ, ok, rel, (T ρ).mono (fun x q v H1 k1 ok1 r1 => ?_) (fun _ q => q) h⟩
  refine ⟨W, ρ, ok1, rel.keep ok k1, (T2 ρ).mono (fun y q w H2 k2 ok2 r2 => ?_) (fun e h => XP.trans ok k1 ok1 h) q⟩
  obtain ⟨its, hi, q⟩ := run_lift.mp q
  have r1 := r1.keep ok1 k2
  unfold zipS at hi
  split at hi
  · cases hi
    cases r1 with | lst l t =>
    cases r2 with | lst l2 t2 =>
    refine ⟨_, _, _, _, rfl, l.sq, l2.sq, q _ H2 (k1.trans k2) ok2 ?_⟩
    refine ⟨_, _, walk_zip (by rw [List.length_map, List.length_zip, t.length, t2.length]), fun W' H2 st => ⟨(st.ls l).sq, (st.ls l2).sq⟩, fun i W' H1 x H2 st ok1 y lt => ?_⟩
    obtain ⟨T', a, b, rfl, hT, e, ha, hb⟩ := y
    obtain ⟨d, hd, rd⟩ := (RpAll.step st t).get' ha
    obtain ⟨d2, hd2, rd2⟩ := (RpAll.step st t2).get' hb
    obtain ⟨sm, rv⟩ := pair_walk (v := .ref T') ok1 hT e rd rd2
    refine ⟨sm, _, ?_, rv, rfl⟩
    rw [List.getElem?_map, List.getElem?_zip_eq_some (z := (d, d2)) |>.mpr ⟨hd, hd2⟩]
    rfl
  · cases hi
end
/-! ### for -/
def forM (tg : Tg) (U : List SD → M Out) : List SD → List SD → M Out
  | [], ρ => pure (.nx ρ)
  | x :: r, ρ => do
    let ρ1 ← M.lift (kOf tg x ρ)
    match ← U ρ1 with
    | .nx ρ2 => forM tg U r ρ2
    | .ct ρ2 => forM tg U r ρ2
    | .bk ρ2 => pure (.nx ρ2)
    | .rt y => pure (.rt y)
section
variable {X : Cx} {E : XK} {tg iter c : Expr} {body : List Stmt} {pos : Pos} {Ti : List SD → M (List SD)} {U : List SD → M Out} {B : List SD → M Bool}
theorem OutP.trans {K : PySem.W.Frag} {W0 W W1 : Wd} {H0 H H1 : Hp} {D : Ends} (st : Stp W.S W1.S H H1) : ∀ {o : Out}, OutP K W0 H0 W H D o → OutP K W0 H0 W1 H1 D o
  | .nx _, q => fun W2 σ2 H2 st2 s2 => q W2 σ2 H2 (st.trans st2) s2
  | .bk _, q => fun W2 σ2 H2 st2 s2 => q W2 σ2 H2 (st.trans st2) s2
  | .ct _, q => fun W2 σ2 H2 st2 s2 => q W2 σ2 H2 (st.trans st2) s2
  | .rt _, q => q
theorem ds_for {t : Tg} (hp : PassesOwn (model X.prog X.w) X.A X.env X.xe) (hc : X.calm = true) (hi : DI X (fun _ => E) tg iter Ti) (hg : PG X tg (gOf X.K t)) (hb : DSs X E body U) (hs : ∀ x, foldedSetIterable iter X.env x = pure x := by intro _; rfl) :
    DS X E (.For tg iter body [] pos) (fun ρ => do let its ← Ti ρ; forM t U its ρ) := by
  refine ps_imp (ps_for hp hc hi hg hb hs) fun D σ H ⟨W0, H0, W, ρ, s, h⟩ => ?_
  refine ⟨W, ρ, s.ok, s.rel, (Ti ρ).mono (fun its q J H1 k1 ok1 w => ?_) (fun _ q => s.xp q) h⟩
  obtain ⟨G, Y, walk, hG, hY⟩ := w
  have s1 := s.keep k1 ok1
  have st1 := k1.stp s.ok
  refine for_it walk (fun i σ' H' => ∃ W' ρ', SSt X.K W0 H0 W' H' σ' ρ' ∧ Stp W.S W'.S H1 H' ∧ (forM t U (its.drop i) ρ').run (OutP X.K W0 H0 W' H' D) (XP X.K W0 H0 E)) ?_ ?_ ?_ ?_
  · exact ⟨W, ρ, s1, Stp.refl _ _, (forM t U its ρ).mono (fun o q => OutP.trans st1 q) (fun _ h => h) q⟩
  · rintro i σ' H' _ ⟨W', ρ', s', st', _⟩
    exact hG W' H' st'
  · rintro i x σ' H' H2 lt ⟨W', ρ', s', st', run⟩ y
    obtain ⟨sm, it, e1, rv, no⟩ := hY i W' H' x H2 st' s'.ok y lt
    have e2 : its.drop i = it :: its.drop (i + 1) := by
      obtain ⟨lt', e3⟩ := List.getElem?_eq_some_iff.mp e1
      rw [List.drop_eq_getElem_cons lt', e3]
    rw [e2] at run
    obtain ⟨ρ1, hk, run⟩ := run_lift.mp run
    have kk : Kp W' H' H2 := Kp.same sm
    have s2 := s'.keep kk (s'.ok.same sm)
    have st2 := st'.trans (kk.stp s'.ok)
    refine tg_sst s2 rv hk fun σ2 s3 => ⟨W0, H0, W', ρ1, s3, (U ρ1).mono (fun o q => ?_) (fun _ h => h) run⟩
    cases o with
    | nx ρ2 => exact fun W4 σ4 H4 st4 s4 => ⟨W4, ρ2, s4, st2.trans st4, M.mono _ (fun o q => OutP.trans ((kk.stp s'.ok).trans st4) q) (fun _ h => h) q⟩
    | ct ρ2 => exact fun W4 σ4 H4 st4 s4 => ⟨W4, ρ2, s4, st2.trans st4, M.mono _ (fun o q => OutP.trans ((kk.stp s'.ok).trans st4) q) (fun _ h => h) q⟩
    | bk ρ2 => exact fun W4 σ4 H4 st4 s4 => q W4 σ4 H4 ((kk.stp s'.ok).trans st4) s4
    | rt y => exact q
  · rintro σ' H' ⟨W', ρ', s', st', run⟩
    rw [List.drop_length] at run
    exact run W' σ' H' (Stp.refl _ _) s'
def whileM (B : List SD → M Bool) (U : List SD → M Out) (ρ : List SD) : M Out where
  run := fun P E => ∃ I : Nat → List SD → Prop, (∃ m, I m ρ) ∧ ∀ m ρ, I m ρ → (B ρ).run (fun b => if b = true then (U ρ).run (fun o => match o with
    | .nx ρ2 => ∃ m', m' < m ∧ I m' ρ2
    | .ct ρ2 => ∃ m', m' < m ∧ I m' ρ2
    | .bk ρ2 => P (.nx ρ2)
    | .rt y => P (.rt y)) E else P (.nx ρ)) E
  mono := fun {P P' E E'} h g ⟨I, i0, p⟩ => ⟨I, i0, fun m ρ i => (B ρ).mono (fun b q => by
    cases b with
    | true => exact (U ρ).mono (fun o q => by
        cases o with
        | nx _ => exact q
        | ct _ => exact q
        | bk _ => exact h _ q
        | rt _ => exact h _ q) g q
    | false => exact h _ q) g (p m ρ i)⟩
theorem ds_while (hp : PassesOwn (model X.prog X.w) X.A X.env X.xe) (hc : DT X (fun _ => E) c B) (hb : DSs X E body U) : DS X E (.While c body [] pos) (fun ρ => whileM B U ρ) := by
  refine ps_imp (ps_while hp hc hb) fun D σ H ⟨W0, H0, W, ρ, s, h⟩ => ?_
  obtain ⟨I, ⟨m0, i0⟩, turn⟩ := h
  refine ⟨fun m σ' H' => ∃ W' ρ', SSt X.K W0 H0 W' H' σ' ρ' ∧ Stp W.S W'.S H H' ∧ I m ρ', ⟨m0, W, ρ, s, Stp.refl _ _, i0⟩, ?_⟩
  rintro m σ' H' ⟨W', ρ', s', st', i'⟩
  refine ⟨W', ρ', s'.ok, s'.rel, (B ρ').mono (fun b q H1 k1 ok1 => ?_) (fun _ q => s'.xp q) (turn m ρ' i')⟩
  have s1 := s'.keep k1 ok1
  have st1 := st'.trans (k1.stp s'.ok)
  cases b with
  | true =>
    refine ⟨fun σ2 H2 => ∃ m', m' < m ∧ ∃ W2 ρ2, SSt X.K W0 H0 W2 H2 σ2 ρ2 ∧ Stp W.S W2.S H H2 ∧ I m' ρ2, fun σ2 H2 z => z, ?_⟩
    refine ⟨W0, H0, W', ρ', s1, (U ρ').mono (fun o q => ?_) (fun _ h => h) q⟩
    cases o with
    | nx ρ2 => exact fun W4 σ4 H4 st4 s4 => let ⟨m', h1, h2⟩ := q; ⟨m', h1, W4, ρ2, s4, st1.trans st4, h2⟩
    | ct ρ2 => exact fun W4 σ4 H4 st4 s4 => let ⟨m', h1, h2⟩ := q; ⟨m', h1, W4, ρ2, s4, st1.trans st4, h2⟩
    | bk ρ2 => exact fun W4 σ4 H4 st4 s4 => q W4 σ4 H4 (st1.trans st4) s4
    | rt y => exact q
  | false => exact q W' σ' H1 st1 s1
end
end Dd
/-! DwD10 -/
/-! comprehensions -/
namespace Dd
open PySem PySem.Spec PyProof.Rows L2
def wipeD (ρ : List SD) : List Nat → List SD
  | [] => ρ
  | v :: vs => (wipeD ρ vs).set v .no
theorem wipeD_len (ρ : List SD) : ∀ vs : List Nat, (wipeD ρ vs).length = ρ.length
  | [] => rfl
  | v :: vs => by unfold wipeD; rw [List.length_set, wipeD_len ρ vs]
theorem wipeD_get {ρ : List SD} {i : Nat} {x : SD} : ∀ {vs : List Nat}, (wipeD ρ vs)[i]? = some x → x ≠ .no → ρ[i]? = some x ∧ i ∉ vs
  | [], h, _ => ⟨h, by simp⟩
  | v :: vs, h, n => by
    unfold wipeD at h
    by_cases hi : v = i
    · subst hi
      rw [List.getElem?_set_self (lt_set h)] at h
      cases h
      exact absurd rfl n
    · rw [List.getElem?_set_ne hi] at h
      obtain ⟨h1, h2⟩ := wipeD_get h n
      exact ⟨h1, by simp only [List.mem_cons, not_or]; exact ⟨fun e => hi e.symm, h2⟩⟩
theorem wipe_get {σ : L2.St} {i : Nat} : ∀ {vs : List Nat}, i ∉ vs → (wipe σ vs)[i]? = σ[i]?
  | [], _ => rfl
  | v :: vs, h => by
    unfold wipe
    rw [List.getElem?_set_ne (fun e => h (by rw [e]; exact List.mem_cons_self)), wipe_get fun z => h (List.mem_cons_of_mem _ z)]
theorem wipe_set {σ : L2.St} {y : Option V} {i : Nat} : ∀ {vs : List Nat}, i ∈ vs → wipe (σ.set i y) vs = wipe σ vs
  | [], h => nomatch h
  | v :: vs, h => by
    unfold wipe
    by_cases e : i ∈ vs
    · rw [wipe_set e]
    · rcases List.mem_cons.mp h with rfl | h
      · have : ∀ {ws : List Nat}, i ∉ ws → wipe (σ.set i y) ws = (wipe σ ws).set i y := by
          intro ws
          induction ws with
          | nil => intro _; rfl
          | cons w ws ih =>
            intro hn
            unfold wipe
            rw [ih fun z => hn (List.mem_cons_of_mem _ z), List.set_comm _ _ (fun z => hn (by rw [z]; exact List.mem_cons_self))]
        rw [this e, List.set_set]
      · exact absurd h e
theorem wipe_wipe (σ : L2.St) : ∀ vs ws : List Nat, (∀ i ∈ ws, i ∈ vs) → wipe (wipe σ ws) vs = wipe σ vs
  | vs, [], _ => rfl
  | vs, w :: ws, h => by
    show wipe ((wipe σ ws).set w none) vs = _
    rw [wipe_set (h w List.mem_cons_self), wipe_wipe σ vs ws fun i hi => h i (List.mem_cons_of_mem _ hi)]
theorem wipe_sets {vs : List Nat} : ∀ {is : List Nat} {xs : List V} {σ : L2.St}, (∀ i ∈ is, i ∈ vs) → wipe (setsV σ is xs) vs = wipe σ vs
  | [], _, _, _ => rfl
  | _ :: _, [], _, _ => rfl
  | i :: is, x :: xs, σ, h => by
    show wipe (setsV (σ.set i (some x)) is xs) vs = _
    rw [wipe_sets fun j hj => h j (List.mem_cons_of_mem _ hj), wipe_set (h i List.mem_cons_self)]
def tgIn : Tg → List Nat → Bool
  | .nm i, vs => decide (i ∈ vs)
  | .tp is, vs => is.all fun i => decide (i ∈ vs)
section
variable {K : PySem.W.Frag} {W : Wd} {H : Hp}
theorem Rel.wipe {σ : L2.St} {ρ : List SD} (r : Rel K W H σ ρ) (vs : List Nat) : Rel K W H (L2.wipe σ vs) (wipeD ρ vs) := by
  refine ⟨by rw [wipe_length, wipeD_len]; exact r.len, fun i x e n => ?_, fun i j x y p ne e1 e2 o1 o2 s1 => ?_, r.tab⟩
  · obtain ⟨h1, h2⟩ := wipeD_get e n
    rw [wipe_get h2]
    exact r.get i x h1 n
  · obtain ⟨h1, h2⟩ := wipeD_get e1 (own_ne o1)
    obtain ⟨h3, h4⟩ := wipeD_get e2 (own_ne o2)
    rw [wipe_get h2] at s1
    rw [wipe_get h4]
    exact r.sep i j x y p ne h1 h3 o1 o2 s1
theorem tg_rel {tg : Tg} {vs : List Nat} {σ : L2.St} {ρ ρ' : List SD} {v : V} {x : SD} {Q : L2.St → Hp → Prop} (s : Rel K W H σ ρ) (hin : tgIn tg vs = true) (r : RV K W H v x) (e : kOf tg x ρ = some ρ') (q : ∀ σ', Rel K W H σ' ρ' → L2.wipe σ' vs = L2.wipe σ vs → Q σ' H) : gOf K tg v σ H Q := by
  cases tg with
  | nm i =>
    obtain ⟨y, h1, rfl⟩ := Option.map_eq_some_iff.mp e
    obtain ⟨rfl, no⟩ := plain_eq h1
    exact q _ (s.set r no) (wipe_set (of_decide_eq_true hin))
  | tp is =>
    cases x with
    | d y =>
      cases y with
      | tuple xs =>
        simp only [kOf] at e
        split at e
        · rename_i hl
          cases e
          cases r with | tup l t =>
          exact ⟨_, _, rfl, l, by rw [t.length]; exact hl, gNames_run (by rw [t.length]; exact hl) (q _ (sets_rel t s) (wipe_sets fun i hi => of_decide_eq_true (List.all_eq_true.mp hin i hi)))⟩
        · cases e
      | _ => cases e
    | _ => cases e
/-- what a comprehension makes: a new list -/
def PostN (K : PySem.W.Frag) (W : Wd) (H : Hp) (Q : VK) (ds : List PyData) : Prop := ∀ p xs H', Kp W H H' → (W.add p).Ok H' → Fr0 H p → H' p = some (.lst xs) → RpAll K (W.add p).S H' xs ds → Q (.ref p) H'
theorem add_back {p : Addr} {H0 H' : Hp} (ok0 : W.Ok H0) (hp : Fr0 H0 p) (ok : (W.add p).Ok H') : W.Ok H' := by
  refine ⟨fun b h => ok.there b (List.mem_cons_of_mem _ h), fun a l e => ?_, ok.tabs⟩
  obtain ⟨h1, h2, h3⟩ := ok.draw a l e
  exact ⟨(ok0.draw a l e).1, (ok0.draw a l e).2.1, h3⟩
theorem PostN.of {Q : VK} {ds : List PyData} (ok0 : W.Ok H) (q : Post K W H Q (.d (.list ds))) : PostN K W H Q ds := fun p xs H' k ok hp e r =>
  q _ H' k (add_back ok0 hp ok) (.lst ⟨e, ok0.notinF hp⟩ (RpAll.step ⟨fun _ _ h _ _ => h, fun b h => .inl (List.mem_cons_of_mem _ h)⟩ r))
end
def dtn (K : PySem.W.Frag) (EX : L2.St → XK) (T : List SD → M (List PyData)) : TE := fun σ H Q => ∃ W ρ, W.Ok H ∧ Rel K W H σ ρ ∧ (T ρ).run (PostN K W H Q) (XP K W H (EX σ))
/-- the turns of a comprehension; ρ: its own names wiped -/
def lcM (tg : Tg) (B : List SD → M Bool) (T : List SD → M SD) (ρ : List SD) : List SD → List PyData → M (List PyData)
  | [], acc => pure acc
  | x :: r, acc => do
    let ρ1 ← M.lift (kOf tg x ρ)
    let b ← M.calm (B ρ1)
    if b then do
      let y ← M.calm (T ρ1)
      let d ← M.lift (asD y)
      M.when (szOk (acc.length + 1)) (lcM tg B T ρ r (acc ++ [d]))
    else lcM tg B T ρ r acc
theorem run_calm {α : Type} {m : M α} {P : α → Prop} {E : Exn → Prop} : (M.calm m).run P E ↔ m.run P (fun _ => False) := Iff.rfl
/-- one turn -/
theorem lc_turn {K : PySem.W.Frag} {W : Wd} {D : Addr} {H3 : Hp} {σ2 : L2.St} {ρ1 : List SD} {tt : List SD → M Bool} {te : List SD → M SD} {acc : List PyData} {accV : List V} {Nx : Hp → Prop} {P : List PyData → Prop} {E : Exn → Prop} {nxt : List PyData → M (List PyData)}
    (nD : ∀ l, W.src ≠ some (D, l)) (ok : (W.add D).Ok H3) (rel : Rel K (W.add D) H3 σ2 ρ1) (hD : H3 D = some (.lst accV)) (t : RpAll K (W.add D).S H3 accV acc)
    (run : (do let b ← M.calm (tt ρ1); if b then do { let y ← M.calm (te ρ1); let d ← M.lift (asD y); M.when (szOk (acc.length + 1)) (nxt (acc ++ [d])) } else nxt acc : M (List PyData)).run P E)
    (go : ∀ H4 accV' acc', Kp (W.add D) H3 H4 ∨ (∃ H5 o, Kp (W.add D) H3 H5 ∧ H4 = upd H5 D o) → (W.add D).Ok H4 → H4 D = some (.lst accV') → RpAll K (W.add D).S H4 accV' acc' → (nxt acc').run P E → Nx H4) :
    dtt K (fun _ => E0) tt σ2 H3 fun b H4 => if b = true then dt K (fun _ => E0) te σ2 H4 fun y H5 => ∃ a, H5 D = some (.lst a) ∧ a.length < sizeLine ∧ Nx (upd H5 D (.lst (a ++ [y]))) else Nx H4 := by
  refine ⟨W.add D, ρ1, ok, rel, (tt ρ1).mono (fun b q H4 k4 ok4 => ?_) (fun _ z => z.elim) run⟩
  have hD4 : H4 D = some (.lst accV) := k4 D _ hD nD nt_lst
  have t4 := RpAll.step (k4.stp ok) t
  cases b with
  | false => exact go H4 accV acc (.inl k4) ok4 hD4 t4 q
  | true =>
    refine ⟨W.add D, ρ1, ok4, rel.keep ok k4, (te ρ1).mono (fun y q v H5 k5 ok5 r5 => ?_) (fun _ z => z.elim) q⟩
    obtain ⟨d, hd, q⟩ := run_lift.mp q
    obtain rfl := asD_eq hd
    obtain ⟨sz, q⟩ := run_when.mp q
    have hD5 : H5 D = some (.lst accV) := k5 D _ hD4 nD nt_lst
    have t5 := RpAll.step (k5.stp ok4) t4
    have ne : ∀ b o', H5 b = some o' → b ∉ (W.add D).S ∨ Fix o' → b ≠ D := fun b o' hb c z => by
      subst z
      rcases c with c | c
      · exact c List.mem_cons_self
      · rw [hD5] at hb; cases hb; exact c
    have st : Stp (W.add D).S (W.add D).S H5 (upd H5 D (.lst (accV ++ [v]))) := ⟨fun b o' hb _ c => by rw [upd_ne (ne b o' hb c)]; exact hb, fun b h => .inl h⟩
    refine ⟨accV, hD5, szOk.lt (by rw [t.length]; exact sz), go _ (accV ++ [v]) (acc ++ [d]) (.inr ⟨H5, _, k4.trans k5, rfl⟩) ⟨fun b h => ?_, fun a l e => ?_, tabs_upd ok5.tabs hD5 nt_lst (fun f z => nomatch z)⟩ upd_same (RpAll.append (RpAll.step st t5) (.cons (Rp.step st r5) .nil)) q⟩
    · by_cases z : b = D
      · subst z; exact ⟨_, upd_same, (fun z => z), nt_lst⟩
      · rw [upd_ne z]; exact ok5.there b h
    · obtain ⟨g1, g2, g3⟩ := ok5.draw a l e
      exact ⟨g1, g2, Dw.Src.put g3 (fun z => nD l (by rw [z]; exact e)) (fun z => g2 (by rw [← z]; exact List.mem_cons_self))⟩
section
variable {X : Cx} {EX : L2.St → XK} {elt tg iter : Expr} {ifs : List Expr} {scope : Scope} {own : List (Str × Nat)} {pos : Pos} {Ti : List SD → M (List SD)} {B : List SD → M Bool} {T : List SD → M SD} {t : Tg}
abbrev DTs (X : Cx) (ifs : List Expr) (B : List SD → M Bool) : Prop := PTs X ifs (dtt X.K (fun _ => E0) B)
theorem dts_nil : DTs X [] (fun _ => pure true) := ⟨fun pins s σ H Q I ⟨W, ρ, ok, rel, h⟩ => pts_nil.run pins s σ H Q I (h H (Kp.refl W H) ok)⟩
theorem dts_one {c : Expr} (h : DT X (fun _ => E0) c B) : DTs X [c] B := pts_one h
/-- heaps of a comprehension's turns: all but D and the source stays -/
theorem lc_imp {wi : TI} (hin : tgIn t (own.map (·.2)) = true) (hwi : ∀ σ H R, dti X.K EX Ti σ H R → wi σ H R) (σ : L2.St) (H : Hp) (Q : VK) (h : dtn X.K EX (fun ρ => do let its ← Ti ρ; lcM t B T (wipeD ρ (own.map (·.2))) its []) σ H Q) :
    tLc wi (gOf X.K t) (dtt X.K (fun _ => E0) B) (dt X.K (fun _ => E0) T) (own.map (·.2)) σ H Q := by
  obtain ⟨W, ρ, ok, rel, h⟩ := h
  refine hwi σ H _ ⟨W, ρ, ok, rel, (Ti ρ).mono (fun its q J H1 k1 ok1 w D hD => ?_) (fun _ z => z) h⟩
  obtain ⟨G, Y, walk, hG, hY⟩ := w
  generalize hvs : own.map (·.2) = vs at *
  have nD : ∀ l, W.src ≠ some (D, l) := fun l z => by
    obtain ⟨o, e, _⟩ := ok1.there D (ok1.draw D l z).1
    rw [hD] at e; cases e
  have kD : Kp W H1 (upd H1 D (.lst [])) := Kp.same (Dw.same_new hD)
  have okD : (W.add D).Ok (upd H1 D (.lst [])) := add_ok ok1 hD ⟨(fun z => z), nt_lst⟩
  have hn0 : Fr0 H D := k1.free ok (Fr0.of hD) ok1
  refine lc_it walk (fun i H' => ∃ accV acc, (W.add D).Ok H' ∧ Rel X.K (W.add D) H' (L2.wipe σ vs) (wipeD ρ vs) ∧ Kp W H1 H' ∧ Stp W.S (W.add D).S H1 H' ∧ H' D = some (.lst accV) ∧ RpAll X.K (W.add D).S H' accV acc ∧
    (lcM t B T (wipeD ρ vs) (its.drop i) acc).run (PostN X.K W H Q) (XP X.K W H (EX σ))) ?_ ?_ ?_ ?_
  · refine ⟨[], [], okD, ?_, kD, add_stp ok1 kD hD, upd_same, .nil, q⟩
    exact (⟨(rel.keep ok k1).len, fun i x e n => let ⟨v, h1, h2⟩ := (rel.keep ok k1).get i x e n; ⟨v, h1, RV.add ok1 kD hD h2⟩, rel.sep, rel.tab⟩ : Rel X.K (W.add D) _ σ ρ).wipe vs
  · rintro i H' _ ⟨_, _, _, _, _, st, _⟩
    exact hG _ H' st
  · rintro i x H' H2 lt ⟨accV, acc, ok', rel', k', st', hD', t', run⟩ y
    obtain ⟨sm, it, e1, rv, no⟩ := hY i (W.add D) H' x H2 st' ok' y lt
    have e2 : its.drop i = it :: its.drop (i + 1) := by
      obtain ⟨lt', e3⟩ := List.getElem?_eq_some_iff.mp e1
      rw [List.drop_eq_getElem_cons lt', e3]
    rw [e2] at run
    obtain ⟨ρ1, hk, run⟩ := run_lift.mp run
    have kk : Kp (W.add D) H' H2 := Kp.same sm
    have ok2 := ok'.same sm
    refine tg_rel (rel'.keep ok' kk) hin rv hk fun σ2 rel2 ew => ⟨by rw [ew]; exact wipe_wipe σ vs vs (fun _ h => h), ?_⟩
    refine lc_turn nD ok2 rel2 (sm _ _ hD') (RpAll.step (kk.stp ok') t') run fun H4 accV' acc' hk4 ok4 hD4 t4 run4 => ?_
    have st24 : Stp (W.add D).S (W.add D).S H2 H4 := by
      rcases hk4 with hk4 | ⟨H5, o, hk5, rfl⟩
      · exact hk4.stp ok2
      · refine (hk5.stp ok2).trans ⟨fun b o' hb _ c => ?_, fun b h => .inl h⟩
        rw [upd_ne]
        · exact hb
        · intro z
          subst z
          rcases c with c | c
          · exact c List.mem_cons_self
          · rw [hk5 b _ (sm _ _ hD') nD nt_lst] at hb; cases hb; exact c
    have kp4 : Kp W H1 H4 := fun b o hb n nt => by
      have nb : b ≠ D := fun z => by rw [z, hD] at hb; cases hb
      have h2 : H2 b = some o := sm b o (k' b o hb n nt)
      rcases hk4 with hk4 | ⟨H5, o5, hk5, rfl⟩
      · exact hk4 b o h2 n nt
      · rw [upd_ne nb]; exact hk5 b o h2 n nt
    have relw : Rel X.K (W.add D) H4 (L2.wipe σ vs) (wipeD ρ vs) := by
      refine ⟨rel'.len, fun j z ej n => ?_, rel'.sep, rel'.tab⟩
      obtain ⟨v, g1, g2⟩ := rel'.get j z ej n
      refine ⟨v, g1, ?_⟩
      have stt := (kk.stp ok').trans st24
      cases z with
      | no => trivial
      | d x => exact Rp.step stt g2
      | src => exact g2
      | ty n => exact g2
      | own ds =>
        obtain ⟨q2, xs, rfl, m2, ns2, hq2, t2⟩ := g2
        refine ⟨q2, xs, rfl, m2, ns2, ?_, RpAll.step stt t2⟩
        have h0 := wipeD_get ej n
        obtain ⟨v', g3, g4⟩ := rel.get j _ h0.1 n
        obtain ⟨q3, xs3, rfl, m3, ns3, hq3, t3⟩ := g4
        rw [wipe_get h0.2, g3] at g1
        cases g1
        have e5 := kp4 q2 _ (k1 q2 _ hq3 ns3 nt_lst) ns3 nt_lst
        have e6 := k' q2 _ (k1 q2 _ hq3 ns3 nt_lst) ns3 nt_lst
        rw [hq2] at e6
        rw [e5, ← e6]
      | ownD ds =>
        obtain ⟨q2, xs, rfl, m2, ns2, hq2, t2⟩ := g2
        refine ⟨q2, xs, rfl, m2, ns2, ?_, paired_mono (fun _ _ z => ⟨z.1, Rp.step stt z.2⟩) t2⟩
        have h0 := wipeD_get ej n
        obtain ⟨v', g3, g4⟩ := rel.get j _ h0.1 n
        obtain ⟨q3, xs3, rfl, m3, ns3, hq3, t3⟩ := g4
        rw [wipe_get h0.2, g3] at g1
        cases g1
        have e5 := kp4 q2 _ (k1 q2 _ hq3 ns3 nt_dK) ns3 nt_dK
        have e6 := k' q2 _ (k1 q2 _ hq3 ns3 nt_dK) ns3 nt_dK
        rw [hq2] at e6
        rw [e5, ← e6]
    exact ⟨accV', acc', ok4, relw, kp4, (st'.trans (kk.stp ok')).trans st24, hD4, t4, run4⟩
  · rintro H' ⟨accV, acc, ok', rel', k', st', hD', t', run⟩
    rw [List.drop_length] at run
    exact run D accV H' (k1.trans k') ok' hn0 hD' t'
theorem de_lc (hc : X.calm = true) (hN : X.N.Nodup) (hi : DI X EX tg iter Ti) (ok : BlkOk X.N X.env.scope scope own) (hin : tgIn t (own.map (·.2)) = true)
    (hg : ∀ (s : Shared) (H : Hp) (C : Addr) (cl : List (Str × Addr)) (fp : List Addr), PG (X.blk s H scope (compEnvC scope cl C X.env) fp) tg (gOf X.K t)) (ht : ∀ (s : Shared) (H : Hp) (C : Addr) (cl : List (Str × Addr)) (fp : List Addr), DTs (X.blk s H scope (compEnvC scope cl C X.env) fp) ifs B)
    (he : ∀ (s : Shared) (H : Hp) (C : Addr) (cl : List (Str × Addr)) (fp : List Addr), DE (X.blk s H scope (compEnvC scope cl C X.env) fp) (fun _ => E0) elt T) (hs : ∀ x, foldedSetIterable iter X.env x = pure x := by intro _; rfl) :
    DE X EX (.ListComp elt [⟨tg, iter, ifs, 0⟩] scope pos) (fun ρ => do let its ← Ti ρ; let ds ← lcM t B T (wipeD ρ (own.map (·.2))) its []; pure (.d (.list ds))) := by
  refine pe_imp (pe_lc (tt := dtt X.K (fun _ => E0) B) (te := dt X.K (fun _ => E0) T) hc hN hi ok hg ht he hs) fun σ H Q ⟨W, ρ, ok, rel, h⟩ => ?_
  refine lc_imp (EX := EX) (Ti := Ti) hin (fun _ _ _ h => h) σ H Q ⟨W, ρ, ok, rel, M.mono _ (fun ds q => PostN.of ok q) (fun _ z => z) ?_⟩
  exact h
/-- name = [..] on one line -/
theorem ds_setLc {E : XK} {i : Nat} {y : Str} {py spos : Pos} (hc : X.calm = true) (hN : X.N.Nodup) (hy : X.N[i]? = some y) (hyl : X.env.scope.names.lookup y = some .local)
    (hsw : swapsWith (.ListComp elt [⟨tg, iter, ifs, 0⟩] scope pos) (some (.Name y py)) spos.line X.env = pure true) (hi : DI X (fun _ => E) tg iter Ti) (ok : BlkOk X.N X.env.scope scope own) (hin : tgIn t (own.map (·.2)) = true)
    (hg : ∀ (s : Shared) (H : Hp) (C : Addr) (cl : List (Str × Addr)) (fp : List Addr), PG (X.blk s H scope (compEnvC scope cl C X.env) fp) tg (gOf X.K t)) (ht : ∀ (s : Shared) (H : Hp) (C : Addr) (cl : List (Str × Addr)) (fp : List Addr), DTs (X.blk s H scope (compEnvC scope cl C X.env) fp) ifs B)
    (he : ∀ (s : Shared) (H : Hp) (C : Addr) (cl : List (Str × Addr)) (fp : List Addr), DE (X.blk s H scope (compEnvC scope cl C X.env) fp) (fun _ => E0) elt T) (hs : ∀ x, foldedSetIterable iter X.env x = pure x := by intro _; rfl) :
    DS X E (.Assign [.Name y py] (.ListComp elt [⟨tg, iter, ifs, 0⟩] scope pos) spos) (fun ρ => do let its ← Ti ρ; let ds ← lcM t B T (wipeD ρ (own.map (·.2))) its []; pure (.nx (ρ.set i (.d (.list ds))))) := by
  refine ps_imp (ps_setLc (tt := dtt X.K (fun _ => E0) B) (te := dt X.K (fun _ => E0) T) hc hN hy hyl hsw hi ok hg ht he hs) fun D σ H ⟨W0, H0, W, ρ, s, h⟩ => ?_
  refine lc_imp (EX := fun _ => E) (Ti := Ti) hin (fun _ _ _ h => h) σ H _ ⟨W, ρ, s.ok, s.rel, M.mono _ (fun ds q => PostN.of s.ok fun v H' k ok' r => ?_) (fun _ z => s.xp z) h⟩
  exact q W _ H' (k.stp s.ok) ((s.keep k ok').set r rfl)
end
end Dd
/-! DwSame -/
namespace Dw
open PySem PySem.Spec PyProof.Rows L2
def tyName : PyData → String
  | .none => "NoneType" | .bool _ => "bool" | .int _ => "int" | .str _ => "str" | .list _ => "list" | .tuple _ => "tuple" | .dict _ => "dict"
def isL : PyData → Bool | .list _ => true | _ => false
def isT : PyData → Bool | .tuple _ => true | _ => false
def isN : PyData → Bool | .none => true | _ => false
def isB : PyData → Bool | .bool _ => true | _ => false
def isI : PyData → Bool | .int _ => true | .bool _ => true | _ => false
def isM : PyData → Bool | .dict _ => true | _ => false
def isS : PyData → Bool | .str _ => true | _ => false
theorem kitL (d : PyData) : kitB (tyName d) "list" = some (isL d) := by
  cases d <;> (dsimp only [tyName, isL]; decide +kernel)
theorem kitT (d : PyData) : kitB (tyName d) "tuple" = some (isT d) := by
  cases d <;> (dsimp only [tyName, isT]; decide +kernel)
theorem kitBo (d : PyData) : kitB (tyName d) "bool" = some (isB d) := by
  cases d <;> (dsimp only [tyName, isB]; decide +kernel)
theorem kitI (d : PyData) : kitB (tyName d) "int" = some (isI d) := by
  cases d <;> (dsimp only [tyName, isI]; decide +kernel)
theorem kitM (d : PyData) : kitB (tyName d) "dict" = some (isM d) := by
  cases d <;> (dsimp only [tyName, isM]; decide +kernel)
theorem kitS (d : PyData) : kitB (tyName d) "str" = some (isS d) := by
  cases d <;> (dsimp only [tyName, isS]; decide +kernel)
def sameS : PyData → PyData → Bool
  | .none, .none => true
  | .bool a, .bool b => a == b
  | .int a, .int b => a == b
  | .str a, .str b => a == b
  | _, _ => false
def sameD : Nat → PyData → PyData → Bool
  | 0, d, e => sameS d e
  | n + 1, .list ds, .list es => decide (ds.length = es.length) && (List.zipWith (sameD n) ds es).all id
  | n + 1, .tuple ds, .tuple es => decide (ds.length = es.length) && (List.zipWith (sameD n) ds es).all id
  | _ + 1, d, e => sameS d e
/-- at most n deep, no list in it longer than a thousand, no dict -/
def fits : Nat → PyData → Prop
  | 0, d => isL d = false ∧ isT d = false ∧ isM d = false
  | n + 1, .list ds => ds.length ≤ 1000 ∧ ∀ x ∈ ds, fits n x
  | n + 1, .tuple ds => ds.length ≤ 1000 ∧ ∀ x ∈ ds, fits n x
  | _ + 1, d => isM d = false
theorem SqT.same {K : PySem.W.Frag} {H H' : Hp} {a : Addr} {xs : List V} (e : Same H H') (h : SqT K H a xs) : SqT K H' a xs := by
  rcases h with (h | ⟨o, h⟩) | h
  · exact .inl (.inl (e _ _ h))
  · exact .inl (.inr ⟨o, e _ _ h⟩)
  · exact .inr h
mutual
theorem dp_same {K : PySem.W.Frag} {H H' : Hp} (e : Same H H') : ∀ {d : PyData} {v : V}, Dp K H v d → Dp K H' v d
  | .none, _, h => by cases h; exact .non
  | .bool b, _, h => by cases h; exact .bl b
  | .int i, _, h => by cases h; exact .int i
  | .str x, _, h => by cases h; exact .str x
  | .list ds, _, h => by
    cases h with
    | lst hs ha => exact .lst (e.seq hs) (dps_same e ha)
  | .tuple ds, _, h => by
    cases h with
    | tup hs ha => exact .tup (SqT.same e hs) (dps_same e ha)
  | .dict _, _, h => by cases h
theorem dps_same {K : PySem.W.Frag} {H H' : Hp} (e : Same H H') : ∀ {ds : List PyData} {vs : List V}, DpAll K H vs ds → DpAll K H' vs ds
  | [], _, h => by cases h; exact .nil
  | d :: ds, _, h => by
    cases h with
    | cons h1 h2 => exact .cons (dp_same e h1) (dps_same e h2)
end
theorem dps_len {K : PySem.W.Frag} {H : Hp} : ∀ {ds : List PyData} {vs : List V}, DpAll K H vs ds → vs.length = ds.length
  | [], _, h => by cases h; rfl
  | d :: ds, _, h => by
    cases h with
    | cons h1 h2 => exact congrArg Nat.succ (dps_len h2)
theorem dps_get {K : PySem.W.Frag} {H : Hp} : ∀ {ds : List PyData} {vs : List V} {i : Nat} {v : V}, DpAll K H vs ds → vs[i]? = some v → ∃ d, ds[i]? = some d ∧ Dp K H v d
  | [], _, i, v, h, e => by cases h; simp at e
  | d :: ds, _, 0, v, h, e => by
    cases h with
    | cons h1 h2 =>
      have e' := Option.some.inj e
      subst e'
      exact ⟨d, rfl, h1⟩
  | d :: ds, _, i + 1, v, h, e => by
    cases h with
    | cons h1 h2 => exact dps_get (i := i) h2 (by simpa using e)
theorem dp_ty {K : PySem.W.Frag} {H : Hp} {v : V} {d : PyData} (h : Dp K H v d) : TyX K H v (.type (tyName d)) := by
  cases h with
  | non => exact .base .non
  | bl b => exact .base (.bl b)
  | int i => exact .base (.int i)
  | str x => exact .base (.str x)
  | lst hs ha =>
    rcases hs with (h | ⟨o, h⟩) | ⟨o, its, n, h1, h2, _⟩
    · exact .base (.lst h)
    · exact .base (.frz h)
    · exact .kList h1 h2
  | tup hs ha =>
    rcases hs with (h | ⟨o, h⟩) | ⟨o, its, n, h1, h2, _⟩
    · exact .base (.tup h)
    · exact .fTuple h
    · exact .kTuple h1 h2
theorem dp_non {K : PySem.W.Frag} {H : Hp} {v : V} {d : PyData} (h : Dp K H v d) : decide (v = .non) = isN d := by
  cases h with
  | non => exact decide_eq_true rfl
  | _ => exact decide_eq_false fun z => nomatch z
/-- a comprehension over pairs: J yields a new pair each turn -/
theorem lc_pairs {J : It} {xs ys : List V} {g : TG} {tt : TT} {te : TE} {vs : List Nat} {σ : L2.St} {H1 : Hp} {D : Addr} {Qd : Hp → Prop} (hl : xs.length = ys.length) (Pv : Nat → Hp → Prop) (h0 : Pv 0 (upd H1 D (.lst [])))
    (go : ∀ i H, Pv i H → i < xs.length → J.go i H) (stop : ∀ H, Pv xs.length H → J.stop xs.length H)
    (yl : ∀ i H v H', Pv i H → J.yld i H v H' → ∃ T x y, v = .ref T ∧ H T = none ∧ H' = upd H T (.tup [x, y]) ∧ xs[i]? = some x ∧ ys[i]? = some y)
    (hs : ∀ (i : Nat) (x y : V) (T : Addr) (H : Hp), xs[i]? = some x → ys[i]? = some y → Pv i H → H T = none → g (.ref T) (wipe σ vs) (upd H T (.tup [x, y])) fun σ2 H2 => wipe σ2 vs = wipe σ vs ∧ tt σ2 H2 fun b H3 =>
      if b = true then te σ2 H3 fun y H4 => ∃ acc, H4 D = some (.lst acc) ∧ acc.length < sizeLine ∧ Pv (i + 1) (upd H4 D (.lst (acc ++ [y]))) else Pv (i + 1) H3) (hd : ∀ H, Pv xs.length H → Qd H) :
    ∃ W : Nat → Nat → Hp → Prop, (∃ m, W 0 m (upd H1 D (.lst []))) ∧ ∀ i m H, W i m H →
      (J.stop i H ∧ Qd H) ∨ (J.go i H ∧ ∃ Nx : Hp → Prop, (∀ H', Nx H' → ∃ m', m' < m ∧ W (i + 1) m' H') ∧ ∀ x H', J.yld i H x H' → g x (wipe σ vs) H' fun σ2 H2 => wipe σ2 vs = wipe σ vs ∧ tt σ2 H2 fun b H3 =>
        if b = true then te σ2 H3 fun y H4 => ∃ acc, H4 D = some (.lst acc) ∧ acc.length < sizeLine ∧ Nx (upd H4 D (.lst (acc ++ [y]))) else Nx H3) := by
  refine ⟨fun i m H => m + i = xs.length ∧ Pv i H, ⟨xs.length, rfl, h0⟩, ?_⟩
  rintro i m H ⟨hm, p⟩
  by_cases lt : i < xs.length
  · refine .inr ⟨go i H p lt, Pv (i + 1), fun H' p' => ⟨m - 1, by omega, by omega, p'⟩, fun v H' y => ?_⟩
    obtain ⟨T, a, b, rfl, nT, rfl, ex, ey⟩ := yl i H v H' p y
    exact hs i a b T H ex ey p nT
  · obtain rfl : i = xs.length := by omega
    exact .inl ⟨stop H p, hd H p⟩
def spSame (K : PySem.W.Frag) (n : Nat) : Sp := fun vs H Q _ => ∃ (x y : V) (d e : PyData), vs = [x, y] ∧ Dp K H x d ∧ Dp K H y e ∧ fits n e ∧ ∀ H', Same H H' → Q (.bl (sameD n d e)) H'
end Dw
/-! DwD11 -/
/-! defs, the law -/
namespace Dd
open PySem PySem.Spec PyProof.Rows L2
def defM (m : Nat) (U : List SD → M Out) (xs : List SD) : M SD := do
  match ← U (xs ++ List.replicate (m - xs.length) .no) with
  | .rt y => pure y
  | .nx _ => pure (.d .none)
  | _ => M.fail
section
variable {P : Program} {w : World} {K : PySem.W.Frag} {mg : Str → Option Value} {base : Heap}
theorem start_rel {W : Wd} {H : Hp} {N : List Str} {vs : List V} {xs : List SD} (r : Paired (RV K W H) vs xs) (hl : xs.length ≤ N.length) (no : ∀ x ∈ xs, isOwn x = false) (tb : W.tab = theTab K) : Rel K W H (L2.start N vs) (xs ++ List.replicate (N.length - xs.length) .no) := by
  have hv := Paired.length r
  have gt : ∀ {vs : List V} {xs : List SD}, Paired (RV K W H) vs xs → ∀ (i : Nat) (x : SD), xs[i]? = some x → ∃ v, vs[i]? = some v ∧ RV K W H v x := by
    intro vs xs h
    induction h with
    | nil => intro i x e; simp at e
    | cons h t ih =>
      intro i x e
      cases i with
      | zero => simp at e; subst e; exact ⟨_, rfl, h⟩
      | succ j => obtain ⟨v, h1, h2⟩ := ih j x (by simpa using e); exact ⟨v, by simpa using h1, h2⟩
  have back : ∀ (i : Nat) (x : SD), (xs ++ List.replicate (N.length - xs.length) SD.no)[i]? = some x → x ≠ .no → xs[i]? = some x := fun i x e n => by
    by_cases lt : i < xs.length
    · rwa [List.getElem?_append_left lt] at e
    · rw [List.getElem?_append_right (by omega), List.getElem?_replicate] at e
      split at e
      · cases e; exact absurd rfl n
      · cases e
  refine ⟨?_, fun i x e n => ?_, fun i j x y p ne e1 e2 o1 o2 s1 => ?_, tb⟩
  · unfold L2.start
    rw [List.length_append, List.length_append, List.length_map, List.length_replicate, List.length_replicate]
    omega
  · obtain ⟨v, h1, h2⟩ := gt r i x (back i x e n)
    have lt : i < vs.length := (List.getElem?_eq_some_iff.mp h1).1
    refine ⟨v, ?_, h2⟩
    unfold L2.start
    rw [List.getElem?_append_left (by simpa using lt), List.getElem?_map, h1]
    rfl
  · have := no x (List.mem_of_getElem? (back i x e1 (own_ne o1)))
    rw [o1] at this; cases this
/-- a def of the text keeps what its body says over data -/
theorem ok_def {x qual : Str} {st : Stmt} {f : Addr} {fd : FuncData} {N ps : List Str} {k n : Nat} {U : List SD → M Out} (F : Fun K x qual st f fd) (S : FnScope N ps (defScope st)) (hn : ps.length = n) (hN : n ≤ N.length)
    (hb : ∀ (cdv : Value) (A : Around) (outer : List Env) (s : Shared) (H : Hp) (E : XK), Room k (A.deeper (envOfC qual (defScope st) s.heap.objs.size f cdv)) → DSs (cxOf (L2.CX P w) P w K mg base N qual (defScope st) f cdv A outer s H E) E (defBody st) U) :
    FnOk P w K mg base (L2.CX P w) (k + 1) f fd ps (spX K n (defM N.length U)) := by
  refine F.okX S (fun vs H Q E h => ?_) (fun cdv A outer s H vs Q E hr h => ⟨_, hb cdv A outer s H E hr, ?_⟩)
  · obtain ⟨W, xs, ok, r, _, hl, _⟩ := h
    rw [Paired.length r, hl, hn]
  · obtain ⟨W, xs, ok, r, no, hl, run, tb⟩ := h
    refine ⟨W, H, W, _, ⟨ok, start_rel r (by rw [hl]; exact hN) no tb, rfl, fun _ h => h, Kp.refl W H, fun _ h => .inl h, fun i x p e o _ => ?_, ok, rfl⟩, M.mono _ (fun o q => ?_) (fun _ h => h) run⟩
    · by_cases lt : i < xs.length
      · rw [List.getElem?_append_left lt] at e
        rw [no x (List.mem_of_getElem? e)] at o; cases o
      · rw [List.getElem?_append_right (by omega), List.getElem?_replicate] at e
        split at e
        · cases e; cases o
        · cases e
    · cases o with
      | rt y => exact fun v H' k ok' rv => q v H' k ok' rv
      | nx ρ => exact fun W' σ' H' st s' => q .non H' s'.frm (s'.ok0' s'.ok) .non
      | bk ρ => exact (show False from q).elim
      | ct ρ => exact (show False from q).elim
/-- a promise of a def that raises nothing -/
theorem fnok_cx {k : Nat} {f : Addr} {fd : FuncData} {ps : List Str} {sp : Sp} (G : FnOk P w K mg base CX0 k f fd ps sp) : FnOk P w K mg base (L2.CX P w) k f fd ps sp := by
  refine ⟨G.len, fun A outer s H args us vs Q E hr e0 hb hv hs => codeAny_mono (G.run A outer s H args us vs Q E hr e0 hb hv hs) fun r s' hq => ?_⟩
  cases r with
  | ok fl => cases fl <;> exact hq
  | error e => exact (show False from hq).elim
/-! ### a draw -/
def drawOk (c : Int) : Bool := decide (0 < c) && decide (c.natAbs.log2 < 8000)
def drawD : List SD → M SD
  | [.src, .d (.int c)] => M.when (drawOk c) (do let v ← M.anyI c; pure (dI v))
  | _ => M.fail
theorem ok_drawD {k : Nat} {f : Addr} {fd : FuncData} {ps : List Str} (G : FnOk P w K mg base CX0 k f fd ps Dw.spDraw) (hn : ps.length = 2) : FnOk P w K mg base (L2.CX P w) k f fd ps (spX K 2 drawD) := by
  refine FnOk.imp (fnok_cx G) fun vs H Q E h => ?_
  obtain ⟨W, xs, ok, r, no, hl, run, tb⟩ := h
  unfold drawD at run
  split at run
  · rename_i c
    obtain ⟨v, u, rfl, r1, r2⟩ := pair2 r
    obtain ⟨cc, run⟩ := run_when.mp run
    obtain ⟨c1, c2⟩ := Bool.and_eq_true_iff.mp cc
    obtain ⟨a, l, e, rfl⟩ := r1
    cases r2
    obtain ⟨h1, h2, h3⟩ := ok.draw a l e
    have srcA : ∃ xs, H a = some (.lst xs) := by obtain ⟨ms, i, r, sd, S⟩ := h3; exact ⟨_, S.at_⟩
    obtain ⟨xsA, hA⟩ := srcA
    refine ⟨a, l, c, rfl, h3, of_decide_eq_true c1, ?_, fun H' v B S' v0 v1 => run v v0 v1 (.int v) H' (fun b o hb n _ => ?_) ⟨fun b hb => ?_, fun a' l' e' => ?_, tabs_but ok.tabs hA nt_lst (fun f z => nomatch z) B⟩ (.int v)⟩
    · have c1 := of_decide_eq_true c1
      exact (Nat.log2_lt (by omega)).mp (of_decide_eq_true c2)
    · by_cases z : b = a
      · subst z; exact absurd e (n l)
      · rw [B b z]; exact hb
    · by_cases z : b = a
      · subst z
        obtain ⟨ms, i, r, sd, S⟩ := S'
        exact ⟨_, S.at_, (fun z => z), nt_lst⟩
      · rw [B b z]; exact ok.there b hb
    · rw [e] at e'
      cases e'
      exact ⟨h1, h2, S'⟩
  · exact run.elim
/-! ### _law_same -/
def sameM (n : Nat) : List SD → M SD
  | [.d x, .d y] => do M.need (Dw.fits n y ∧ x.canLay0 = true ∧ y.canLay0 = true); pure (dB (Dw.sameD n x y))
  | _ => M.fail
theorem ok_sameD {k n : Nat} {f : Addr} {fd : FuncData} {ps : List Str} (G : FnOk P w K mg base CX0 k f fd ps (Dw.spSame K n)) : FnOk P w K mg base (L2.CX P w) k f fd ps (spX K 2 (sameM n)) := by
  refine FnOk.imp (fnok_cx G) fun vs H Q E h => ?_
  obtain ⟨W, xs, ok, r, no, hl, run, tb⟩ := h
  unfold sameM at run
  split at run
  · obtain ⟨v, u, rfl, r1, r2⟩ := pair2 r
    obtain ⟨⟨h1, h2, h3⟩, q⟩ := run
    exact ⟨v, u, _, _, rfl, Rp.dp h2 r1, Rp.dp h3 r2, h1, fun H' sm => q _ H' (Kp.same sm) (ok.same sm) (.bl _)⟩
  · exact run.elim
/-! ### the law -/
def spLawD (K : PySem.W.Frag) : Sp := fun vs H Q _ => ∃ (a : Addr) (ns : List Int), vs = [.ref a] ∧ SqL K H a (ns.map V.int) ∧ LamX.Tabs (theTab K) H ∧ ∀ H', Q (.bl true) H'
theorem law_read {N : List Str} {m : Nat} {U : List SD → M Out} {E : XK} {vs : List V} {H : Hp} {Q : VK} (hm : N.length = m + 2) (run : (U (.no :: .src :: List.replicate m .no)).run (fun o => o = .rt (dB true)) (fun _ => False)) (h : spLawD K vs H Q E) :
    tSeq (tAsg (tCall (Dw.spSrc K) [] E0 (tCons (tVar 0) tNil)) (gName 1)) (ds K E U) { nx := fun _ H' => Q .non H', rt := Q } (L2.start N vs) H := by
  obtain ⟨a, ns, rfl, hS, tbs, q⟩ := h
  have e0 : (L2.start N [V.ref a])[0]? = some (some (.ref a)) := by
    unfold L2.start
    rfl
  refine ⟨_, e0, a, ns, rfl, hS, fun H' p l sm np nl src => ?_⟩
  have sl : (L2.start N [V.ref a]).length = m + 2 := by
    unfold L2.start
    rw [List.length_append, List.length_map, List.length_replicate, hm]
    show 1 + _ = _
    rw [List.length_singleton]
    omega
  obtain ⟨ms, i, r, sd, SI⟩ := id src
  have ok : (Wd.mk [p] (some (p, l)) (theTab K)).Ok H' := by
    refine ⟨fun b hb => ?_, fun a' l' e' => ?_, tbs.ext sm⟩
    · have e : b = p := by simpa using hb
      subst e
      exact ⟨_, SI.at_, (fun z => z), nt_lst⟩
    · cases e'
      exact ⟨List.mem_cons_self, fun z => SI.ne (by simpa using z), src⟩
  refine ⟨⟨[p], some (p, l), theTab K⟩, H', ⟨[p], some (p, l), theTab K⟩, .no :: .src :: List.replicate m .no, ⟨ok, ⟨by rw [List.length_set, sl]; simp, fun j x e n => ?_, fun j j' x y p' ne e1 e2 o1 o2 s1 => ?_, rfl⟩, rfl, fun _ h => h, Kp.refl _ _, fun _ h => .inl h, fun j x p' e o _ => ?_, ok, rfl⟩, M.mono _ (fun o e => ?_) (fun _ z => z.elim) run⟩
  · match j, e with
    | 0, e => cases e; exact absurd rfl n
    | 1, e => cases e; exact ⟨.ref p, List.getElem?_set_self (by rw [sl]; omega), p, l, rfl, rfl⟩
    | j + 2, e =>
      simp only [List.getElem?_cons_succ, List.getElem?_replicate] at e
      split at e
      · cases e; exact absurd rfl n
      · cases e
  · have nn : ∀ (j : Nat) (x : SD), (SD.no :: SD.src :: List.replicate m SD.no)[j]? = some x → isOwn x = false := fun j x e => by
      match j, e with
      | 0, e => cases e; rfl
      | 1, e => cases e; rfl
      | j + 2, e =>
        simp only [List.getElem?_cons_succ, List.getElem?_replicate] at e
        split at e
        · cases e; rfl
        · cases e
    rw [nn j x e1] at o1; cases o1
  · match j, e with
    | 0, e => cases e; cases o
    | 1, e => cases e; cases o
    | j + 2, e =>
      simp only [List.getElem?_cons_succ, List.getElem?_replicate] at e
      split at e
      · cases e; cases o
      · cases e
  · subst e
    exact fun v H2 k2 ok2 rv => by cases rv; exact q H2
theorem ok_lawD {st st1 : Stmt} {rest : List Stmt} {f : Addr} {fd : FuncData} {N : List Str} {k m : Nat} {U : List SD → M Out} (F : Fun K "law" "law" st f fd) (S : FnScope N ["_law_script"] (defScope st)) (hb : defBody st = st1 :: rest) (hm : N.length = m + 2)
    (h1 : ∀ (cdv : Value) (A : Around) (outer : List Env) (s : Shared) (H : Hp) (E : XK), Room k (A.deeper (envOfC "law" (defScope st) s.heap.objs.size f cdv)) → PS (cxOf (L2.CX P w) P w K mg base N "law" (defScope st) f cdv A outer s H E) st1 (tAsg (tCall (Dw.spSrc K) [] E0 (tCons (tVar 0) tNil)) (gName 1)))
    (h2 : ∀ (cdv : Value) (A : Around) (outer : List Env) (s : Shared) (H : Hp) (E : XK), Room k (A.deeper (envOfC "law" (defScope st) s.heap.objs.size f cdv)) → DSs (cxOf (L2.CX P w) P w K mg base N "law" (defScope st) f cdv A outer s H E) E rest U)
    (run : (U (.no :: .src :: List.replicate m .no)).run (fun o => o = .rt (dB true)) (fun _ => False)) : FnOk P w K mg base (L2.CX P w) (k + 1) f fd ["_law_script"] (spLawD K) := by
  refine F.okX S (fun vs H Q E h => ?_) (fun cdv A outer s H vs Q E hr h => ⟨_, by rw [hb]; exact pss_cons (h1 cdv A outer s H E hr) (h2 cdv A outer s H E hr), law_read hm run h⟩)
  obtain ⟨a, ns, rfl, _⟩ := h
  rfl
end
end Dd
/-! DwD12 -/
/-! more statements; defs by name; calls with defaults and keywords -/
namespace Dd
open PySem PySem.Spec PyProof.Rows L2
section
variable {X : Cx} {E : XK} {st : Stmt} {sts a b : List Stmt} {e e1 e2 e3 c o : Expr} {es : List Expr} {x y z : Str} {pos p p2 apos cpos : Pos} {T T1 T2 T3 : List SD → M SD} {Ts : List SD → M (List SD)} {B : List SD → M Bool} {U U1 U2 : List SD → M Out}
/-- a, b, .. = e -/
theorem ds_unp {t : Tg} {tg : Expr} (he : DE X (fun _ => E) e T) (hg : PG X tg (gOf X.K t)) (hs : swapsWithSole [tg] e pos.line X.env = pure false := by rfl) (hw : swappedStores [tg] e X.env = pure none := by rfl)
    (h1 : (assignEach [tg] X.env).map (·.2) = [assign tg X.env] := by rfl) : DS X E (.Assign [tg] e pos) (fun ρ => do let v ← T ρ; let ρ' ← M.lift (kOf t v ρ); pure (.nx ρ')) := by
  refine ps_imp (ps_asg he hg hs hw h1) fun D σ H ⟨W0, H0, W, ρ, s, h⟩ => ?_
  refine ex_run s h fun v q vv H' k ok r => ?_
  obtain ⟨ρ', hk, q⟩ := run_lift.mp q
  exact tg_sst (s.keep k ok) r hk fun σ' s' => q W σ' H' (k.stp s.ok) s'
/-- a, b = x, y -/
theorem ds_par {i j : Nat} {px py pt : Pos} {kt k2 pt2} (hc : X.calm = true) (hN : X.N.Nodup) (hi : X.N[i]? = some x) (hj : X.N[j]? = some y) (hij : i ≠ j)
    (hx : X.env.scope.names.lookup x = some .local) (hy : X.env.scope.names.lookup y = some .local) (h1 : DE X (fun _ => E) e1 T1) (h2 : DE X (fun _ => E) e2 T2)
    (hw : swappedStores [.Tuple [.Name x px, .Name y py] kt pt] (.Tuple [e1, e2] k2 pt2) X.env = pure (some [x, y])) (hst : starEach [e1, e2] X.env = (false, eval e1 X.env) :: starEach [e2] X.env := by rfl) (hst2 : starEach [e2] X.env = (false, eval e2 X.env) :: starEach [] X.env := by rfl)
    (hs : swapsWithSole [.Tuple [.Name x px, .Name y py] kt pt] (.Tuple [e1, e2] k2 pt2) pos.line X.env = pure false := by rfl) :
    DS X E (.Assign [.Tuple [.Name x px, .Name y py] kt pt] (.Tuple [e1, e2] k2 pt2) pos) (fun ρ => do let v ← T1 ρ; let v ← M.lift (plain v); let w ← T2 ρ; let w ← M.lift (plain w); pure (.nx ((ρ.set i v).set j w))) := by
  refine ps_imp (ps_par hc hN hi hj hij hx hy (pa_cons h1 (pa_cons h2 pa_nil hst2) hst) hw hs) fun D σ H ⟨W0, H0, W, ρ, s, h⟩ => ?_
  refine ex_run (T := T1) s h fun v q vv H1 k1 ok1 r1 => ?_
  obtain ⟨v', e1, q⟩ := run_lift.mp q
  obtain ⟨rfl, n1⟩ := plain_eq e1
  have s1 := s.keep k1 ok1
  refine ex_run (T := T2) s1 q fun w q ww H2 k2 ok2 r2 => ?_
  obtain ⟨w', e2, q⟩ := run_lift.mp q
  obtain ⟨rfl, n2⟩ := plain_eq e2
  exact ⟨vv, ww, rfl, q W _ H2 ((k1.stp s.ok).trans (k2.stp ok1)) (((s1.keep k2 ok2).set (r1.keep ok1 k2) n1).set r2 n2)⟩
theorem ds_par3 {i j l : Nat} {px py pz pt : Pos} {kt k2 pt2} (hc : X.calm = true) (hN : X.N.Nodup) (hi : X.N[i]? = some x) (hj : X.N[j]? = some y) (hl : X.N[l]? = some z) (hij : i ≠ j) (hil : i ≠ l) (hjl : j ≠ l)
    (hx : X.env.scope.names.lookup x = some .local) (hy : X.env.scope.names.lookup y = some .local) (hz : X.env.scope.names.lookup z = some .local) (h1 : DE X (fun _ => E) e1 T1) (h2 : DE X (fun _ => E) e2 T2) (h3 : DE X (fun _ => E) e3 T3)
    (hw : swappedStores [.Tuple [.Name x px, .Name y py, .Name z pz] kt pt] (.Tuple [e1, e2, e3] k2 pt2) X.env = pure (some [x, y, z])) (hst : starEach [e1, e2, e3] X.env = (false, eval e1 X.env) :: starEach [e2, e3] X.env := by rfl) (hst2 : starEach [e2, e3] X.env = (false, eval e2 X.env) :: starEach [e3] X.env := by rfl) (hst3 : starEach [e3] X.env = (false, eval e3 X.env) :: starEach [] X.env := by rfl)
    (hs : swapsWithSole [.Tuple [.Name x px, .Name y py, .Name z pz] kt pt] (.Tuple [e1, e2, e3] k2 pt2) pos.line X.env = pure false := by rfl) :
    DS X E (.Assign [.Tuple [.Name x px, .Name y py, .Name z pz] kt pt] (.Tuple [e1, e2, e3] k2 pt2) pos) (fun ρ => do let v ← T1 ρ; let v ← M.lift (plain v); let w ← T2 ρ; let w ← M.lift (plain w); let u ← T3 ρ; let u ← M.lift (plain u); pure (.nx (((ρ.set i v).set j w).set l u))) := by
  refine ps_imp (ps_par3 hc hN hi hj hl hij hil hjl hx hy hz (pa_cons h1 (pa_cons h2 (pa_cons h3 pa_nil hst3) hst2) hst) hw hs) fun D σ H ⟨W0, H0, W, ρ, s, h⟩ => ?_
  refine ex_run (T := T1) s h fun v q vv H1 k1 ok1 r1 => ?_
  obtain ⟨v', e1, q⟩ := run_lift.mp q
  obtain ⟨rfl, n1⟩ := plain_eq e1
  have s1 := s.keep k1 ok1
  refine ex_run (T := T2) s1 q fun w q ww H2 k2 ok2 r2 => ?_
  obtain ⟨w', e2, q⟩ := run_lift.mp q
  obtain ⟨rfl, n2⟩ := plain_eq e2
  have s2 := s1.keep k2 ok2
  refine ex_run (T := T3) s2 q fun u q uu H3 k3 ok3 r3 => ?_
  obtain ⟨u', e3, q⟩ := run_lift.mp q
  obtain ⟨rfl, n3⟩ := plain_eq e3
  exact ⟨vv, ww, uu, rfl, q W _ H3 (((k1.stp s.ok).trans (k2.stp ok1)).trans (k3.stp ok2)) ((((s2.keep k3 ok3).set ((r1.keep ok1 k2).keep ok2 k3) n1).set (r2.keep ok2 k3) n2).set r3 n3)⟩
/-- x += e, x -= e (whole numbers) -/
theorem ds_aug {i : Nat} {pos' : Pos} {op : Operator} {f : Int → Int → Int} (ip : PIp X op (ipI f)) (hN : X.N.Nodup) (hi : X.N[i]? = some x) (hx : Loc X.env.scope x) (he : DE X (fun _ => E) e T) (hf : X.fn x = true ∨ X.env.scope.names.lookup x = some .local := by first | exact .inl rfl | exact .inr rfl | assumption) :
    DS X E (.AugAssign (.Name x pos') op e pos) (fun ρ => do let v ← M.lift (getS ρ i); let a ← M.lift (asI v); let w ← T ρ; let b ← M.lift (asI w); pure (.nx (ρ.set i (dI (f a b))))) := by
  refine ps_imp (ps_aug hN hi hx he ip hf) fun D σ H ⟨W0, H0, W, ρ, s, h⟩ => ?_
  obtain ⟨v, hv, h⟩ := run_lift.mp h
  obtain ⟨a, ha, h⟩ := run_lift.mp h
  obtain ⟨g1, g2⟩ := getS_eq hv
  obtain ⟨vv, g3, g4⟩ := s.rel.get i v g1 g2
  have asInt : ∀ {u : V} {t : SD} {j : Int} {H : Hp}, RV X.K W H u t → asI t = some j → u = .int j := fun {u t j H} r e => by
    unfold asI at e
    split at e
    · cases r; cases e; rfl
    · cases e
  obtain rfl := asInt g4 ha
  refine ⟨_, g3, ex_run s h fun w q ww H' k ok r => ?_⟩
  obtain ⟨b, hb, q⟩ := run_lift.mp q
  obtain rfl := asInt r hb
  exact ⟨a, b, rfl, rfl, q W _ H' (k.stp s.ok) ((s.keep k ok).set (x := dI (f a b)) (Rp.int _) rfl)⟩
end
/-! ### defs by name -/
section
variable (P : Program) (w : World) (K : PySem.W.Frag) (mg : Str → Option Value) (base : Heap)
def At (x : Str) (st : Stmt) : Prop := ∃ f fd, Fun K x x st f fd ∧ mg x = some (.ref f)
/-- the def x keeps g, n values handed to it, the defaults dvs behind them -/
def Ok (k : Nat) (x : Str) (n : Nat) (g : List SD → M SD) : Prop := ∃ f fd ps, mg x = some (.ref f) ∧ PySem.W.keepIn K (.ref f) = true ∧ L2.Binds K fd ps [] ∧ FnOk P w K mg base (L2.CX P w) k f fd ps (spX K n g)
/-- .. with defaults that are written constants -/
def OkD (k : Nat) (x : Str) (n : Nat) (dvs : List V) (dds : List PyData) (g : List SD → M SD) : Prop := ∃ f fd ps ds, mg x = some (.ref f) ∧ PySem.W.keepIn K (.ref f) = true ∧ L2.Binds K fd ps ds ∧ Vals dvs ds ∧ (∀ S H, RpAll K S H dvs dds) ∧ FnOk P w K mg base (L2.CX P w) k f fd ps (spX K n g)
/-- .. called by keywords alone: perm puts their values in the parameters' order -/
def OkK (k : Nat) (x : Str) (n : Nat) (ks : List Str) (perm : {α : Type} → List α → List α) (g : List SD → M SD) : Prop := ∃ f fd ps, mg x = some (.ref f) ∧ PySem.W.keepIn K (.ref f) = true ∧ KBn K fd ps 0 ks (fun _ ws => perm ws) (fun _ zs => perm zs) ∧
  (∀ {α β : Type} {R : α → β → Prop} {xs : List α} {ys : List β}, Paired R xs ys → Paired R (perm xs) (perm ys)) ∧ FnOk P w K mg base (L2.CX P w) k f fd ps (spX K n g)
end
section
variable {P : Program} {w : World} {K : PySem.W.Frag} {mg : Str → Option Value} {base : Heap}
theorem okOf {x : Str} {st : Stmt} {N ps : List Str} {k n : Nat} {U : List SD → M Out} (A : At K mg x st) (S : FnScope N ps (defScope st)) (hn : ps.length = n) (hN : n ≤ N.length)
    (hbd : ∀ (kV doc pm : Value) (an : Option Addr) (cdv ct : Value) (us : List Value), us.length = ps.length → bindArgs (PySem.W.fnOf x x (defArgs st) (defBody st) (defScope st) .none kV doc pm an cdv ct) ⟨us, []⟩ = pure (ps.zip us))
    (hb : ∀ (f : Addr) (cdv : Value) (A : Around) (outer : List Env) (s : Shared) (H : Hp) (E : XK), Room k (A.deeper (envOfC x (defScope st) s.heap.objs.size f cdv)) → DSs (cxOf (L2.CX P w) P w K mg base N x (defScope st) f cdv A outer s H E) E (defBody st) U) :
    Ok P w K mg base (k + 1) x n (defM N.length U) := by
  obtain ⟨f, fd, F, hm⟩ := A
  exact ⟨f, fd, ps, hm, F.kp, F.binds hbd, ok_def F S hn hN (hb f)⟩
end
section
variable {X : Cx} {EX : L2.St → XK} {e : Expr} {es : List Expr} {x : Str} {pos p : Pos} {Ts : List SD → M (List SD)} {n k : Nat} {g : List SD → M SD}
theorem de_callO (G : Ok X.prog X.w X.K X.mg X.base k x n g) (room : Room k X.A) (hg : Gl X x) (hx : ∀ σ, PassesAt (L2.CX X.prog X.w) X σ (EX σ)) (ha : DA X EX (e :: es) Ts) (hdb : (x == ("__debug__" : Str)) = false := by decide)
    (he : starEach (e :: es) X.env = (false, eval e X.env) :: starEach es X.env := by rfl) (hpl : (backTo pos (starEach es X.env)).any (·.1) = false := by rfl) : DE X EX (.Call (.Name x p) (e :: es) [] pos) (fun ρ => do let xs ← Ts ρ; callM n g xs) := by
  obtain ⟨f, fd, ps, hm, hk, hb, F⟩ := G
  exact de_call F room hg hm hk hb hx ha hdb he hpl
theorem de_calmO (G : Ok X.prog X.w X.K X.mg X.base k x n g) (room : Room k X.A) (hg : Gl X x) (ha : DA X (fun _ => E0) (e :: es) Ts) (hdb : (x == ("__debug__" : Str)) = false := by decide)
    (he : starEach (e :: es) X.env = (false, eval e X.env) :: starEach es X.env := by rfl) (hpl : (backTo pos (starEach es X.env)).any (·.1) = false := by rfl) : DE X (fun _ => E0) (.Call (.Name x p) (e :: es) [] pos) (fun ρ => do let xs ← Ts ρ; callM n (fun xs => M.calm (g xs)) xs) := by
  obtain ⟨f, fd, ps, hm, hk, hb, F⟩ := G
  exact de_calm F room hg hm hk hb ha hdb he hpl
theorem paired_all {K : PySem.W.Frag} {W : Wd} {H : Hp} : ∀ {vs : List V} {ds : List PyData}, RpAll K W.S H vs ds → Paired (RV K W H) vs (ds.map SD.d)
  | _, _, .nil => .nil
  | _, _, .cons h t => .cons h (paired_all t)
/-- f(e, ..), the rest by defaults -/
theorem de_callD {dvs : List V} {dds : List PyData} (G : OkD X.prog X.w X.K X.mg X.base k x n dvs dds g) (room : Room k X.A) (hg : Gl X x) (hx : ∀ σ, PassesAt (L2.CX X.prog X.w) X σ (EX σ)) (ha : DA X EX (e :: es) Ts) (hdb : (x == ("__debug__" : Str)) = false := by decide)
    (he : starEach (e :: es) X.env = (false, eval e X.env) :: starEach es X.env := by rfl) (hpl : (backTo pos (starEach es X.env)).any (·.1) = false := by rfl) : DE X EX (.Call (.Name x p) (e :: es) [] pos) (fun ρ => do let xs ← Ts ρ; callM n g (xs ++ dds.map SD.d)) := by
  obtain ⟨f, fd, ps, ds, hm, hk, hb, hv, hd, F⟩ := G
  refine pe_imp (pe_callSD (dvs := dvs) (ds := ds) F room hg hm hk hb hv hx ha hdb he hpl) fun σ H Q ⟨W, ρ, ok, rel, h⟩ => ?_
  refine ⟨W, ρ, ok, rel, (Ts ρ).mono (fun xs h1 vs H1 k1 ok1 r1 => ?_) (fun e h => h) h⟩
  exact call_sp ok1 (paired_app r1 (paired_all (hd _ _))) rel.tab (M.mono _ (fun z q => Post.trans k1 q) (fun e q => XP.trans ok k1 ok1 q) h1)
/-! keywords -/
abbrev DK (X : Cx) (EX : L2.St → XK) (kws : List Keyword) (T : List SD → M (List SD)) : Prop := PK X kws (dta X.K EX T)
theorem pk_imp {X : Cx} {e : List Keyword} {t t' : TA} (h : PK X e t) (i : ∀ σ H Q, t' σ H Q → t σ H Q) : PK X e t' := ⟨fun pos pins s σ H Q J q => h.run pos pins s σ H Q J (i σ H Q q)⟩
theorem dk_nil : DK X EX [] (fun _ => pure []) := pk_imp pk_nil fun σ H Q ⟨W, ρ, ok, rel, p⟩ => p [] H (Kp.refl W H) ok .nil
theorem dk_cons {T : List SD → M SD} {kws : List Keyword} {nm : Option Str} {kpos : Pos} (ha : DE X EX e T) (hr : DK X EX kws Ts) : DK X EX (⟨nm, e, kpos⟩ :: kws) (fun ρ => do let x ← T ρ; let xs ← Ts ρ; pure (x :: xs)) := by
  refine pk_imp (pk_cons ha hr) fun σ H Q ⟨W, ρ, ok, rel, h⟩ => ?_
  refine ⟨W, ρ, ok, rel, (T ρ).mono (fun x h1 v H1 k1 ok1 r1 => ?_) (fun e h => h) h⟩
  refine ⟨W, ρ, ok1, rel.keep ok k1, (Ts ρ).mono (fun y h2 w H2 k2 ok2 r2 => ?_) (fun e h => XP.trans ok k1 ok1 h) h1⟩
  exact h2 (v :: w) H2 (k1.trans k2) ok2 (.cons (r1.keep ok1 k2) r2)
theorem de_callK {E : XK} {kws : List Keyword} {ks : List Str} {perm : {α : Type} → List α → List α} (G : OkK X.prog X.w X.K X.mg X.base k x n ks perm g) (room : Room k X.A) (hg : Gl X x) (hx : Passes (L2.CX X.prog X.w) X E) (hl : ∀ xs : List SD, (perm xs).length = n → xs.length = ks.length) (ha : DK X (fun _ => E) kws Ts)
    (all : (backToKw pos (keywordEach kws X.env)).all (·.1.isSome) = true := by rfl) (nms : (backToKw pos (keywordEach kws X.env)).filterMap (·.1) = ks := by rfl) (nd : (x == ("__debug__" : Str)) = false := by decide)
    (pl : ((backTo pos (starEach [] X.env)).any (·.1) || (backToKw pos (keywordEach kws X.env)).any (·.1.isNone)) = false := by rfl) : DE X (fun _ => E) (.Call (.Name x p) [] kws pos) (fun ρ => do let xs ← Ts ρ; callM n g (perm xs)) := by
  obtain ⟨f, fd, ps, hm, hk, hb, hp, F⟩ := G
  refine pe_imp (Dw.pe_callN0 F room hg hm hk hb hx ha all nms nd pl) fun σ H Q ⟨W, ρ, ok, rel, h⟩ => ?_
  refine ⟨W, ρ, ok, rel, (Ts ρ).mono (fun xs h1 vs H1 k1 ok1 r1 => ?_) (fun e h => h) h⟩
  have run : (callM n g (perm xs)).run (Post X.K W H1 Q) (XP X.K W H1 E) := M.mono _ (fun z q => Post.trans k1 q) (fun e q => XP.trans ok k1 ok1 q) h1
  have ln : (perm xs).length = n := by
    have r := run
    unfold callM at r
    split at r
    · assumption
    · exact r.elim
  refine ⟨rfl, ?_, call_sp ok1 (hp r1) rel.tab run⟩
  rw [Paired.length r1]
  exact hl xs ln
end
end Dd
/-! DwD13 -/
/-! two clauses, dicts, min and max -/
namespace Dd
open PySem PySem.Spec PyProof.Rows L2
/-! ### a comprehension with two clauses -/
def lcM2 (tg tg1 : Tg) (B : List SD → M Bool) (Ti1 : List SD → M (List SD)) (B1 : List SD → M Bool) (T : List SD → M SD) (vs1 : List Nat) (ρ : List SD) : List SD → List PyData → M (List PyData)
  | [], acc => pure acc
  | x :: r, acc => do
    let ρ1 ← M.lift (kOf tg x ρ)
    let b ← M.calm (B ρ1)
    if b then do
      let its ← M.calm (Ti1 ρ1)
      let acc' ← lcM tg1 B1 T (wipeD ρ1 vs1) its acc
      lcM2 tg tg1 B Ti1 B1 T vs1 ρ r acc'
    else lcM2 tg tg1 B Ti1 B1 T vs1 ρ r acc
section
variable {K : PySem.W.Frag} {W : Wd} {D : Addr}
/-- what holds while a comprehension makes the list at D; ρ: the slots -/
structure LcI (K : PySem.W.Frag) (W : Wd) (D : Addr) (H1 : Hp) (σ : L2.St) (ρ : List SD) (H' : Hp) (accV : List V) (acc : List PyData) : Prop where
  ok : (W.add D).Ok H'
  rel : Rel K (W.add D) H' σ ρ
  kp : Kp W H1 H'
  stp : Stp W.S (W.add D).S H1 H'
  at_ : H' D = some (.lst accV)
  rep : RpAll K (W.add D).S H' accV acc
/-- the heap goes on: D may have grown -/
theorem LcI.next {H1 H2 H4 : Hp} {σ : L2.St} {ρ : List SD} {accV accV' : List V} {acc acc' : List PyData} (i : LcI K W D H1 σ ρ H2 accV acc) (hD : H1 D = none) (nD : ∀ l, W.src ≠ some (D, l)) (hk : Kp (W.add D) H2 H4 ∨ ∃ H5 o, Kp (W.add D) H2 H5 ∧ H4 = upd H5 D o)
    (hown : ∀ (j : Nat) (x : SD) (q : Addr), ρ[j]? = some x → isOwn x = true → σ[j]? = some (some (.ref q)) → ∃ o, H1 q = some o)
    (ok4 : (W.add D).Ok H4) (hD4 : H4 D = some (.lst accV')) (t4 : RpAll K (W.add D).S H4 accV' acc') : LcI K W D H1 σ ρ H4 accV' acc' := by
  have st24 : Stp (W.add D).S (W.add D).S H2 H4 := by
    rcases hk with hk4 | ⟨H5, o, hk5, rfl⟩
    · exact hk4.stp i.ok
    · refine (hk5.stp i.ok).trans ⟨fun b o' hb _ c => ?_, fun b h => .inl h⟩
      rw [upd_ne]
      · exact hb
      · intro z
        subst z
        rcases c with c | c
        · exact c List.mem_cons_self
        · rw [hk5 b _ i.at_ nD nt_lst] at hb; cases hb; exact c
  have kp24 : ∀ b o, b ≠ D → H2 b = some o → (∀ l, W.src ≠ some (b, l)) → NT o → H4 b = some o := fun b o nb h2 n nt => by
    rcases hk with hk4 | ⟨H5, o5, hk5, rfl⟩
    · exact hk4 b o h2 n nt
    · rw [upd_ne nb]; exact hk5 b o h2 n nt
  refine ⟨ok4, ⟨i.rel.len, fun j z ej n => ?_, i.rel.sep, i.rel.tab⟩, fun b o hb n nt => ?_, i.stp.trans st24, hD4, t4⟩
  · obtain ⟨v, g1, g2⟩ := i.rel.get j z ej n
    refine ⟨v, g1, ?_⟩
    cases z with
    | no => trivial
    | d x => exact Rp.step st24 g2
    | src => exact g2
    | ty n => exact g2
    | own ds =>
      obtain ⟨q2, xs, rfl, m2, ns2, hq2, t2⟩ := g2
      obtain ⟨o, ho⟩ := hown j _ q2 ej rfl g1
      exact ⟨q2, xs, rfl, m2, ns2, kp24 q2 _ (fun z => by rw [z, hD] at ho; cases ho) hq2 ns2 nt_lst, RpAll.step st24 t2⟩
    | ownD ds =>
      obtain ⟨q2, xs, rfl, m2, ns2, hq2, t2⟩ := g2
      obtain ⟨o, ho⟩ := hown j _ q2 ej rfl g1
      exact ⟨q2, xs, rfl, m2, ns2, kp24 q2 _ (fun z => by rw [z, hD] at ho; cases ho) hq2 ns2 nt_dK, paired_mono (fun _ _ z => ⟨z.1, Rp.step st24 z.2⟩) t2⟩
  · exact kp24 b o (fun z => by rw [z, hD] at hb; cases hb) (i.kp b o hb n nt) n nt
end
section
variable {X : Cx} {EX : L2.St → XK} {elt tg iter tg1 iter1 : Expr} {ifs ifs1 : List Expr} {scope : Scope} {own : List (Str × Nat)} {vs1 : List Nat} {pos : Pos} {Ti Ti1 : List SD → M (List SD)} {B B1 : List SD → M Bool} {T : List SD → M SD} {t t1 : Tg}
/-- where the block's slots come from: what is owned stood ahead of it -/
def OwnOld (H1 : Hp) (σ : L2.St) (ρ : List SD) : Prop := ∀ (j : Nat) (x : SD) (q : Addr), ρ[j]? = some x → isOwn x = true → σ[j]? = some (some (.ref q)) → ∃ o, H1 q = some o
theorem OwnOld.wipe {H1 : Hp} {σ : L2.St} {ρ : List SD} (h : OwnOld H1 σ ρ) (vs : List Nat) : OwnOld H1 (L2.wipe σ vs) (wipeD ρ vs) := fun j x q e o s => by
  obtain ⟨h1, h2⟩ := wipeD_get e (own_ne o)
  rw [wipe_get h2] at s
  exact h j x q h1 o s
theorem OwnOld.of {K : PySem.W.Frag} {W : Wd} {H : Hp} {σ : L2.St} {ρ : List SD} (r : Rel K W H σ ρ) : OwnOld H σ ρ := fun j x q e o s => by
  obtain ⟨v, h1, h2⟩ := r.get j x e (own_ne o)
  obtain ⟨q', u, e1, e2, _⟩ := own_there h2 o
  rw [h1] at s
  cases s
  cases e1
  exact ⟨u, e2⟩
theorem setsD_own {is : List Nat} : ∀ {xs : List PyData} {ρ : List SD} {j : Nat} {x : SD}, (setsD ρ is xs)[j]? = some x → isOwn x = true → ρ[j]? = some x := by
  induction is with
  | nil => intro xs ρ j x e o; exact e
  | cons i is ih =>
    intro xs ρ j x e o
    cases xs with
    | nil => exact e
    | cons y ys =>
      have h := ih (xs := ys) (ρ := ρ.set i (.d y)) (j := j) (x := x) e o
      by_cases z : i = j
      · subst z
        rw [List.getElem?_set_self (lt_set h)] at h
        cases h; cases o
      · rwa [List.getElem?_set_ne z] at h
theorem kOf_own {tg : Tg} {x : SD} {ρ ρ1 : List SD} (h : kOf tg x ρ = some ρ1) {j : Nat} {y : SD} (e : ρ1[j]? = some y) (o : isOwn y = true) : ρ[j]? = some y := by
  cases tg with
  | nm i =>
    obtain ⟨z, h1, rfl⟩ := Option.map_eq_some_iff.mp h
    obtain ⟨rfl, no⟩ := plain_eq h1
    by_cases q : i = j
    · subst q
      rw [List.getElem?_set_self (lt_set e)] at e
      cases e
      rw [no] at o; cases o
    · rwa [List.getElem?_set_ne q] at e
  | tp is =>
    cases x with
    | d y =>
      cases y with
      | tuple xs =>
        simp only [kOf] at h
        split at h
        · cases h; exact setsD_own e o
        · cases h
      | _ => cases h
    | _ => cases h
/-- a target's store, with what stays -/
theorem tg_lc {K : PySem.W.Frag} {W : Wd} {D : Addr} {H1 H2 : Hp} {tg : Tg} {vs : List Nat} {σ : L2.St} {ρ ρ' : List SD} {v : V} {x : SD} {Q : L2.St → Hp → Prop} (hr : Rel K (W.add D) H2 σ ρ) (old : OwnOld H1 σ ρ) (hin : tgIn tg vs = true) (r : RV K (W.add D) H2 v x) (e : kOf tg x ρ = some ρ')
    (q : ∀ σ', Rel K (W.add D) H2 σ' ρ' → OwnOld H1 σ' ρ' → L2.wipe σ' vs = L2.wipe σ vs → Q σ' H2) : gOf K tg v σ H2 Q := by
  have keyOld : ∀ σ', Rel K (W.add D) H2 σ' ρ' → (∀ (j : Nat) (y : SD), ρ'[j]? = some y → isOwn y = true → σ'[j]? = σ[j]?) → OwnOld H1 σ' ρ' := fun σ' r' same j y p ej o s => by
    rw [same j y ej o] at s
    exact old j y p (kOf_own e ej o) o s
  cases tg with
  | nm i =>
    obtain ⟨y, h1, rfl⟩ := Option.map_eq_some_iff.mp e
    obtain ⟨rfl, no⟩ := plain_eq h1
    have r2 := hr.set (i := i) r no
    refine q _ r2 (keyOld _ r2 fun j y ej o => ?_) (wipe_set (of_decide_eq_true hin))
    by_cases z : i = j
    · subst z
      rw [List.getElem?_set_self (lt_set ej)] at ej
      cases ej
      rw [no] at o; cases o
    · exact List.getElem?_set_ne z
  | tp is =>
    cases x with
    | d y =>
      cases y with
      | tuple xs =>
        simp only [kOf] at e
        split at e
        · rename_i hl
          cases e
          cases r with | tup l tt =>
          have r2 := sets_rel (is := is) tt hr
          refine ⟨_, _, rfl, l, by rw [tt.length]; exact hl, gNames_run (by rw [tt.length]; exact hl) (q _ r2 (keyOld _ r2 ?_) (wipe_sets fun i hi => of_decide_eq_true (List.all_eq_true.mp hin i hi)))⟩
          clear r2 keyOld q hl old hin l
          have go : ∀ {is : List Nat} {vs : List V} {ds : List PyData} {σ : L2.St} {ρ : List SD}, RpAll K (W.add D).S H2 vs ds → ∀ (j : Nat) (y : SD), (setsD ρ is ds)[j]? = some y → isOwn y = true → (setsV σ is vs)[j]? = σ[j]? := by
            intro is
            induction is with
            | nil => intro vs ds σ ρ _ j y _ _; rfl
            | cons i is ih =>
              intro vs ds σ ρ tt j y ej o
              cases tt with
              | nil => rfl
              | @cons v vs d ds h tt =>
                have e1 := ih (σ := σ.set i (some v)) (ρ := ρ.set i (.d d)) tt j y ej o
                show (setsV (σ.set i (some v)) is vs)[j]? = σ[j]?
                rw [e1]
                have h2 := setsD_own (is := is) (ρ := ρ.set i (.d d)) ej o
                by_cases z : i = j
                · subst z
                  rw [List.getElem?_set_self (lt_set h2)] at h2
                  cases h2; cases o
                · exact List.getElem?_set_ne z
          exact go tt
        · cases e
      | _ => cases e
    | _ => cases e
theorem lc2_imp (hin : tgIn t (own.map (·.2)) = true) (hin1 : tgIn t1 vs1 = true) (hv : ∀ i ∈ vs1, i ∈ own.map (·.2)) (σ : L2.St) (H : Hp) (Q : VK) (h : dtn X.K EX (fun ρ => do let its ← Ti ρ; lcM2 t t1 B Ti1 B1 T vs1 (wipeD ρ (own.map (·.2))) its []) σ H Q) :
    tLc2 (dti X.K EX Ti) (gOf X.K t) (dtt X.K (fun _ => E0) B) (dti X.K (fun _ => E0) Ti1) (gOf X.K t1) (dtt X.K (fun _ => E0) B1) (dt X.K (fun _ => E0) T) (own.map (·.2)) vs1 σ H Q := by
  obtain ⟨W, ρ, ok, rel, h⟩ := h
  refine ⟨W, ρ, ok, rel, (Ti ρ).mono (fun its q J H1 k1 ok1 w D hD => ?_) (fun _ z => z) h⟩
  obtain ⟨G, Y, walk, hG, hY⟩ := w
  generalize hvs : own.map (·.2) = vs at *
  have nD : ∀ l, W.src ≠ some (D, l) := fun l z => by
    obtain ⟨o, e, _⟩ := ok1.there D (ok1.draw D l z).1
    rw [hD] at e; cases e
  have kD : Kp W H1 (upd H1 D (.lst [])) := Kp.same (Dw.same_new hD)
  have okD : (W.add D).Ok (upd H1 D (.lst [])) := add_ok ok1 hD ⟨(fun z => z), nt_lst⟩
  have hn0 : Fr0 H D := k1.free ok (Fr0.of hD) ok1
  have rel1 := rel.keep ok k1
  have old : OwnOld H1 (L2.wipe σ vs) (wipeD ρ vs) := (OwnOld.of rel1).wipe vs
  -- the invariant by the outer turn
  refine ⟨fun i m H' => m = its.length - i ∧ i ≤ its.length ∧ ∃ accV acc, LcI X.K W D H1 (L2.wipe σ vs) (wipeD ρ vs) H' accV acc ∧ (lcM2 t t1 B Ti1 B1 T vs1 (wipeD ρ vs) (its.drop i) acc).run (PostN X.K W H Q) (XP X.K W H (EX σ)), ⟨its.length, by simp, Nat.zero_le _, [], [], ⟨okD, ?_, kD, add_stp ok1 kD hD, upd_same, .nil⟩, q⟩, ?_⟩
  · exact (⟨rel1.len, fun i x e n => let ⟨v, h1, h2⟩ := rel1.get i x e n; ⟨v, h1, RV.add ok1 kD hD h2⟩, rel.sep, rel.tab⟩ : Rel X.K (W.add D) _ σ ρ).wipe vs
  rintro i m H' ⟨rfl, hi, accV, acc, I, run⟩
  have gH := hG _ H' I.stp
  by_cases lt : i < its.length
  · refine .inr ⟨walk.goes i H' lt gH, fun H2 => i + 1 ≤ its.length ∧ ∃ accV acc, LcI X.K W D H1 (L2.wipe σ vs) (wipeD ρ vs) H2 accV acc ∧ (lcM2 t t1 B Ti1 B1 T vs1 (wipeD ρ vs) (its.drop (i + 1)) acc).run (PostN X.K W H Q) (XP X.K W H (EX σ)), fun H2 ⟨h1, h2⟩ => ⟨its.length - (i + 1), by omega, rfl, h1, h2⟩, fun x H2 y => ?_⟩
    obtain ⟨sm, it, e1, rv, no⟩ := hY i (W.add D) H' x H2 I.stp I.ok (walk.yields i H' x H2 lt gH y) lt
    have e2 : its.drop i = it :: its.drop (i + 1) := by
      obtain ⟨lt', e3⟩ := List.getElem?_eq_some_iff.mp e1
      rw [List.drop_eq_getElem_cons lt', e3]
    rw [e2] at run
    obtain ⟨ρ1, hk, run⟩ := run_lift.mp run
    have kk : Kp (W.add D) H' H2 := Kp.same sm
    have ok2 := I.ok.same sm
    have I2 : LcI X.K W D H1 (L2.wipe σ vs) (wipeD ρ vs) H2 accV acc := I.next hD nD (.inl kk) old ok2 (sm _ _ I.at_) (RpAll.step (kk.stp I.ok) I.rep)
    refine tg_lc I2.rel old hin rv hk fun σ2 rel2 old2 ew => ⟨by rw [ew]; exact wipe_wipe σ vs vs (fun _ h => h), ?_⟩
    -- the outer test
    refine ⟨W.add D, ρ1, ok2, rel2, (B ρ1).mono (fun b q H3 k3 ok3 => ?_) (fun _ z => z.elim) run⟩
    have I3 : LcI X.K W D H1 (L2.wipe σ vs) (wipeD ρ vs) H3 accV acc := I2.next hD nD (.inl k3) old ok3 (k3 D _ I2.at_ nD nt_lst) (RpAll.step (k3.stp ok2) I2.rep)
    cases b with
    | false => exact ⟨lt, accV, acc, I3, q⟩
    | true =>
      -- the inner source
      refine ⟨W.add D, ρ1, ok3, rel2.keep ok2 k3, (Ti1 ρ1).mono (fun its1 q J1 H4 k4 ok4 w1 => ?_) (fun _ z => z.elim) q⟩
      obtain ⟨G1, Y1, walk1, hG1, hY1⟩ := w1
      have I4 : LcI X.K W D H1 (L2.wipe σ vs) (wipeD ρ vs) H4 accV acc := I3.next hD nD (.inl k4) old ok4 (k4 D _ I3.at_ nD nt_lst) (RpAll.step (k4.stp ok3) I3.rep)
      have rel4 : Rel X.K (W.add D) H4 σ2 ρ1 := (rel2.keep ok2 k3).keep ok3 k4
      have old4 : OwnOld H1 (L2.wipe σ2 vs1) (wipeD ρ1 vs1) := old2.wipe vs1
      refine ⟨fun j k H5 => k = its1.length - j ∧ j ≤ its1.length ∧ ∃ accV acc, LcI X.K W D H1 (L2.wipe σ vs) (wipeD ρ vs) H5 accV acc ∧ LcI X.K W D H1 (L2.wipe σ2 vs1) (wipeD ρ1 vs1) H5 accV acc ∧ Stp (W.add D).S (W.add D).S H4 H5 ∧
        (lcM t1 B1 T (wipeD ρ1 vs1) (its1.drop j) acc).run (fun acc' => (lcM2 t t1 B Ti1 B1 T vs1 (wipeD ρ vs) (its.drop (i + 1)) acc').run (PostN X.K W H Q) (XP X.K W H (EX σ))) (XP X.K W H (EX σ)), ⟨its1.length, by simp, Nat.zero_le _, accV, acc, I4, ⟨ok4, rel4.wipe vs1, I4.kp, I4.stp, I4.at_, I4.rep⟩, Stp.refl _ _, q⟩, ?_⟩
      rintro j k H5 ⟨rfl, hj, accV, acc, Ia, Ib, st5, run5⟩
      have gH1 := hG1 _ H5 st5
      by_cases lt1 : j < its1.length
      · refine .inr ⟨walk1.goes j H5 lt1 gH1, fun H6 => j + 1 ≤ its1.length ∧ ∃ accV acc, LcI X.K W D H1 (L2.wipe σ vs) (wipeD ρ vs) H6 accV acc ∧ LcI X.K W D H1 (L2.wipe σ2 vs1) (wipeD ρ1 vs1) H6 accV acc ∧ Stp (W.add D).S (W.add D).S H4 H6 ∧
          (lcM t1 B1 T (wipeD ρ1 vs1) (its1.drop (j + 1)) acc).run (fun acc' => (lcM2 t t1 B Ti1 B1 T vs1 (wipeD ρ vs) (its.drop (i + 1)) acc').run (PostN X.K W H Q) (XP X.K W H (EX σ))) (XP X.K W H (EX σ)), fun H6 ⟨h1, h2⟩ => ⟨its1.length - (j + 1), by omega, rfl, h1, h2⟩, fun x1 H6 y1 => ?_⟩
        obtain ⟨sm1, it1, f1, rv1, no1⟩ := hY1 j (W.add D) H5 x1 H6 st5 Ia.ok (walk1.yields j H5 x1 H6 lt1 gH1 y1) lt1
        have f2 : its1.drop j = it1 :: its1.drop (j + 1) := by
          obtain ⟨lt', f3⟩ := List.getElem?_eq_some_iff.mp f1
          rw [List.drop_eq_getElem_cons lt', f3]
        rw [f2] at run5
        obtain ⟨ρ2, hk1, run5⟩ := run_lift.mp run5
        have kk1 : Kp (W.add D) H5 H6 := Kp.same sm1
        have ok6 := Ia.ok.same sm1
        have t6 := RpAll.step (kk1.stp Ia.ok) Ia.rep
        have Ia6 := Ia.next hD nD (.inl kk1) old ok6 (sm1 _ _ Ia.at_) t6
        have Ib6 := Ib.next hD nD (.inl kk1) old4 ok6 (sm1 _ _ Ib.at_) (RpAll.step (kk1.stp Ib.ok) Ib.rep)
        refine tg_lc Ib6.rel old4 hin1 rv1 hk1 fun σ3 rel3 old3 ew3 => ⟨by rw [ew3]; exact wipe_wipe σ2 vs1 vs1 (fun _ h => h), ?_⟩
        refine lc_turn nD ok6 rel3 Ia6.at_ Ia6.rep run5 fun H7 accV' acc' hk7 ok7 hD7 t7 run7 => ?_
        refine ⟨lt1, accV', acc', Ia6.next hD nD hk7 old ok7 hD7 t7, Ib6.next hD nD hk7 old4 ok7 hD7 t7, (st5.trans (kk1.stp Ia.ok)).trans ?_, run7⟩
        rcases hk7 with hk7 | ⟨H8, o, hk8, rfl⟩
        · exact hk7.stp ok6
        · refine (hk8.stp ok6).trans ⟨fun b o' hb _ c => ?_, fun b h => .inl h⟩
          rw [upd_ne]
          · exact hb
          · intro z
            subst z
            rcases c with c | c
            · exact c List.mem_cons_self
            · rw [hk8 b _ Ia6.at_ nD nt_lst] at hb; cases hb; exact c
      · have e : j = its1.length := by omega
        subst e
        rw [List.drop_length] at run5
        exact .inl ⟨walk1.stops H5 gH1, lt, accV, acc, Ia, run5⟩
  · have e : i = its.length := by omega
    subst e
    rw [List.drop_length] at run
    exact .inl ⟨walk.stops H' gH, run D accV H' (k1.trans I.kp) I.ok hn0 I.at_ I.rep⟩
theorem de_lc2 (hc : X.calm = true) (hN : X.N.Nodup) (hi : DI X EX tg iter Ti) (ok : BlkOk X.N X.env.scope scope own) (hin : tgIn t (own.map (·.2)) = true) (hin1 : tgIn t1 vs1 = true) (hv : ∀ i ∈ vs1, i ∈ own.map (·.2))
    (hg : ∀ (s : Shared) (H : Hp) (C : Addr) (cl : List (Str × Addr)) (fp : List Addr), PG (X.blk s H scope (compEnvC scope cl C X.env) fp) tg (gOf X.K t)) (ht : ∀ (s : Shared) (H : Hp) (C : Addr) (cl : List (Str × Addr)) (fp : List Addr), DTs (X.blk s H scope (compEnvC scope cl C X.env) fp) ifs B)
    (hi1 : ∀ (s : Shared) (H : Hp) (C : Addr) (cl : List (Str × Addr)) (fp : List Addr), DI (X.blk s H scope (compEnvC scope cl C X.env) fp) (fun _ => E0) tg1 iter1 Ti1)
    (hg1 : ∀ (s : Shared) (H : Hp) (C : Addr) (cl : List (Str × Addr)) (fp : List Addr), PG (X.blk s H scope (compEnvC scope cl C X.env) fp) tg1 (gOf X.K t1)) (ht1 : ∀ (s : Shared) (H : Hp) (C : Addr) (cl : List (Str × Addr)) (fp : List Addr), DTs (X.blk s H scope (compEnvC scope cl C X.env) fp) ifs1 B1)
    (he : ∀ (s : Shared) (H : Hp) (C : Addr) (cl : List (Str × Addr)) (fp : List Addr), DE (X.blk s H scope (compEnvC scope cl C X.env) fp) (fun _ => E0) elt T) (hs : ∀ x, foldedSetIterable iter X.env x = pure x := by intro _; rfl) (hs1 : ∀ env x, foldedSetIterable iter1 env x = pure x := by intro _ _; rfl) :
    DE X EX (.ListComp elt [⟨tg, iter, ifs, 0⟩, ⟨tg1, iter1, ifs1, 0⟩] scope pos) (fun ρ => do let its ← Ti ρ; let ds ← lcM2 t t1 B Ti1 B1 T vs1 (wipeD ρ (own.map (·.2))) its []; pure (.d (.list ds))) := by
  refine pe_imp (pe_lc2 (tt := dtt X.K (fun _ => E0) B) (tt1 := dtt X.K (fun _ => E0) B1) (wi1 := dti X.K (fun _ => E0) Ti1) (te := dt X.K (fun _ => E0) T) hc hN hi ok hv hg ht hi1 hg1 ht1 he hs hs1) fun σ H Q ⟨W, ρ, ok, rel, h⟩ => ?_
  exact lc2_imp (EX := EX) (Ti := Ti) hin hin1 hv σ H Q ⟨W, ρ, ok, rel, M.mono _ (fun ds q => PostN.of ok q) (fun _ z => z) h⟩
theorem ds_setLc2 {E : XK} {i : Nat} {y : Str} {py spos : Pos} (hc : X.calm = true) (hN : X.N.Nodup) (hy : X.N[i]? = some y) (hyl : X.env.scope.names.lookup y = some .local)
    (hsw : swapsWith (.ListComp elt [⟨tg, iter, ifs, 0⟩, ⟨tg1, iter1, ifs1, 0⟩] scope pos) (some (.Name y py)) spos.line X.env = pure true) (hi : DI X (fun _ => E) tg iter Ti) (ok : BlkOk X.N X.env.scope scope own) (hin : tgIn t (own.map (·.2)) = true) (hin1 : tgIn t1 vs1 = true) (hv : ∀ i ∈ vs1, i ∈ own.map (·.2))
    (hg : ∀ (s : Shared) (H : Hp) (C : Addr) (cl : List (Str × Addr)) (fp : List Addr), PG (X.blk s H scope (compEnvC scope cl C X.env) fp) tg (gOf X.K t)) (ht : ∀ (s : Shared) (H : Hp) (C : Addr) (cl : List (Str × Addr)) (fp : List Addr), DTs (X.blk s H scope (compEnvC scope cl C X.env) fp) ifs B)
    (hi1 : ∀ (s : Shared) (H : Hp) (C : Addr) (cl : List (Str × Addr)) (fp : List Addr), DI (X.blk s H scope (compEnvC scope cl C X.env) fp) (fun _ => E0) tg1 iter1 Ti1)
    (hg1 : ∀ (s : Shared) (H : Hp) (C : Addr) (cl : List (Str × Addr)) (fp : List Addr), PG (X.blk s H scope (compEnvC scope cl C X.env) fp) tg1 (gOf X.K t1)) (ht1 : ∀ (s : Shared) (H : Hp) (C : Addr) (cl : List (Str × Addr)) (fp : List Addr), DTs (X.blk s H scope (compEnvC scope cl C X.env) fp) ifs1 B1)
    (he : ∀ (s : Shared) (H : Hp) (C : Addr) (cl : List (Str × Addr)) (fp : List Addr), DE (X.blk s H scope (compEnvC scope cl C X.env) fp) (fun _ => E0) elt T) (hs : ∀ x, foldedSetIterable iter X.env x = pure x := by intro _; rfl) (hs1 : ∀ env x, foldedSetIterable iter1 env x = pure x := by intro _ _; rfl) :
    DS X E (.Assign [.Name y py] (.ListComp elt [⟨tg, iter, ifs, 0⟩, ⟨tg1, iter1, ifs1, 0⟩] scope pos) spos) (fun ρ => do let its ← Ti ρ; let ds ← lcM2 t t1 B Ti1 B1 T vs1 (wipeD ρ (own.map (·.2))) its []; pure (.nx (ρ.set i (.d (.list ds))))) := by
  refine ps_imp (ps_setLc2 (tt := dtt X.K (fun _ => E0) B) (tt1 := dtt X.K (fun _ => E0) B1) (wi1 := dti X.K (fun _ => E0) Ti1) (te := dt X.K (fun _ => E0) T) hc hN hy hyl hsw hi ok hv hg ht hi1 hg1 ht1 he hs hs1) fun D σ H ⟨W0, H0, W, ρ, s, h⟩ => ?_
  refine lc2_imp (EX := fun _ => E) (Ti := Ti) hin hin1 hv σ H _ ⟨W, ρ, s.ok, s.rel, M.mono _ (fun ds q => PostN.of s.ok fun v H' k ok' r => ?_) (fun _ z => s.xp z) h⟩
  exact q W _ H' (k.stp s.ok) ((s.keep k ok').set r rfl)
end
end Dd
/-! DwD14 -/
/-! dicts, min and max, some calls -/
namespace Dd
open PySem PySem.Spec PyProof.Rows L2
/-! ### {k: v, ..} -/
def pairsT : List ((List SD → M SD) × (List SD → M SD)) → List SD → M (List (Key × PyData))
  | [], _ => pure []
  | (Tk, Tv) :: r, ρ => do
    let k ← Tk ρ
    let kd ← M.lift (asD k)
    let kk ← M.lift (keyOf kd)
    let v ← Tv ρ
    let d ← M.lift (asD v)
    let more ← pairsT r ρ
    pure ((kk, d) :: more)
section
variable {X : Cx} {EX : L2.St → XK} {e e2 o : Expr} {es : List Expr} {x : Str} {pos p apos cpos : Pos} {T T2 T3 : List SD → M SD} {Ts : List SD → M (List SD)}
theorem pairs_run {W : Wd} {σ : L2.St} {ρ : List SD} : ∀ {l : List ((List SD → M SD) × (List SD → M SD))} {H : Hp} {Q : List (V × V) → Hp → Prop} {P : List (Key × PyData) → Prop} {E : Exn → Prop}, W.Ok H → Rel X.K W H σ ρ → (pairsT l ρ).run P E → (∀ H1 e, Kp W H H1 → W.Ok H1 → E e → XP X.K W H1 (EX σ) e) →
    (∀ kvs ds H', Kp W H H' → W.Ok H' → PKV X.K W.S H' kvs ds → P ds → Q (kvs.map fun kv => (kV kv.1, kv.2)) H') → tPairs (l.map fun p => (dt X.K EX p.1, dt X.K EX p.2)) σ H Q
  | [], H, Q, P, E, ok, rel, run, hE, q => q [] [] H (Kp.refl W H) ok .nil run
  | (Tk, Tv) :: r, H, Q, P, E, ok, rel, run, hE, q => by
    refine ⟨W, ρ, ok, rel, (Tk ρ).mono (fun k h v H1 k1 ok1 r1 => ?_) (fun e h => hE H e (Kp.refl W H) ok h) run⟩
    obtain ⟨kd, hk, h⟩ := run_lift.mp h
    obtain rfl := asD_eq hk
    obtain ⟨kk, hkk, h⟩ := run_lift.mp h
    obtain rfl := keyOf_rp r1 hkk
    refine ⟨W, ρ, ok1, rel.keep ok k1, (Tv ρ).mono (fun z h w H2 k2 ok2 r2 => ?_) (fun e h => hE H1 e k1 ok1 h) h⟩
    obtain ⟨d, hd, h⟩ := run_lift.mp h
    obtain rfl := asD_eq hd
    have k12 := k1.trans k2
    refine pairs_run (l := r) ok2 ((rel.keep ok k1).keep ok1 k2) h (fun H3 e k3 ok3 he => hE H3 e (k12.trans k3) ok3 he) fun kvs ds H3 k3 ok3 t p => ?_
    exact q ((kk, w) :: kvs) ((kk, d) :: ds) H3 (k12.trans k3) ok3 (.cons ⟨rfl, Rp.step (k3.stp ok2) r2⟩ t) p
theorem de_dict {keys : List (Option Expr)} {values : List Expr} {l : List ((List SD → M SD) × (List SD → M SD))} (h : PPs X pos keys values (l.map fun p => (dt X.K EX p.1, dt X.K EX p.2))) (hall : keys.all (·.isSome) = true) (hl : keys.length = values.length) (h0 : keys ≠ []) (h15 : keys.length ≤ 15) (h16 : l.length ≤ 15) :
    DE X EX (.Dict keys values pos) (fun ρ => do let kvs ← pairsT l ρ; M.when (decide (kvs.length ≤ 15)) (pure (.d (dictOf (mergeD [] kvs))))) := by
  refine pe_imp (pe_disp h hall hl h0 h15) fun σ H Q ⟨W, ρ, ok, rel, h⟩ p hp => ?_
  have sm := Dw.same_new (o := .dK []) hp
  have kp : Kp W H (upd H p (.dK [])) := Kp.same sm
  have okp : (W.add p).Ok (upd H p (.dK [])) := add_ok ok hp ⟨(fun z => z), nt_dK⟩
  have relp : Rel X.K (W.add p) (upd H p (.dK [])) σ ρ := ⟨rel.len, fun i x e n => let ⟨v, h1, h2⟩ := rel.get i x e n; ⟨v, h1, RV.add ok kp hp h2⟩, rel.sep, rel.tab⟩
  have np : ∀ l, (W.add p).src ≠ some (p, l) := fun l z => by
    obtain ⟨o, e, _⟩ := ok.there p (ok.draw p l z).1
    rw [hp] at e; cases e
  have back : ∀ {S' : Hp}, Stp (W.add p).S W.S S' S' := ⟨fun _ _ h _ _ => h, fun b h => .inl (List.mem_cons_of_mem _ h)⟩
  refine pairs_run (W := W.add p) okp relp h (fun H1 e k1 ok1 he C dx H' fs hC k' ok' n hd ns r => ?_) fun kvs ds H' k' ok' t q => ?_
  · refine he C dx H' fs hC (kp.trans (k1.trans k')) (add_back ok (Fr0.of hp) ok') ?_ hd (fun z => ns (List.mem_cons_of_mem _ z)) (paired_mono (fun _ _ z => ⟨z.1, Rp.step back z.2⟩) r)
    have h1 := k1.free okp n ok1
    exact fun o e t => h1 o (sm _ _ e) t
  · obtain ⟨c, q⟩ := run_when.mp q
    have hp' : H' p = some (.dK []) := k' p _ upd_same np nt_dK
    refine ⟨hp', kvs, rfl, by rw [Paired.length t]; exact of_decide_eq_true c, ?_⟩
    have tm := pkv_merge t (.nil : PKV X.K (W.add p).S H' [] [])
    have ne : ∀ b o', H' b = some o' → b ∉ (W.add p).S ∨ Fix o' → b ≠ p := fun b o' hb c z => by
      subst z
      rcases c with c | c
      · exact c List.mem_cons_self
      · rw [hp'] at hb; cases hb; exact c
    have st : Stp (W.add p).S (W.add p).S H' (upd H' p (.dK (mergeK [] kvs))) := ⟨fun b o' hb _ c => by rw [upd_ne (ne b o' hb c)]; exact hb, fun b h => .inl h⟩
    refine q _ _ (fun b o hb n nt => ?_) ⟨fun b hb => ?_, fun a l e => ?_, tabs_upd ok'.tabs hp' nt_dK (fun _ z => nomatch z)⟩ (.dct (.inl upd_same) (ok.notin hp) (pkv_kv (paired_mono (fun _ _ z => ⟨z.1, Rp.step (st.trans back) z.2⟩) tm)))
    · have nb : b ≠ p := fun z => by rw [z, hp] at hb; cases hb
      rw [upd_ne nb]
      exact k' b o (by rw [upd_ne nb]; exact hb) n nt
    · have nb : b ≠ p := fun z => ok.notin hp (by rw [← z]; exact hb)
      rw [upd_ne nb]
      exact ok'.there b (List.mem_cons_of_mem _ hb)
    · obtain ⟨g1, g2, g3⟩ := ok'.draw a l e
      exact ⟨(ok.draw a l e).1, (ok.draw a l e).2.1, Dw.Src.put g3 (fun z => np l (by rw [z]; exact e)) (fun z => g2 (by rw [← z]; exact List.mem_cons_self))⟩
/-! ### {k: v for ..} -/
def dcM (tg : Tg) (B : List SD → M Bool) (Tk Tv : List SD → M SD) (ρ : List SD) : List SD → List (Key × PyData) → M (List (Key × PyData))
  | [], acc => pure acc
  | x :: r, acc => do
    let ρ1 ← M.lift (kOf tg x ρ)
    let b ← M.calm (B ρ1)
    if b then do
      let y ← M.calm (Tk ρ1)
      let kd ← M.lift (asD y)
      let kk ← M.lift (keyOf kd)
      let z ← M.calm (Tv ρ1)
      let d ← M.lift (asD z)
      M.when (szOk (acc.length + 1)) (dcM tg B Tk Tv ρ r (putD acc kk d))
    else dcM tg B Tk Tv ρ r acc
/-! ### min, max -/
def pickD (mx : Bool) : List PyData → Option PyData
  | [] => none
  | x :: xs => some (if mx then PySem.W.maxD x xs else PySem.W.minD x xs)
end
end Dd
/-! DwD15 -/
/-! min and max, get, is, sets -/
namespace Dd
open PySem PySem.Spec PyProof.Rows L2
section
variable {X : Cx}
/-! ### min(xs), max(xs) -/
def rPick (mx : Bool) (K : PySem.W.Frag) : List V → Hp → VK → Prop := fun vs H Q => ∃ (a : Addr) (ws : List V) (x : PyData) (xs : List PyData), vs = [.ref a] ∧ SqL K H a ws ∧ DpAll K H ws (x :: xs) ∧ PySem.W.AlikeAll (x :: xs) ∧ PyData.canLayAll0 (x :: xs) = true ∧ PyData.depthAll (x :: xs) ≤ 30 ∧
  ∀ (i : Nat) (w : V), ws[i]? = some w → (x :: xs)[i]? = some (if mx then PySem.W.maxD x xs else PySem.W.minD x xs) → Q w H
theorem vals_get' : ∀ {xs : List V} {us : List Value} {i : Nat} {u : Value}, Vals xs us → us[i]? = some u → ∃ x, xs[i]? = some x ∧ RelV x u
  | _, _, _, _, .nil, e => by simp at e
  | _, _, 0, _, .cons r _, e => by simp at e; subst e; exact ⟨_, rfl, r⟩
  | _, _, i + 1, x, .cons _ t, e => by
    obtain ⟨u, h1, h2⟩ := vals_get' (i := i) t (by simpa using e)
    exact ⟨u, by simpa using h1, h2⟩
theorem dps_at {K : PySem.W.Frag} {H : Hp} : ∀ {ds : List PyData} {vs : List V} {i : Nat} {v : V}, DpAll K H vs ds → vs[i]? = some v → ∃ d, ds[i]? = some d ∧ Dp K H v d
  | _, _, _, _, .nil, e => by simp at e
  | _, _, 0, _, .cons h _, e => by simp at e; subst e; exact ⟨_, rfl, h⟩
  | _, _, i + 1, _, .cons _ t, e => by
    obtain ⟨d, h1, h2⟩ := dps_at (i := i) t (by simpa using e)
    exact ⟨d, by simpa using h1, h2⟩
theorem lay_at : ∀ {ds : List PyData} {i : Nat} {d : PyData}, PyData.canLayAll0 ds = true → ds[i]? = some d → d.canLay0 = true
  | [], _, _, _, e => by simp at e
  | x :: xs, 0, _, c, e => by
    have c' : x.canLay0 = true ∧ PyData.canLayAll0 xs = true := by simpa [PyData.canLayAll0] using c
    simp at e; subst e; exact c'.1
  | x :: xs, i + 1, _, c, e => by
    have c' : x.canLay0 = true ∧ PyData.canLayAll0 xs = true := by simpa [PyData.canLayAll0] using c
    exact lay_at (i := i) c'.2 (by simpa using e)
theorem cr_pick (mx : Bool) {k : Nat} (room : Room k X.A) (hc : X.calm = true) : CallR X (.builtin (if mx then "max" else "min")) (rPick mx X.K) := by
  intro pins s σ H vs us Q J r h
  obtain ⟨a, ws, x, xs, rfl, hs, hd, al, cl, dp, q⟩ := h
  obtain ⟨its, rv, hl, hz⟩ := J.list hs
  rw [Vals.ref1 r]
  obtain ⟨as, hr⟩ := Dp.readsAll J (x :: xs) ws its hd rv
  have hu := room.units
  have fin : ∀ (i : Nat) (v : Value) (h' : Heap) (tk : Nat) (bs : List Addr) (m : PyData), its.toArray[i]? = some v → Reads h' v m bs → m = (if mx then PySem.W.maxD x xs else PySem.W.minD x xs) → (∀ b o, s.heap.get? b = some o → h'.get? b = some o) → EP X pins σ Q v { s with heap := h', toks := tk } := by
    intro i v h' tk bs m hi hm em kp
    have hi' : its[i]? = some v := by simpa using hi
    obtain ⟨w, hw, rw'⟩ := vals_get' rv hi'
    obtain ⟨d, hd1, hd2⟩ := dps_at hd hw
    obtain ⟨bs', hr'⟩ := Dp.reads J d w v hd2 rw'
    have e := SeqAt.Reads.unique d m v bs' bs (lay_at cl hd1) (Reads.keeps kp hr') hm
    subst e
    exact ⟨w, H, J.kept kp, rw', q i w hw (by rw [hd1, em])⟩
  cases mx with
  | true => exact PySem.W.max_list_data (J.ok.hd hc) hl.isList (by simpa using hr) al (by omega) fun i v h' tk bs hi hm kp => fin i v h' tk bs _ hi hm rfl kp
  | false => exact PySem.W.min_list_data (J.ok.hd hc) hl.isList (by simpa using hr) al (by omega) fun i v h' tk bs hi hm kp => fin i v h' tk bs _ hi hm rfl kp

def bPick (mx : Bool) : List SD → M SD
  | [.d (.list (x :: xs))] => do M.need (PySem.W.AlikeAll (x :: xs) ∧ PyData.canLayAll0 (x :: xs) = true ∧ PyData.depthAll (x :: xs) ≤ 30); pure (.d (if mx then PySem.W.maxD x xs else PySem.W.minD x xs))
  | [.d (.int i), .d (.int j)] => pure (dI (if mx then (if j > i then j else i) else (if j < i then j else i)))
  | _ => M.fail
theorem br_pick (mx : Bool) {k : Nat} (room : Room k X.A) (hc : X.calm = true) : BR X (.builtin (if mx then "max" else "min")) (bPick mx) := by
  have two : CallR X (.builtin (if mx then "max" else "min")) (fun xs H Q => ∃ i j, xs = [.int i, .int j] ∧ Q (.int (if mx then (if j > i then j else i) else (if j < i then j else i))) H) := by
    cases mx with
    | true => exact call_max2 hc
    | false => exact call_min2 hc
  refine ⟨_, (cr_pick mx room hc).or two, fun {W H vs xs Q E} ok r h => ?_⟩
  unfold bPick at h
  split at h
  · rename_i x xs
    obtain ⟨v, rfl, r1⟩ := pair1 r
    obtain ⟨⟨al, cl, dp⟩, q⟩ := h
    cases r1 with | lst l t =>
    refine .inl ⟨_, _, x, xs, rfl, l.sq, RpAll.dp cl t, al, cl, dp, fun i w hw he => ?_⟩
    obtain ⟨d, h1, h2⟩ := t.get' hw
    rw [he] at h1
    cases h1
    exact Post.here (K := X.K) ok q h2
  · obtain ⟨v, w, rfl, r1, r2⟩ := pair2 r
    cases r1; cases r2
    exact .inr ⟨_, _, rfl, Post.here (K := X.K) ok h (.int _)⟩
  · exact h.elim
/-! ### is True -/
def gIsB : SD → SD → Option SD
  | .d (.bool a), .d (.bool b) => some (dB (decide (a = b)))
  | .d x, .d .none => some (dB (isNone (.d x)))
  | _, _ => none
theorem c_isB : CmpR X .Is gIsB := by
  refine ⟨_, op_isN.or op_is_bl, fun {W H v w x y z Q} ok r1 r2 h q => ?_⟩
  unfold gIsB at h
  split at h
  · cases r1; cases r2; cases h
    exact .inr ⟨_, _, rfl, rfl, q.here ok (.bl _)⟩
  · cases r2; cases h
    refine .inl ⟨rfl, ?_⟩
    rw [isNone_rep r1]
    exact q.here ok (.bl _)
  · cases h
end
section
variable {X : Cx} {EX : L2.St → XK} {e e2 o : Expr} {es : List Expr} {x : Str} {pos p p2 q2 apos cpos : Pos} {T T2 T3 : List SD → M SD}
/-! ### len(set(xs)), at most one text -/
def lenSetD : SD → Option Int
  | .d (.list []) => some 0
  | .d (.tuple []) => some 0
  | .d (.list [.str _]) => some 1
  | .d (.tuple [.str _]) => some 1
  | _ => none
theorem de_lenSet1 (hc : X.calm = true) (hg : Gl X "len") (hm : X.mg "len" = none) (hg2 : Gl X "set") (hm2 : X.mg "set" = none) (ha : DE X EX e T) (na : starEach [e] X.env = (false, eval e X.env) :: starEach [] X.env := by rfl) :
    DE X EX (.Call (.Name "len" p) [.Call (.Name "set" p2) [e] [] q2] [] pos) (fun ρ => do let x ← T ρ; let n ← M.lift (lenSetD x); pure (dI n)) := by
  refine pe_imp (pe_lenSet hc hg hm hg2 hm2 ha na) fun σ H Q ⟨W, ρ, ok, rel, h⟩ => ?_
  refine ⟨W, ρ, ok, rel, (T ρ).mono (fun x h1 v H1 k1 ok1 r1 => ?_) (fun e h => h) h⟩
  obtain ⟨z, hz, q⟩ := run_lift.mp h1
  unfold lenSetD at hz
  split at hz
  · cases hz
    cases r1 with | lst l t => cases t; exact ⟨_, [], rfl, .inl l.sq, by decide, q _ H1 k1 ok1 (.int _)⟩
  · cases hz
    cases r1 with | tup l t => cases t; exact ⟨_, [], rfl, .inr l, by decide, q _ H1 k1 ok1 (.int _)⟩
  · rename_i z
    cases hz
    cases r1 with | lst l t => cases t with | cons h t => cases t; cases h; exact ⟨_, [z], rfl, .inl l.sq, Nat.le_refl 1, q _ H1 k1 ok1 (.int _)⟩
  · rename_i z
    cases hz
    cases r1 with | tup l t => cases t with | cons h t => cases t; cases h; exact ⟨_, [z], rfl, .inr l, Nat.le_refl 1, q _ H1 k1 ok1 (.int _)⟩
  · cases hz
/-! ### d.get(k), d.get(k, x) -/
def getD1 : SD → SD → Option SD
  | .d (.dict ds), .d k => (keyOf k).map fun q => .d ((valD ds q).getD .none)
  | _, _ => none
def getD2 : SD → SD → SD → Option SD
  | .d (.dict ds), .d k, .d z => (keyOf k).map fun q => .d ((valD ds q).getD z)
  | _, _, _ => none
def isDict : SD → Bool
  | .d (.dict _) => true
  | _ => false
theorem get_rp {K : PySem.W.Frag} {S : List Addr} {H : Hp} {kvs : List (Key × V)} {ds : List (PyData × PyData)} {q : Key} {z : V} {zd : PyData} (t : RpKV K S H kvs ds) (rz : Rp K S H z zd) : Rp K S H ((valV kvs q).getD z) ((valD ds q).getD zd) := by
  have h := valD_rp (q := q) t
  cases e : valD ds q with
  | none => rw [e] at h; have h : valV kvs q = none := h; rw [h]; exact rz
  | some d => rw [e] at h; obtain ⟨v, h1, h2⟩ := h; rw [h1]; exact h2
theorem de_get1 {k : Nat} (room : Room k X.A) (ho : DE X EX o T) (he : DE X EX e T2) (m : M1 X o "get" apos e cpos) : DE X EX (.Call (.Attribute o "get" apos) [e] [] cpos) (fun ρ => do let x ← T ρ; M.when (isDict x) (do let y ← T2 ρ; M.lift (getD1 x y))) := by
  refine pe_imp (pe_dget1 (hu_of room) ho he m) fun σ H Q ⟨W, ρ, ok, rel, h⟩ => ?_
  refine ⟨W, ρ, ok, rel, (T ρ).mono (fun x h1 v H1 k1 ok1 r1 => ?_) (fun e h => h) h⟩
  obtain ⟨c, h1⟩ := run_when.mp h1
  cases x with
  | d x =>
    cases x with
    | dict ds =>
      cases r1 with | dct l n t =>
      refine ⟨_, rfl, .inl ⟨_, l⟩, W, ρ, ok1, rel.keep ok k1, (T2 ρ).mono (fun y h2 w H2 k2 ok2 r2 => ?_) (fun e h => XP.trans ok k1 ok1 h) h1⟩
      obtain ⟨z, hz, q⟩ := run_lift.mp h2
      cases y with
      | d y =>
        obtain ⟨kk, hk, rfl⟩ := Option.map_eq_some_iff.mp hz
        obtain rfl := keyOf_rp r2 hk
        have st := k2.stp ok1
        exact ⟨_, .inl ⟨_, kk, (st.rd nt_dK l n).1, rfl, rfl⟩, q _ H2 (k1.trans k2) ok2 (get_rp (RpKV.step st t) .non)⟩
      | _ => cases hz
    | _ => cases c
  | _ => cases c
theorem de_get2 {k : Nat} {e3 : Expr} (room : Room k X.A) (ho : DE X EX o T) (he : DE X EX e T2) (h3 : DE X EX e3 T3) (m : M2 X o "get" apos e e3 cpos) : DE X EX (.Call (.Attribute o "get" apos) [e, e3] [] cpos) (fun ρ => do let x ← T ρ; M.when (isDict x) (do let y ← T2 ρ; let z ← T3 ρ; M.lift (getD2 x y z))) := by
  refine pe_imp (pe_dget2 (hu_of room) ho he h3 m) fun σ H Q ⟨W, ρ, ok, rel, h⟩ => ?_
  refine ⟨W, ρ, ok, rel, (T ρ).mono (fun x h1 v H1 k1 ok1 r1 => ?_) (fun e h => h) h⟩
  obtain ⟨c, h1⟩ := run_when.mp h1
  cases x with
  | d x =>
    cases x with
    | dict ds =>
      cases r1 with | dct l n t =>
      refine ⟨_, rfl, .inl ⟨_, l⟩, W, ρ, ok1, rel.keep ok k1, (T2 ρ).mono (fun y h2 w H2 k2 ok2 r2 => ?_) (fun e h => XP.trans ok k1 ok1 h) h1⟩
      have k12 := k1.trans k2
      refine ⟨W, ρ, ok2, (rel.keep ok k1).keep ok1 k2, (T3 ρ).mono (fun z h4 u H3 k3 ok3 r3 => ?_) (fun e h => XP.trans ok k12 ok2 h) h2⟩
      obtain ⟨zz, hz, q⟩ := run_lift.mp h4
      cases y with
      | d y =>
        cases z with
        | d z =>
          obtain ⟨kk, hk, rfl⟩ := Option.map_eq_some_iff.mp hz
          obtain rfl := keyOf_rp r2 hk
          have st := (k2.stp ok1).trans (k3.stp ok2)
          exact ⟨_, .inl ⟨_, kk, (st.rd nt_dK l n).1, rfl, rfl⟩, q _ H3 (k12.trans k3) ok3 (get_rp (RpKV.step st t) r3)⟩
        | _ => cases hz
      | _ => cases hz
    | _ => cases c
  | _ => cases c
/-! ### D.get(e), D a dict of the module, by the words that are asked -/
def GetK (K : PySem.W.Frag) (w : World) (d : Addr) (tbl : List (Str × PyData)) : Prop := (∃ es n, KDict K w d es n) ∧ ∀ z y, tbl.lookup z = some y → ∃ r : Option Value, PySem.W.nsIn K d z = some r ∧ ∃ v : V, RelV v (r.getD .none) ∧ ∀ S H, Rp K S H v y
def getKD (tbl : List (Str × PyData)) : SD → Option SD
  | .d (.str z) => (tbl.lookup z).map .d
  | _ => none
theorem de_getK {d : Addr} {tbl : List (Str × PyData)} (G : GetK X.K X.w d tbl) (hg : Gl X x) (hm : X.mg x = some (.ref d)) (he : DE X EX e T) (m : M1 X (.Name x p) "get" apos e cpos) (hd : (x == ("__debug__" : Str)) = false := by decide) :
    DE X EX (.Call (.Attribute (.Name x p) "get" apos) [e] [] cpos) (fun ρ => do let y ← T ρ; M.lift (getKD tbl y)) := by
  obtain ⟨⟨es, n, D⟩, hT⟩ := G
  refine ⟨fun pins s σ H Q I ⟨W, ρ, ok, rel, h⟩ => ?_⟩
  refine wpAny_Call_method m.base m.few m.line PySem.F.plainAttrs_dict PySem.F.slot_dict_get PySem.F.type_dict_get (ld_glob I hg hm ?_ hd)
  have mp := PySem.W.mapOf_K (prog := X.prog) (w := X.w) I.kIn D.at_ D.lit
  refine ⟨mp.typeIs, mp.noDict, ?_⟩
  rw [m.trees]
  have run := he.run pins s σ H (fun v H1 => ∃ y, (M.lift (getKD tbl y)).run (Post X.K W H Q) (XP X.K W H (EX σ)) ∧ Kp W H H1 ∧ W.Ok H1 ∧ RV X.K W H1 v y) I ⟨W, ρ, ok, rel, (T ρ).mono (fun y q v H1 k1 ok1 r1 => ⟨y, q, k1, ok1, r1⟩) (fun _ z => z) h⟩
  refine Calls.callWith_builtin rfl (Calls.evalArgs_plain (Calls.spliced_cons (thn run fun iv s2 ⟨v, H1, I1, rv, y, q, k1, ok1, r1⟩ => Calls.spliced_nil ?_)))
  obtain ⟨z, hz, q⟩ := run_lift.mp q
  cases y with
  | d y =>
    cases y with
    | str zz =>
      obtain ⟨y, hy, rfl⟩ := Option.map_eq_some_iff.mp hz
      obtain ⟨r, e1, v2, e2, e3⟩ := hT zz y hy
      cases r1
      obtain ⟨t, rfl⟩ := rv
      have mp2 := PySem.W.mapOf_K (prog := X.prog) (w := X.w) I1.kIn D.at_ D.lit
      refine call_meetsIn PySem.F.slot_dict_get mp2.typeIs PySem.F.entry_dict_get (PySem.F.args_dict_get_2 _ _) (meets_dict_get (PySem.strKind X.prog X.w) d (PySem.strKind_is X.prog X.w zz t) D.low) ⟨_, mp2, ?_⟩
      rw [PySem.W.find_K D.at_ e1]
      exact ⟨v2, H1, I1.tok _, e2, q v2 H1 k1 ok1 (e3 _ _)⟩
    | _ => cases hz
  | _ => cases hz
end
end Dd
/-! DwD16 -/
/-! dict comprehensions -/
namespace Dd
open PySem PySem.Spec PyProof.Rows L2
section
variable {X : Cx} {EX : L2.St → XK} {kx vx tg iter : Expr} {ifs : List Expr} {scope : Scope} {own : List (Str × Nat)} {pos : Pos} {Ti : List SD → M (List SD)} {B : List SD → M Bool} {Tk Tv : List SD → M SD} {t : Tg}
/-- the making of a dict at D -/
structure DcI (K : PySem.W.Frag) (W : Wd) (D : Addr) (H1 : Hp) (σ : L2.St) (ρ : List SD) (H' : Hp) (kvs : List (Key × V)) (ds : List (Key × PyData)) : Prop where
  ok : (W.add D).Ok H'
  rel : Rel K (W.add D) H' σ ρ
  kp : Kp W H1 H'
  stp : Stp W.S (W.add D).S H1 H'
  at_ : H' D = some (.dK kvs)
  rep : PKV K (W.add D).S H' kvs ds
theorem pkv_step {K : PySem.W.Frag} {S S' : List Addr} {H H' : Hp} (s : Stp S S' H H') {kvs : List (Key × V)} {ds : List (Key × PyData)} (h : PKV K S H kvs ds) : PKV K S' H' kvs ds := paired_mono (fun _ _ z => ⟨z.1, Rp.step s z.2⟩) h
theorem DcI.next {K : PySem.W.Frag} {W : Wd} {D : Addr} {H1 H2 H4 : Hp} {σ : L2.St} {ρ : List SD} {kvs kvs' : List (Key × V)} {ds ds' : List (Key × PyData)} (i : DcI K W D H1 σ ρ H2 kvs ds) (hD : H1 D = none) (nD : ∀ l, W.src ≠ some (D, l)) (hk : Kp (W.add D) H2 H4 ∨ ∃ H5 o, Kp (W.add D) H2 H5 ∧ H4 = upd H5 D o)
    (hown : OwnOld H1 σ ρ) (ok4 : (W.add D).Ok H4) (hD4 : H4 D = some (.dK kvs')) (t4 : PKV K (W.add D).S H4 kvs' ds') : DcI K W D H1 σ ρ H4 kvs' ds' := by
  have st24 : Stp (W.add D).S (W.add D).S H2 H4 := by
    rcases hk with hk4 | ⟨H5, o, hk5, rfl⟩
    · exact hk4.stp i.ok
    · refine (hk5.stp i.ok).trans ⟨fun b o' hb _ c => ?_, fun b h => .inl h⟩
      rw [upd_ne]
      · exact hb
      · intro z
        subst z
        rcases c with c | c
        · exact c List.mem_cons_self
        · rw [hk5 b _ i.at_ nD nt_dK] at hb; cases hb; exact c
  have kp24 : ∀ b o, b ≠ D → H2 b = some o → (∀ l, W.src ≠ some (b, l)) → NT o → H4 b = some o := fun b o nb h2 n nt => by
    rcases hk with hk4 | ⟨H5, o5, hk5, rfl⟩
    · exact hk4 b o h2 n nt
    · rw [upd_ne nb]; exact hk5 b o h2 n nt
  refine ⟨ok4, ⟨i.rel.len, fun j z ej n => ?_, i.rel.sep, i.rel.tab⟩, fun b o hb n nt => ?_, i.stp.trans st24, hD4, t4⟩
  · obtain ⟨v, g1, g2⟩ := i.rel.get j z ej n
    refine ⟨v, g1, ?_⟩
    cases z with
    | no => trivial
    | d x => exact Rp.step st24 g2
    | src => exact g2
    | ty n => exact g2
    | own ds =>
      obtain ⟨q2, xs, rfl, m2, ns2, hq2, t2⟩ := g2
      obtain ⟨o, ho⟩ := hown j _ q2 ej rfl g1
      exact ⟨q2, xs, rfl, m2, ns2, kp24 q2 _ (fun z => by rw [z, hD] at ho; cases ho) hq2 ns2 nt_lst, RpAll.step st24 t2⟩
    | ownD ds =>
      obtain ⟨q2, xs, rfl, m2, ns2, hq2, t2⟩ := g2
      obtain ⟨o, ho⟩ := hown j _ q2 ej rfl g1
      exact ⟨q2, xs, rfl, m2, ns2, kp24 q2 _ (fun z => by rw [z, hD] at ho; cases ho) hq2 ns2 nt_dK, pkv_step st24 t2⟩
  · exact kp24 b o (fun z => by rw [z, hD] at hb; cases hb) (i.kp b o hb n nt) n nt
/-- what a dict comprehension makes -/
def PostK (K : PySem.W.Frag) (W : Wd) (H : Hp) (Q : VK) (ds : List (Key × PyData)) : Prop := ∀ p kvs H', Kp W H H' → (W.add p).Ok H' → Fr0 H p → H' p = some (.dK kvs) → PKV K (W.add p).S H' kvs ds → Q (.ref p) H'
theorem PostK.of {K : PySem.W.Frag} {W : Wd} {H : Hp} {Q : VK} {ds : List (Key × PyData)} (ok0 : W.Ok H) (q : Post K W H Q (.d (dictOf ds))) : PostK K W H Q ds := fun p kvs H' k ok hp e r =>
  q _ H' k (add_back ok0 hp ok) (.dct (.inl e) (ok0.notinF hp) (pkv_kv (pkv_step ⟨fun _ _ h _ _ => h, fun b h => .inl (List.mem_cons_of_mem _ h)⟩ r)))
theorem dc_imp (hin : tgIn t (own.map (·.2)) = true) (σ : L2.St) (H : Hp) (Q : VK) (W : Wd) (ρ : List SD) (ok : W.Ok H) (rel : Rel X.K W H σ ρ) (h : (do let its ← Ti ρ; dcM t B Tk Tv (wipeD ρ (own.map (·.2))) its [] : M (List (Key × PyData))).run (PostK X.K W H Q) (XP X.K W H (EX σ))) :
    tDc (dti X.K EX Ti) (gOf X.K t) (dtt X.K (fun _ => E0) B) (dt X.K (fun _ => E0) Tk) (dt X.K (fun _ => E0) Tv) (own.map (·.2)) σ H Q := by
  refine ⟨W, ρ, ok, rel, (Ti ρ).mono (fun its q J H1 k1 ok1 w D hD => ?_) (fun _ z => z) h⟩
  obtain ⟨G, Y, walk, hG, hY⟩ := w
  generalize hvs : own.map (·.2) = vs at *
  have nD : ∀ l, W.src ≠ some (D, l) := fun l z => by
    obtain ⟨o, e, _⟩ := ok1.there D (ok1.draw D l z).1
    rw [hD] at e; cases e
  have kD : Kp W H1 (upd H1 D (.dK [])) := Kp.same (Dw.same_new hD)
  have okD : (W.add D).Ok (upd H1 D (.dK [])) := add_ok ok1 hD ⟨(fun z => z), nt_dK⟩
  have hn0 : Fr0 H D := k1.free ok (Fr0.of hD) ok1
  have rel1 := rel.keep ok k1
  have old : OwnOld H1 (L2.wipe σ vs) (wipeD ρ vs) := (OwnOld.of rel1).wipe vs
  refine ⟨fun i m H' => m = its.length - i ∧ i ≤ its.length ∧ ∃ kvs acc, DcI X.K W D H1 (L2.wipe σ vs) (wipeD ρ vs) H' kvs acc ∧ (dcM t B Tk Tv (wipeD ρ vs) (its.drop i) acc).run (PostK X.K W H Q) (XP X.K W H (EX σ)), ⟨its.length, by simp, Nat.zero_le _, [], [], ⟨okD, ?_, kD, add_stp ok1 kD hD, upd_same, .nil⟩, q⟩, ?_⟩
  · exact (⟨rel1.len, fun i x e n => let ⟨v, h1, h2⟩ := rel1.get i x e n; ⟨v, h1, RV.add ok1 kD hD h2⟩, rel.sep, rel.tab⟩ : Rel X.K (W.add D) _ σ ρ).wipe vs
  rintro i m H' ⟨rfl, hi, kvs, acc, I, run⟩
  have gH := hG _ H' I.stp
  by_cases lt : i < its.length
  · refine .inr ⟨walk.goes i H' lt gH, fun H2 => i + 1 ≤ its.length ∧ ∃ kvs acc, DcI X.K W D H1 (L2.wipe σ vs) (wipeD ρ vs) H2 kvs acc ∧ (dcM t B Tk Tv (wipeD ρ vs) (its.drop (i + 1)) acc).run (PostK X.K W H Q) (XP X.K W H (EX σ)), fun H2 ⟨h1, h2⟩ => ⟨its.length - (i + 1), by omega, rfl, h1, h2⟩, fun x H2 y => ?_⟩
    obtain ⟨sm, it, e1, rv, no⟩ := hY i (W.add D) H' x H2 I.stp I.ok (walk.yields i H' x H2 lt gH y) lt
    have e2 : its.drop i = it :: its.drop (i + 1) := by
      obtain ⟨lt', e3⟩ := List.getElem?_eq_some_iff.mp e1
      rw [List.drop_eq_getElem_cons lt', e3]
    rw [e2] at run
    obtain ⟨ρ1, hk, run⟩ := run_lift.mp run
    have kk : Kp (W.add D) H' H2 := Kp.same sm
    have ok2 := I.ok.same sm
    have I2 := I.next hD nD (.inl kk) old ok2 (sm _ _ I.at_) (pkv_step (kk.stp I.ok) I.rep)
    refine tg_lc I2.rel old hin rv hk fun σ2 rel2 old2 ew => ⟨by rw [ew]; exact wipe_wipe σ vs vs (fun _ h => h), ?_⟩
    refine ⟨W.add D, ρ1, ok2, rel2, (B ρ1).mono (fun b q H3 k3 ok3 => ?_) (fun _ z => z.elim) run⟩
    have I3 := I2.next hD nD (.inl k3) old ok3 (k3 D _ I2.at_ nD nt_dK) (pkv_step (k3.stp ok2) I2.rep)
    cases b with
    | false => exact ⟨lt, kvs, acc, I3, q⟩
    | true =>
      have rel3 := rel2.keep ok2 k3
      refine ⟨W.add D, ρ1, ok3, rel3, (Tk ρ1).mono (fun y q v H4 k4 ok4 r4 => ?_) (fun _ z => z.elim) q⟩
      obtain ⟨kd, hkd, q⟩ := run_lift.mp q
      obtain rfl := asD_eq hkd
      obtain ⟨kk', hkk, q⟩ := run_lift.mp q
      obtain rfl := keyOf_rp r4 hkk
      have I4 := I3.next hD nD (.inl k4) old ok4 (k4 D _ I3.at_ nD nt_dK) (pkv_step (k4.stp ok3) I3.rep)
      refine ⟨W.add D, ρ1, ok4, rel3.keep ok3 k4, (Tv ρ1).mono (fun y q v H5 k5 ok5 r5 => ?_) (fun _ z => z.elim) q⟩
      obtain ⟨d, hd, q⟩ := run_lift.mp q
      obtain rfl := asD_eq hd
      obtain ⟨sz, q⟩ := run_when.mp q
      have I5 := I4.next hD nD (.inl k5) old ok5 (k5 D _ I4.at_ nD nt_dK) (pkv_step (k5.stp ok4) I4.rep)
      have ne : ∀ b o', H5 b = some o' → b ∉ (W.add D).S ∨ Fix o' → b ≠ D := fun b o' hb c z => by
        subst z
        rcases c with c | c
        · exact c List.mem_cons_self
        · rw [I5.at_] at hb; cases hb; exact c
      have st : Stp (W.add D).S (W.add D).S H5 (upd H5 D (.dK (putK kvs kk' v))) := ⟨fun b o' hb _ c => by rw [upd_ne (ne b o' hb c)]; exact hb, fun b h => .inl h⟩
      refine ⟨kvs, kk', rfl, I5.at_, szOk.lt (by rw [Paired.length I5.rep]; exact sz), lt, _, putD acc kk' d, I5.next hD nD (.inr ⟨H5, _, Kp.refl _ _, rfl⟩) old ⟨fun b h => ?_, fun a l e => ?_, tabs_upd ok5.tabs I5.at_ nt_dK (fun _ z => nomatch z)⟩ upd_same (pkv_put (Rp.step st r5) (pkv_step st I5.rep)), q⟩
      · by_cases z : b = D
        · subst z; exact ⟨_, upd_same, fun z => z, nt_dK⟩
        · rw [upd_ne z]; exact ok5.there b h
      · obtain ⟨g1, g2, g3⟩ := ok5.draw a l e
        exact ⟨g1, g2, Dw.Src.put g3 (fun z => nD l (by rw [z]; exact e)) (fun z => g2 (by rw [← z]; exact List.mem_cons_self))⟩
  · have e : i = its.length := by omega
    subst e
    rw [List.drop_length] at run
    exact .inl ⟨walk.stops H' gH, run D kvs H' (k1.trans I.kp) I.ok hn0 I.at_ I.rep⟩
/-- name = {k: v for ..} on one line -/
theorem ds_setDc {E : XK} {i : Nat} {y : Str} {py spos : Pos} (hc : X.calm = true) (hN : X.N.Nodup) (hy : X.N[i]? = some y) (hyl : X.env.scope.names.lookup y = some .local)
    (hsw : swapsWith (.DictComp kx vx [⟨tg, iter, ifs, 0⟩] scope pos) (some (.Name y py)) spos.line X.env = pure true) (hi : DI X (fun _ => E) tg iter Ti) (ok : BlkOk X.N X.env.scope scope own) (hin : tgIn t (own.map (·.2)) = true)
    (hg : ∀ (s : Shared) (H : Hp) (C : Addr) (cl : List (Str × Addr)) (fp : List Addr), PG (X.blk s H scope (compEnvC scope cl C X.env) fp) tg (gOf X.K t)) (ht : ∀ (s : Shared) (H : Hp) (C : Addr) (cl : List (Str × Addr)) (fp : List Addr), DTs (X.blk s H scope (compEnvC scope cl C X.env) fp) ifs B)
    (hk : ∀ (s : Shared) (H : Hp) (C : Addr) (cl : List (Str × Addr)) (fp : List Addr), DE (X.blk s H scope (compEnvC scope cl C X.env) fp) (fun _ => E0) kx Tk)
    (hv : ∀ (s : Shared) (H : Hp) (C : Addr) (cl : List (Str × Addr)) (fp : List Addr), DE (X.blk s H scope (compEnvC scope cl C X.env) fp) (fun _ => E0) vx Tv) (hs : ∀ x, foldedSetIterable iter X.env x = pure x := by intro _; rfl) :
    DS X E (.Assign [.Name y py] (.DictComp kx vx [⟨tg, iter, ifs, 0⟩] scope pos) spos) (fun ρ => do let its ← Ti ρ; let ds ← dcM t B Tk Tv (wipeD ρ (own.map (·.2))) its []; pure (.nx (ρ.set i (.d (dictOf ds))))) := by
  refine ps_imp (Dw.ps_setDc (tt := dtt X.K (fun _ => E0) B) (tk := dt X.K (fun _ => E0) Tk) (tv := dt X.K (fun _ => E0) Tv) hc hN hy hyl hsw hi ok hg ht hk hv hs) fun D σ H ⟨W0, H0, W, ρ, s, h⟩ => ?_
  refine dc_imp (EX := fun _ => E) (Ti := Ti) hin σ H _ W ρ s.ok s.rel (M.mono _ (fun ds q => PostK.of s.ok fun v H' k ok' r => ?_) (fun _ z => s.xp z) h)
  exact q W _ H' (k.stp s.ok) ((s.keep k ok').set r rfl)
end
end Dd
/-! DwD17 -/
/-! return in a def that owns things -/
namespace Dd
open PySem PySem.Spec PyProof.Rows L2
section
variable {X : Cx} {E : XK} {e : Expr} {pos : Pos} {T : List SD → M SD}
theorem SSt.frozen {K : PySem.W.Frag} {W0 W : Wd} {H0 H : Hp} {σ : L2.St} {ρ : List SD} (s : SSt K W0 H0 W H σ ρ) : Rel K W0 H σ (ρ.map frzS) := by
  refine ⟨by rw [List.length_map]; exact s.rel.len, fun i x e n => ?_, fun i j x y p ne e1 e2 o1 o2 s1 => ?_, by rw [← s.tab]; exact s.rel.tab⟩
  · rw [List.getElem?_map] at e
    obtain ⟨y, hy, rfl⟩ := Option.map_eq_some_iff.mp e
    have ny : y ≠ .no := by rintro rfl; exact n rfl
    obtain ⟨v, h3, h4⟩ := s.rel.get i y hy ny
    refine ⟨v, h3, ?_⟩
    cases y with
    | own ds =>
      obtain ⟨p, xs, rfl, m, ns, hp, t⟩ := h4
      exact Rp.lst ⟨hp, s.ok0.notinF (s.own i _ p hy rfl h3)⟩ (RpAll.step (s.back H) t)
    | ownD ds =>
      obtain ⟨p, xs, rfl, m, ns, hp, t⟩ := h4
      exact Rp.dct (.inl hp) (s.ok0.notinF (s.own i _ p hy rfl h3)) (pkv_kv (pkv_step (s.back H) t))
    | no => exact absurd rfl ny
    | d x => exact RV.back s (x := .d x) rfl h4
    | src => exact RV.back s (x := .src) rfl h4
    | ty nm => exact RV.back s (x := .ty nm) rfl h4
  · rw [List.getElem?_map] at e1
    obtain ⟨z, _, rfl⟩ := Option.map_eq_some_iff.mp e1
    rw [frz_own z] at o1; cases o1
theorem ds_retF (h : DE X (fun _ => E) e T) : DS X E (.Return (some e) pos) (fun ρ => do let x ← T (ρ.map frzS); let y ← M.lift (plain x); pure (.rt y)) := by
  refine ps_imp (ps_ret h) fun D σ H ⟨W0, H0, W, ρ, s, h⟩ => ?_
  refine ⟨W0, ρ.map frzS, s.ok0' s.ok, s.frozen, (T _).mono (fun x q v H' k ok r => ?_) (fun _ q => XP.trans s.ok0 s.frm (s.ok0' s.ok) q) h⟩
  obtain ⟨y, hy, q⟩ := run_lift.mp q
  obtain ⟨rfl, no⟩ := plain_eq hy
  exact q v H' (s.frm.trans k) ok r
/-- a dict's display by its pairs -/
structure DP (X : Cx) (EX : L2.St → XK) (pos : Pos) (keys : List (Option Expr)) (values : List Expr) (l : List ((List SD → M SD) × (List SD → M SD))) : Prop where
  pps : PPs X pos keys values (l.map fun p => (dt X.K EX p.1, dt X.K EX p.2))
theorem dp_nil {EX : L2.St → XK} : DP X EX pos [] [] [] := ⟨pps_nil⟩
theorem dp_cons {EX : L2.St → XK} {k v : Expr} {ks : List (Option Expr)} {vs : List Expr} {Tk Tv : List SD → M SD} {l : List ((List SD → M SD) × (List SD → M SD))} (hk : DE X EX k Tk) (hv : DE X EX v Tv) (hr : DP X EX pos ks vs l) : DP X EX pos (some k :: ks) (v :: vs) ((Tk, Tv) :: l) := ⟨pps_cons hk hv hr.pps⟩
theorem de_dictP {EX : L2.St → XK} {keys : List (Option Expr)} {values : List Expr} {l : List ((List SD → M SD) × (List SD → M SD))} (h : DP X EX pos keys values l) (hall : keys.all (·.isSome) = true) (hl : keys.length = values.length) (h0 : keys ≠ []) (h15 : keys.length ≤ 15) (h16 : l.length ≤ 15) :
    DE X EX (.Dict keys values pos) (fun ρ => do let kvs ← pairsT l ρ; M.when (decide (kvs.length ≤ 15)) (pure (.d (dictOf (mergeD [] kvs))))) := de_dict h.pps hall hl h0 h15 h16
end
end Dd
/-! DwD18 -/
/-! a dict comprehension as a value -/
namespace Dd
open PySem PySem.Spec PyProof.Rows L2
section
variable {X : Cx} {EX : L2.St → XK} {kx vx tg iter : Expr} {ifs : List Expr} {scope : Scope} {own : List (Str × Nat)} {pos : Pos} {Ti : List SD → M (List SD)} {B : List SD → M Bool} {Tk Tv : List SD → M SD} {t : Tg}
theorem de_dc (hc : X.calm = true) (hN : X.N.Nodup) (hi : DI X EX tg iter Ti) (ok : BlkOk X.N X.env.scope scope own) (hin : tgIn t (own.map (·.2)) = true)
    (hg : ∀ (s : Shared) (H : Hp) (C : Addr) (cl : List (Str × Addr)) (fp : List Addr), PG (X.blk s H scope (compEnvC scope cl C X.env) fp) tg (gOf X.K t)) (ht : ∀ (s : Shared) (H : Hp) (C : Addr) (cl : List (Str × Addr)) (fp : List Addr), DTs (X.blk s H scope (compEnvC scope cl C X.env) fp) ifs B)
    (hk : ∀ (s : Shared) (H : Hp) (C : Addr) (cl : List (Str × Addr)) (fp : List Addr), DE (X.blk s H scope (compEnvC scope cl C X.env) fp) (fun _ => E0) kx Tk)
    (hv : ∀ (s : Shared) (H : Hp) (C : Addr) (cl : List (Str × Addr)) (fp : List Addr), DE (X.blk s H scope (compEnvC scope cl C X.env) fp) (fun _ => E0) vx Tv) (hs : ∀ x, foldedSetIterable iter X.env x = pure x := by intro _; rfl) :
    DE X EX (.DictComp kx vx [⟨tg, iter, ifs, 0⟩] scope pos) (fun ρ => do let its ← Ti ρ; let ds ← dcM t B Tk Tv (wipeD ρ (own.map (·.2))) its []; pure (.d (dictOf ds))) := by
  refine pe_imp (pe_dc (tt := dtt X.K (fun _ => E0) B) (tk := dt X.K (fun _ => E0) Tk) (tv := dt X.K (fun _ => E0) Tv) hc hN hi ok hg ht hk hv hs) fun σ H Q ⟨W, ρ, ok, rel, h⟩ => ?_
  exact dc_imp (EX := EX) (Ti := Ti) hin σ H Q W ρ ok rel (M.mono _ (fun ds q => PostK.of ok q) (fun _ z => z) h)
/-! int(x) -/
def bInt : List SD → M SD
  | [.d (.int i)] => pure (dI i)
  | [.d (.bool k)] => pure (dI (if k then 1 else 0))
  | _ => M.fail
theorem br_int : BR X (.type "int") bInt := by
  refine ⟨_, call_int1, fun {W H vs xs Q E} ok r h => ?_⟩
  unfold bInt at h
  split at h
  · obtain ⟨v, rfl, r1⟩ := pair1 r
    cases r1
    exact .inl ⟨_, rfl, Post.here (K := X.K) ok h (.int _)⟩
  · obtain ⟨v, rfl, r1⟩ := pair1 r
    cases r1
    exact .inr ⟨_, rfl, Post.here (K := X.K) ok h (.int _)⟩
  · exact h.elim
/-! sorted(dict): its texts in order -/
def keysS : List (PyData × PyData) → Option (List Str)
  | [] => some []
  | (.str k, _) :: r => (keysS r).map (k :: ·)
  | _ => none
/-- the same texts, in order -/
def M.sortedS (ks : List Str) : M (List Str) := ⟨fun P _ => ∀ ys : List Str, ys.Perm ks → PyProof.Rows.sortedS ys = true → P ys, fun h _ p ys h1 h2 => h _ (p ys h1 h2)⟩
def bSorted2 : List SD → M SD
  | [.d (.dict ds)] => do let ks ← M.lift (keysS ds); M.when (decide (ks.length < 64)) (do let ys ← M.sortedS ks; pure (.d (.list (ys.map PyData.str))))
  | xs => bSorted xs
theorem keysS_rp {K : PySem.W.Frag} {S : List Addr} {H : Hp} : ∀ {kvs : List (Key × V)} {ds : List (PyData × PyData)} {ks : List Str}, RpKV K S H kvs ds → keysS ds = some ks → kvs.map (·.1) = ks.map Sum.inr
  | _, _, _, .nil, h => by cases h; rfl
  | (k, v) :: kvs, _, ks, .cons (d := d) (ds := ds) r t, h => by
    cases k with
    | inl i => cases h
    | inr x =>
      have h : (keysS ds).map (x :: ·) = some ks := h
      obtain ⟨l, h1, rfl⟩ := Option.map_eq_some_iff.mp h
      rw [List.map_cons, List.map_cons, keysS_rp t h1]
theorem str_rp {K : PySem.W.Frag} {S : List Addr} {H : Hp} : ∀ ys : List Str, RpAll K S H (ys.map V.str) (ys.map PyData.str)
  | [] => .nil
  | y :: r => .cons (.str y) (str_rp r)
theorem br_sorted2 {k : Nat} (hc : X.calm = true) (hr : Room k X.A) : BR X (.builtin "sorted") bSorted2 := by
  obtain ⟨r1, c1, h1⟩ := br_sorted (X := X) hr
  refine ⟨fun xs H Q => r1 xs H Q ∨ _, fun pins s σ H xs us Q J rv h => h.elim (c1 pins s σ H xs us Q J rv) (call_sortedD hc pins s σ H xs us Q J rv), fun {W H vs xs Q E} ok r h => ?_⟩
  unfold bSorted2 at h
  split at h
  · obtain ⟨v, rfl, rv⟩ := pair1 r
    obtain ⟨ks, hk, h⟩ := run_lift.mp h
    obtain ⟨sz, h⟩ := run_when.mp h
    cases rv with | dct rd n t =>
    exact .inr ⟨_, _, ks, rfl, rd, keysS_rp t hk, of_decide_eq_true sz, fun ys p h1 h2 hp => new_lst ok hp (str_rp ys) (h ys h1 h2)⟩
  · exact .inl (h1 ok r h)
@[simp] theorem sorted2_l (xs : List PyData) : bSorted2 [.d (.list xs)] = bSorted [.d (.list xs)] := rfl
end
end Dd
/-! DwEnd -/
namespace Dd
open PySem PySem.Spec PyProof.Rows L2
section
variable {P : Program} {w : World} {K : PySem.W.Frag} {mg : Str → Option Value} {base : Heap}
/-- a def with defaults -/
theorem ok_defFD {x qual : Str} {st : Stmt} {f : Addr} {fd : FuncData} {dvs : List V} {kws : List (Str × V)} {N ps : List Str} {k n : Nat} {U : List SD → M Out} (F : FunD K x qual (defArgs st) (defBody st) (defScope st) dvs kws f fd) (S : FnScope N ps (defScope st)) (hn : ps.length = n) (hN : n ≤ N.length)
    (hb : ∀ (cdv : Value) (A : Around) (outer : List Env) (s : Shared) (H : Hp) (E : XK), Room k (A.deeper (envOfC qual (defScope st) s.heap.objs.size f cdv)) → DSs (cxOf (L2.CX P w) P w K mg base N qual (defScope st) f cdv A outer s H E) E (defBody st) U) :
    FnOk P w K mg base (L2.CX P w) (k + 1) f fd ps (spX K n (defM N.length U)) := by
  refine F.ok S (fun vs H Q E h => ?_) (fun cdv A outer s H vs Q E hr h => ⟨_, hb cdv A outer s H E hr, ?_⟩)
  · obtain ⟨W, xs, ok, r, _, hl, _⟩ := h
    rw [Paired.length r, hl, hn]
  · obtain ⟨W, xs, ok, r, no, hl, run, tb⟩ := h
    refine ⟨W, H, W, _, ⟨ok, start_rel r (by rw [hl]; exact hN) no tb, rfl, fun _ h => h, Kp.refl W H, fun _ h => .inl h, fun i x p e o _ => ?_, ok, rfl⟩, M.mono _ (fun o q => ?_) (fun _ h => h) run⟩
    · by_cases lt : i < xs.length
      · rw [List.getElem?_append_left lt] at e
        rw [no x (List.mem_of_getElem? e)] at o; cases o
      · rw [List.getElem?_append_right (by omega), List.getElem?_replicate] at e
        split at e
        · cases e; cases o
        · cases e
    · cases o with
      | rt y => exact fun v H' k ok' rv => q v H' k ok' rv
      | nx ρ => exact fun W' σ' H' st s' => q .non H' s'.frm (s'.ok0' s'.ok) .non
      | bk ρ => exact (show False from q).elim
      | ct ρ => exact (show False from q).elim
theorem cx_never {P : Program} : ∀ (w : World) (H : Hp) (s : Shared) (e : Value) (s' : Shared), L2.CX P w [] H s (fun _ _ _ => False) e s' → False := fun w H s e s' h => by
  obtain ⟨_, _, _, _, _, _, _, _, _, _, _, _, h⟩ := h
  exact h
theorem paired_snoc {α β : Type} {R : α → β → Prop} {x : α} {y : β} (r : R x y) : ∀ {xs : List α} {ys : List β}, Paired R xs ys → Paired R (xs ++ [x]) (ys ++ [y])
  | _, _, .nil => .cons r .nil
  | _, _, .cons a b => .cons a (paired_snoc r b)
theorem paired_rev {α β : Type} {R : α → β → Prop} : ∀ {xs : List α} {ys : List β}, Paired R xs ys → Paired R xs.reverse ys.reverse
  | _, _, .nil => .nil
  | _, _, .cons r t => by
    rw [List.reverse_cons, List.reverse_cons]
    exact paired_snoc r (paired_rev t)
theorem vals_rev : ∀ {xs : List V} {us : List Value}, Vals xs us → Vals xs.reverse us.reverse
  | _, _, .nil => .nil
  | _, _, .cons r t => by
    rw [List.reverse_cons, List.reverse_cons]
    exact (vals_rev t).append (.cons r .nil)
/-- two parameters, both by keyword, the second one first -/
theorem kb_rev {x qual a b : Str} {st : Stmt} {f : Addr} {fd : FuncData} (F : Fun K x qual st f fd)
    (h : ∀ (kV doc pm : Value) (an : Option Addr) (cdv ct u v : Value), bindArgs (PySem.W.fnOf x qual (defArgs st) (defBody st) (defScope st) .none kV doc pm an cdv ct) ⟨[], [(b, u), (a, v)]⟩ = pure [(a, v), (b, u)]) :
    KBn K fd [a, b] 0 [b, a] (fun _ ws => ws.reverse) (fun _ zs => zs.reverse) := by
  obtain ⟨oc, od, kV, doc, pm, an, cdv, ct, osl, rfl, lk, hcd⟩ := F.ex
  refine ⟨fun s us ws X l1 l2 => ?_, fun {vs us zs ws} r1 r2 => vals_rev r2⟩
  match us, l1, ws, l2 with
  | [], _, [u, v], _ => exact .of_eq (h kV doc pm an cdv ct u v)
end
end Dd
/-! DwMath -/
namespace Dw
/-! ### the mathematics of reduced fractions -/
theorem gcd_fmod (x y : Int) : Int.gcd y (x.fmod y) = Int.gcd x y := by
  rw [Int.fmod_def, Int.gcd_comm y, Int.mul_comm, Int.gcd_sub_mul_right_left]
theorem fmod_less (x y : Int) (h : y ≠ 0) : (x.fmod y).natAbs < y.natAbs := by
  rcases Int.lt_or_lt_of_ne h with h | h
  · have e : x.fmod y = -((-x).fmod (-y)) := by
      rw [Int.fmod_def, Int.fmod_def, Int.neg_fdiv_neg]
      simp only [Int.neg_mul]
      omega
    have h1 := Int.fmod_nonneg_of_pos (-x) (b := -y) (by omega)
    have h2 := Int.fmod_lt_of_pos (-x) (b := -y) (by omega)
    omega
  · have h1 := Int.fmod_nonneg_of_pos x h
    have h2 := Int.fmod_lt_of_pos x h
    omega
/-- the reduced fraction of n and d -/
def gd (n d : Int) : Int := if d < 0 then -(Int.gcd n d : Int) else (Int.gcd n d : Int)
def rn (n d : Int) : Int := n.fdiv (gd n d)
def rd (n d : Int) : Int := d.fdiv (gd n d)
theorem gd_dvd (n d : Int) : gd n d ∣ n ∧ gd n d ∣ d := by
  have h1 := Int.gcd_dvd_left n d
  have h2 := Int.gcd_dvd_right n d
  unfold gd
  split
  · exact ⟨(Int.neg_dvd).mpr h1, (Int.neg_dvd).mpr h2⟩
  · exact ⟨h1, h2⟩
theorem gd_ne {n d : Int} (h : d ≠ 0) : gd n d ≠ 0 := by
  have h1 : 0 < Int.gcd n d := Int.gcd_pos_of_ne_zero_right n h
  unfold gd
  split <;> omega
theorem gd_abs (n d : Int) : (gd n d).natAbs = Int.gcd n d := by
  unfold gd
  split <;> omega
theorem rn_eq {n d : Int} (h : d ≠ 0) : gd n d * rn n d = n := by
  unfold rn
  rw [Int.fdiv_eq_ediv_of_dvd (gd_dvd n d).1]
  exact Int.mul_ediv_cancel' (gd_dvd n d).1
theorem rd_eq {n d : Int} (h : d ≠ 0) : gd n d * rd n d = d := by
  unfold rd
  rw [Int.fdiv_eq_ediv_of_dvd (gd_dvd n d).2]
  exact Int.mul_ediv_cancel' (gd_dvd n d).2
theorem rd_pos {n d : Int} (h : d ≠ 0) : 0 < rd n d := by
  have e := rd_eq (n := n) h
  have g := gd_ne (n := n) h
  have hs : (d < 0 ∧ gd n d < 0) ∨ (0 < d ∧ 0 < gd n d) := by
    have h1 : 0 < Int.gcd n d := Int.gcd_pos_of_ne_zero_right n h
    unfold gd
    split <;> omega
  rcases hs with ⟨h1, h2⟩ | ⟨h1, h2⟩
  · rcases Int.lt_trichotomy (rd n d) 0 with z | z | z
    · have := Int.mul_pos_of_neg_of_neg h2 z
      omega
    · rw [z, Int.mul_zero] at e
      omega
    · exact z
  · rcases Int.lt_trichotomy (rd n d) 0 with z | z | z
    · have := Int.mul_neg_of_pos_of_neg h2 z
      omega
    · rw [z, Int.mul_zero] at e
      omega
    · exact z
theorem r_gcd {n d : Int} (h : d ≠ 0) : Int.gcd (rn n d) (rd n d) = 1 := by
  have e : Int.gcd (gd n d * rn n d) (gd n d * rd n d) = Int.gcd n d := by rw [rn_eq h, rd_eq h]
  rw [Int.gcd_mul_left, gd_abs] at e
  have h1 : 0 < Int.gcd n d := Int.gcd_pos_of_ne_zero_right n h
  exact Nat.eq_of_mul_eq_mul_left h1 (by rw [e, Nat.mul_one])
theorem r_cross {n d : Int} (h : d ≠ 0) : rn n d * d = n * rd n d := by
  have e1 := rn_eq (n := n) h
  have e2 := rd_eq (n := n) h
  calc rn n d * d = rn n d * (gd n d * rd n d) := by rw [e2]
    _ = (gd n d * rn n d) * rd n d := by rw [← Int.mul_assoc, Int.mul_comm (rn n d)]
    _ = n * rd n d := by rw [e1]
theorem cop_dvd {a b c : Int} (g : Int.gcd a b = 1) (h : b ∣ a * c) : b ∣ c := by
  have h1 : b.natAbs ∣ a.natAbs * c.natAbs := by
    rw [← Int.natAbs_mul]
    exact Int.natAbs_dvd_natAbs.mpr h
  have h2 : Nat.Coprime b.natAbs a.natAbs := by
    rw [Nat.coprime_comm]
    exact g
  exact Int.natAbs_dvd_natAbs.mp (h2.dvd_of_dvd_mul_left h1)
/-- what is reduced and equal is the same -/
theorem r_uniq {n d a b : Int} (h : d ≠ 0) (hb : 0 < b) (hg : Int.gcd a b = 1) (hx : a * d = n * b) : rn n d = a ∧ rd n d = b := by
  have p := rd_pos (n := n) h
  have c := r_cross (n := n) h
  have g := r_gcd (n := n) h
  have x : rn n d * b = a * rd n d := by
    have h3 : (rn n d * b) * d = (a * rd n d) * d := by
      calc (rn n d * b) * d = (rn n d * d) * b := by rw [Int.mul_assoc, Int.mul_comm b, ← Int.mul_assoc]
        _ = (n * rd n d) * b := by rw [c]
        _ = (n * b) * rd n d := by rw [Int.mul_assoc, Int.mul_comm (rd n d), ← Int.mul_assoc]
        _ = (a * d) * rd n d := by rw [hx]
        _ = (a * rd n d) * d := by rw [Int.mul_assoc, Int.mul_comm d, ← Int.mul_assoc]
    exact Int.eq_of_mul_eq_mul_right h h3
  have d1 : rd n d ∣ b := by
    have q : rd n d ∣ rn n d * b := ⟨a, by rw [x, Int.mul_comm]⟩
    exact cop_dvd g q
  have d2 : b ∣ rd n d := by
    have q : b ∣ a * rd n d := ⟨rn n d, by rw [← x, Int.mul_comm]⟩
    exact cop_dvd hg q
  have e : rd n d = b := Int.dvd_antisymm (by omega) (by omega) d1 d2
  refine ⟨?_, e⟩
  rw [e] at x
  exact Int.eq_of_mul_eq_mul_right (by omega) x
theorem gcd_le_abs {n d : Int} (h : d ≠ 0) : Int.gcd n d ≤ d.natAbs := Nat.le_of_dvd (by omega) (Int.natCast_dvd_natCast.mp (by
  have := Int.gcd_dvd_right n d
  rw [Int.dvd_natAbs]
  exact this))
theorem abs_if (i : Int) : (if i < 0 then -i else i) = (i.natAbs : Int) := by
  split <;> omega
end Dw
/-! DwM1 -/
/-! reckoning with M -/
namespace Dd
open PySem PySem.Spec PyProof.Rows L2
theorem M.ext {α : Type} {m n : M α} (h : ∀ P E, m.run P E ↔ n.run P E) : m = n := by
  obtain ⟨r1, m1⟩ := m
  obtain ⟨r2, m2⟩ := n
  have e : r1 = r2 := by
    funext P E
    exact propext (h P E)
  subst e
  rfl
theorem pure_bnd {α β : Type} (a : α) (f : α → M β) : ((pure a : M α) >>= f) = f a := rfl
theorem mpure_bnd {α β : Type} (a : α) (f : α → M β) : ((M.pure a : M α) >>= f) = f a := rfl
theorem bnd_assoc {α β γ : Type} (m : M α) (f : α → M β) (g : β → M γ) : ((m >>= f) >>= g) = (m >>= fun a => f a >>= g) := rfl
theorem fail_bnd {α β : Type} (f : α → M β) : ((M.fail : M α) >>= f) = M.fail := rfl
theorem lift_some {α : Type} (a : α) : M.lift (some a) = (pure a : M α) := rfl
theorem lift_none {α : Type} : (M.lift none : M α) = M.fail := rfl
theorem when_true {α : Type} (m : M α) : M.when true m = m := rfl
theorem when_of {α : Type} {b : Bool} (m : M α) (h : b = true) : M.when b m = m := by subst h; rfl
theorem calm_pure {α : Type} (a : α) : M.calm (pure a : M α) = pure a := rfl
theorem calm_bnd {α β : Type} (m : M α) (f : α → M β) : M.calm (m >>= f) = (M.calm m >>= fun a => M.calm (f a)) := rfl
theorem calm_fail {α : Type} : M.calm (M.fail : M α) = M.fail := rfl
theorem calm_any (c : Int) : M.calm (M.anyI c) = M.anyI c := rfl
theorem need_of {p : Prop} (h : p) : M.need p = (pure () : M Unit) := M.ext fun P E => ⟨fun q => q.2, fun q => ⟨h, q⟩⟩
theorem seq_nx (ρ : List SD) (f : List SD → M Out) : seqM (pure (.nx ρ)) f = f ρ := rfl
theorem seq_rt (x : SD) (f : List SD → M Out) : seqM (pure (.rt x)) f = pure (.rt x) := rfl
theorem seq_bnd {α : Type} (m : M α) (g : α → M Out) (f : List SD → M Out) : seqM (m >>= g) f = (m >>= fun a => seqM (g a) f) := rfl
theorem seq_if {c : Prop} [Decidable c] (a b : M Out) (f : List SD → M Out) : seqM (if c then a else b) f = if c then seqM a f else seqM b f := by split <;> rfl
theorem seq_when (b : Bool) (m : M Out) (f : List SD → M Out) : seqM (M.when b m) f = M.when b (seqM m f) := by cases b <;> rfl
theorem seq_seq (m : M Out) (f g : List SD → M Out) : seqM (seqM m f) g = seqM m (fun ρ => seqM (f ρ) g) := M.ext fun P E => by
  constructor
  · intro h
    refine m.mono (fun o q => ?_) (fun _ z => z) h
    cases o <;> exact q
  · intro h
    refine m.mono (fun o q => ?_) (fun _ z => z) h
    cases o <;> exact q
theorem while_go {B : List SD → M Bool} {U : List SD → M Out} {ρ ρ' : List SD} (hb : B ρ = pure true) (hu : U ρ = pure (.nx ρ')) : whileM B U ρ = whileM B U ρ' := M.ext fun P E => by
  constructor
  · rintro ⟨I, ⟨m, i⟩, turn⟩
    have t := turn m ρ i
    rw [hb] at t
    have t : (U ρ).run _ E := t
    rw [hu] at t
    obtain ⟨m', _, i'⟩ := t
    exact ⟨I, ⟨m', i'⟩, turn⟩
  · rintro ⟨I, ⟨m, i⟩, turn⟩
    refine ⟨fun k σ => I k σ ∨ (σ = ρ ∧ ∃ j, j < k ∧ I j ρ'), ⟨m + 1, .inr ⟨rfl, m, Nat.lt_succ_self m, i⟩⟩, ?_⟩
    rintro k σ (h | ⟨rfl, j, lt, h⟩)
    · refine (B σ).mono (fun b q => ?_) (fun _ z => z) (turn k σ h)
      cases b with
      | true =>
        refine (U σ).mono (fun o q => ?_) (fun _ z => z) q
        cases o with
        | nx ρ2 => obtain ⟨m', l, z⟩ := q; exact ⟨m', l, .inl z⟩
        | ct ρ2 => obtain ⟨m', l, z⟩ := q; exact ⟨m', l, .inl z⟩
        | bk ρ2 => exact q
        | rt y => exact q
      | false => exact q
    · rw [hb]
      show (U σ).run _ E
      rw [hu]
      exact ⟨j, lt, .inl h⟩
theorem while_end {B : List SD → M Bool} {U : List SD → M Out} {ρ : List SD} (hb : B ρ = pure false) : whileM B U ρ = pure (.nx ρ) := M.ext fun P E => by
  constructor
  · rintro ⟨I, ⟨m, i⟩, turn⟩
    have t := turn m ρ i
    rw [hb] at t
    exact t
  · intro h
    refine ⟨fun _ σ => σ = ρ, ⟨0, rfl⟩, ?_⟩
    rintro _ _ rfl
    rw [hb]
    exact h
/-- a comprehension whose turns are plain -/
theorem lc_pure {tg : Tg} {B : List SD → M Bool} {T : List SD → M SD} {ρ : List SD} (b : SD → Bool) (f : SD → PyData) : ∀ {its : List SD} {acc : List PyData}, acc.length + its.length ≤ 100000 →
    (∀ x ∈ its, ∃ ρ1, kOf tg x ρ = some ρ1 ∧ M.calm (B ρ1) = pure (b x) ∧ (b x = true → M.calm (T ρ1) = pure (.d (f x)))) → lcM tg B T ρ its acc = pure (acc ++ (its.filter b).map f)
  | [], acc, _, _ => by
    rw [List.filter_nil, List.map_nil, List.append_nil]; rfl
  | x :: r, acc, hl, h => by
    obtain ⟨ρ1, h1, h2, h3⟩ := h x List.mem_cons_self
    have ih := fun acc' (hl' : acc'.length + r.length ≤ 100000) => lc_pure (tg := tg) (B := B) (T := T) (ρ := ρ) b f (its := r) (acc := acc') hl' fun y hy => h y (List.mem_cons_of_mem _ hy)
    rw [List.length_cons] at hl
    show (M.lift (kOf tg x ρ) >>= fun ρ1 => M.calm (B ρ1) >>= fun bb => _) = _
    rw [h1, lift_some, pure_bnd, h2, pure_bnd]
    cases hb : b x with
    | true =>
      rw [if_pos rfl, h3 hb, pure_bnd]
      show (M.lift (some (f x)) >>= fun d => M.when (szOk (acc.length + 1)) (lcM tg B T ρ r (acc ++ [d]))) = _
      rw [lift_some, pure_bnd, when_of _ (show szOk (acc.length + 1) = true from decide_eq_true (by omega)), ih _ (by simp; omega), List.filter_cons_of_pos hb, List.map_cons, List.append_assoc]
      rfl
    | false =>
      rw [if_neg (by decide), ih _ (by omega), List.filter_cons_of_neg (by simp [hb])]
theorem callM_eq {n : Nat} {g : List SD → M SD} {xs : List SD} (hn : xs.length = n) (ho : xs.any isOwn = false) : callM n g xs = g xs := by
  unfold callM
  rw [if_pos hn, ho, if_neg (by decide)]
/-! ### fractions -/
abbrev Fr := Int × Int
def fr (p : Fr) : PyData := .tuple [.int p.1, .int p.2]
abbrev dF (p : Fr) : SD := .d (fr p)
def lessF (p q : Fr) : Bool := decide (p.1 * q.2 < q.1 * p.2)
def isFr (p : Fr) : Bool := decide (1 ≤ p.2) && decide (Int.gcd p.1 p.2 = 1)
/-- of a size that is reckoned with -/
def SmI (i : Int) : Prop := i.natAbs < 2 ^ 2000
def Sm (p : Fr) : Prop := SmI p.1 ∧ SmI p.2
theorem log_le {i : Int} {n : Nat} (h : i.natAbs < 2 ^ n) : i.natAbs.log2 ≤ n := by
  by_cases z : i.natAbs = 0
  · rw [z]; exact Nat.zero_le _
  · exact Nat.le_of_lt ((Nat.log2_lt z).mpr h)
theorem mul_ok {i j : Int} {n m : Nat} (h1 : i.natAbs < 2 ^ n) (h2 : j.natAbs < 2 ^ m) (h : n + m < 1000000) : gMul (dI i) (dI j) = some (dI (i * j)) := by
  have a := log_le h1
  have b := log_le h2
  show (if _ then _ else _) = _
  rw [if_pos (decide_eq_true (by omega))]
theorem mul_lt {i j : Int} {n m : Nat} (h1 : i.natAbs < 2 ^ n) (h2 : j.natAbs < 2 ^ m) : (i * j).natAbs < 2 ^ (n + m) := wide_lt h1 h2
end Dd
/-! DwM2 -/
/-! what simp knows -/
namespace Dd
open PySem PySem.Spec PyProof.Rows L2
@[simp] theorem sp_pure_bnd {α β : Type} (a : α) (f : α → M β) : ((pure a : M α) >>= f) = f a := rfl
@[simp] theorem sp_bnd_assoc {α β γ : Type} (m : M α) (f : α → M β) (g : β → M γ) : ((m >>= f) >>= g) = (m >>= fun a => f a >>= g) := rfl
@[simp] theorem sp_lift_some {α : Type} (a : α) : M.lift (some a) = (pure a : M α) := rfl
@[simp] theorem sp_when_true {α : Type} (m : M α) : M.when true m = m := rfl
@[simp] theorem sp_calm_pure {α : Type} (a : α) : M.calm (pure a : M α) = pure a := rfl
@[simp] theorem sp_calm_bnd {α β : Type} (m : M α) (f : α → M β) : M.calm (m >>= f) = (M.calm m >>= fun a => M.calm (f a)) := rfl
@[simp] theorem sp_calm_any (c : Int) : M.calm (M.anyI c) = M.anyI c := rfl
@[simp] theorem sp_seq_nx (ρ : List SD) (f : List SD → M Out) : seqM (pure (.nx ρ)) f = f ρ := rfl
@[simp] theorem sp_seq_rt (x : SD) (f : List SD → M Out) : seqM (pure (.rt x)) f = pure (.rt x) := rfl
@[simp] theorem sp_seq_bnd {α : Type} (m : M α) (g : α → M Out) (f : List SD → M Out) : seqM (m >>= g) f = (m >>= fun a => seqM (g a) f) := rfl
@[simp] theorem sp_get0 (x : PyData) (r : List SD) : getS (.d x :: r) 0 = some (.d x) := rfl
@[simp] theorem sp_get0s (r : List SD) : getS (.src :: r) 0 = some .src := rfl
@[simp] theorem sp_get0o (x : List PyData) (r : List SD) : getS (.own x :: r) 0 = some (.own x) := rfl
@[simp] theorem sp_getS (x : SD) (r : List SD) (i : Nat) : getS (x :: r) (i + 1) = getS r i := rfl
@[simp] theorem sp_get1 (a : SD) (r : List SD) : getS (a :: r) 1 = getS r 0 := rfl
@[simp] theorem sp_get2 (a b : SD) (r : List SD) : getS (a :: b :: r) 2 = getS r 0 := rfl
@[simp] theorem sp_get3 (a b c : SD) (r : List SD) : getS (a :: b :: c :: r) 3 = getS r 0 := rfl
@[simp] theorem sp_get4 (a b c d : SD) (r : List SD) : getS (a :: b :: c :: d :: r) 4 = getS r 0 := rfl
@[simp] theorem sp_get5 (a b c d e : SD) (r : List SD) : getS (a :: b :: c :: d :: e :: r) 5 = getS r 0 := rfl
@[simp] theorem sp_get6 (a b c d e f : SD) (r : List SD) : getS (a :: b :: c :: d :: e :: f :: r) 6 = getS r 0 := rfl
@[simp] theorem sp_get7 (a b c d e f g : SD) (r : List SD) : getS (a :: b :: c :: d :: e :: f :: g :: r) 7 = getS r 0 := rfl
@[simp] theorem sp_get8 (a b c d e f g h : SD) (r : List SD) : getS (a :: b :: c :: d :: e :: f :: g :: h :: r) 8 = getS r 0 := rfl
@[simp] theorem sp_get9 (a b c d e f g h i : SD) (r : List SD) : getS (a :: b :: c :: d :: e :: f :: g :: h :: i :: r) 9 = getS r 0 := rfl
@[simp] theorem sp_at0 {α : Type} (x : α) (xs : List α) : atI (x :: xs) 0 = some x := by simp [atI, ixN]
@[simp] theorem sp_at1 {α : Type} (x y : α) (xs : List α) : atI (x :: y :: xs) 1 = some y := by
  unfold atI ixN
  rw [if_pos (by omega), if_pos (by simp only [List.length_cons]; omega)]
  rfl
@[simp] theorem sp_at2 {α : Type} (x y z : α) (xs : List α) : atI (x :: y :: z :: xs) 2 = some z := by
  unfold atI ixN
  rw [if_pos (by omega), if_pos (by simp only [List.length_cons]; omega)]
  rfl
@[simp] theorem sp_at3 {α : Type} (x y z w : α) (xs : List α) : atI (x :: y :: z :: w :: xs) 3 = some w := by
  unfold atI ixN
  rw [if_pos (by omega), if_pos (by simp only [List.length_cons]; omega)]
  rfl
@[simp] theorem sp_ixT (xs : List PyData) (i : Int) : gIx (.d (.tuple xs)) (.d (.int i)) = (atI xs i).map SD.d := rfl
@[simp] theorem sp_ixL (xs : List PyData) (i : Int) : gIx (.d (.list xs)) (.d (.int i)) = (atI xs i).map SD.d := rfl
@[simp] theorem sp_ixO (xs : List PyData) (i : Int) : gIx (.own xs) (.d (.int i)) = (atI xs i).map SD.d := rfl
@[simp] theorem sp_ixF0 (p : Fr) : gIx (dF p) (.d (.int 0)) = some (dI p.1) := rfl
@[simp] theorem sp_ixF1 (p : Fr) : gIx (dF p) (.d (.int 1)) = some (dI p.2) := by simp [dF, fr]
@[simp] theorem sp_plain (x : PyData) : plain (.d x) = some (.d x) := rfl
@[simp] theorem sp_plainS : plain .src = some .src := rfl
@[simp] theorem sp_asB (b : Bool) : asB (.d (.bool b)) = some b := rfl
@[simp] theorem sp_asI (i : Int) : asI (.d (.int i)) = some i := rfl
@[simp] theorem sp_asD (x : PyData) : asD (.d x) = some x := rfl
@[simp] theorem sp_truB (b : Bool) : truD (.d (.bool b)) = some b := rfl
@[simp] theorem sp_truI (i : Int) : truD (.d (.int i)) = some (i != 0) := rfl
@[simp] theorem sp_truL (xs : List PyData) : truD (.d (.list xs)) = some (!xs.isEmpty) := rfl
@[simp] theorem sp_add (i j : Int) : gAdd (.d (.int i)) (.d (.int j)) = some (dI (i + j)) := rfl
@[simp] theorem sp_sub (i j : Int) : gSub (.d (.int i)) (.d (.int j)) = some (dI (i - j)) := rfl
@[simp] theorem sp_neg (i : Int) : gNeg (.d (.int i)) = some (dI (-i)) := rfl
@[simp] theorem sp_lt (i j : Int) : gLt (.d (.int i)) (.d (.int j)) = some (dB (decide (i < j))) := rfl
@[simp] theorem sp_le (i j : Int) : gLe (.d (.int i)) (.d (.int j)) = some (dB (decide (i ≤ j))) := rfl
@[simp] theorem sp_gt (i j : Int) : gGt (.d (.int i)) (.d (.int j)) = some (dB (decide (j < i))) := rfl
@[simp] theorem sp_ge (i j : Int) : gGe (.d (.int i)) (.d (.int j)) = some (dB (decide (j ≤ i))) := rfl
@[simp] theorem sp_leS (i j : Str) : gLe (.d (.str i)) (.d (.str j)) = some (dB (!ltS j i)) := rfl
@[simp] theorem sp_abs (i : Int) : bAbs [.d (.int i)] = pure (dI (if i < 0 then -i else i)) := rfl
@[simp] theorem sp_len_l (xs : List PyData) : bLen [.d (.list xs)] = pure (dI xs.length) := rfl
@[simp] theorem sp_len_t (xs : List PyData) : bLen [.d (.tuple xs)] = pure (dI xs.length) := rfl
@[simp] theorem sp_len_o (xs : List PyData) : bLen [.own xs] = pure (dI xs.length) := rfl
@[simp] theorem sp_call1 (g : List SD → M SD) (x : PyData) : callM 1 g [.d x] = g [.d x] := rfl
@[simp] theorem sp_call2 (g : List SD → M SD) (x y : PyData) : callM 2 g [.d x, .d y] = g [.d x, .d y] := rfl
@[simp] theorem sp_call2s (g : List SD → M SD) (y : PyData) : callM 2 g [.src, .d y] = g [.src, .d y] := rfl
@[simp] theorem sp_call3 (g : List SD → M SD) (x y z : PyData) : callM 3 g [.d x, .d y, .d z] = g [.d x, .d y, .d z] := rfl
@[simp] theorem sp_call3s (g : List SD → M SD) (y z : PyData) : callM 3 g [.src, .d y, .d z] = g [.src, .d y, .d z] := rfl
@[simp] theorem sp_call4 (g : List SD → M SD) (x y z w : PyData) : callM 4 g [.d x, .d y, .d z, .d w] = g [.d x, .d y, .d z, .d w] := rfl
@[simp] theorem sp_call1s (g : List SD → M SD) : callM 1 g [.src] = g [.src] := rfl
@[simp] theorem sp_allD_nil : allD [] = some [] := rfl
@[simp] theorem sp_allD_cons (x : PyData) (r : List SD) : allD (.d x :: r) = (allD r).map (x :: ·) := rfl
@[simp] theorem sp_eqI (i j : Int) : gEq (.d (.int i)) (.d (.int j)) = some (dB (decide (i = j))) := rfl
@[simp] theorem sp_neI (i j : Int) : gNe (.d (.int i)) (.d (.int j)) = some (dB (!decide (i = j))) := rfl
@[simp] theorem sp_defM (m : Nat) (U : List SD → M Out) (xs : List SD) : defM m U xs = (U (xs ++ List.replicate (m - xs.length) .no) >>= fun o => match o with
  | .rt y => pure y
  | .nx _ => pure (.d .none)
  | _ => M.fail) := rfl
end Dd
/-! DwX1 -/
/-! errors over data: texts made, raise -/
namespace Dd
open PySem PySem.Spec PyProof.Rows L2
/-- some text, not too long -/
def M.anyS : M Str := ⟨fun P _ => ∀ x : Str, x.length ≤ 30000 → P x, fun h _ p x l => h _ (p x l)⟩
theorem pe_or {X : Cx} {e : Expr} {t u : TE} (h : PE X e t) (g : PE X e u) : PE X e (fun σ H Q => t σ H Q ∨ u σ H Q) :=
  ⟨fun pins s σ H Q J q => q.elim (h.run pins s σ H Q J) (g.run pins s σ H Q J)⟩
section
variable {X : Cx} {EX : L2.St → XK} {e : Expr} {es : List Expr} {pos : Pos} {T : List SD → M SD} {Tu : List SD → M Unit}
/-! ### f'..' -/
def DJ (X : Cx) (EX : L2.St → XK) (es : List Expr) (T : List SD → M Unit) : Prop := ∃ ts, PJ X es ts ∧ ∀ {W : Wd} {ρ : List SD} {σ : L2.St} {H : Hp} (acc : Str) (Q : Str → Hp → Prop), W.Ok H → Rel X.K W H σ ρ → acc.length + 3000 * es.length ≤ 30000 →
  (T ρ).run (fun _ => ∀ x H', x.length ≤ acc.length + 3000 * es.length → Kp W H H' → W.Ok H' → Q x H') (XP X.K W H (EX σ)) → tJs ts acc σ H Q
theorem dj_nil : DJ X EX [] (fun _ => pure ()) := ⟨[], .nil, fun {W ρ σ H} acc Q ok rel hl h => h acc H (Nat.le_add_right _ _) (Kp.refl W H) ok⟩
theorem acc_sz {acc y : Str} {n : Nat} (h : acc.length + 3000 * (n + 1) ≤ 30000) (hy : y.length ≤ 3000) : (acc ++ y).length ≤ sizeLine ∧ (acc ++ y).length + 3000 * n ≤ 30000 ∧ (acc ++ y).length + 3000 * n ≤ acc.length + 3000 * (n + 1) := by
  rw [strLen_append, sizeLine_eq]
  omega
theorem dj_str {z : Str} {j : Nat} (hz : z.length ≤ 3000) (r : DJ X EX es Tu) : DJ X EX (.Constant (.str z) j pos :: es) Tu := by
  obtain ⟨ts, h1, h2⟩ := r
  refine ⟨_, .cons pe_str h1, fun {W ρ σ H} acc Q ok rel hl h => ?_⟩
  rw [List.length_cons] at hl h
  obtain ⟨a1, a2, a3⟩ := acc_sz hl hz
  refine ⟨z, rfl, a1, h2 (acc ++ z) Q ok rel a2 ((Tu ρ).mono (fun _ q x H' l => q x H' (Nat.le_trans l a3)) (fun _ q => q) h)⟩
/-- what {x} takes -/
def fmtOk : SD → Bool
  | .d (.str y) => decide (y.length ≤ 3000)
  | .d (.int i) => decide (i.natAbs.log2 < 1600)
  | _ => false
theorem int_text {i : Int} (h : i.natAbs.log2 < 1600) : i.natAbs < 10 ^ 500 := by
  have h1 : i.natAbs < 2 ^ 1600 := Nat.lt_of_lt_of_le (Nat.lt_log2_self) (Nat.pow_le_pow_right (by decide) h)
  exact Nat.lt_trans h1 (by decide +kernel)
theorem dj_fmt (h : DE X EX e T) (r : DJ X EX es Tu) : DJ X EX (.FormattedValue e (-1) none pos :: es) (fun ρ => do let x ← T ρ; M.when (fmtOk x) (Tu ρ)) := by
  obtain ⟨ts, h1, h2⟩ := r
  refine ⟨_, .cons (pe_fmt h) h1, fun {W ρ σ H} acc Q ok rel hl q => ?_⟩
  rw [List.length_cons] at hl q
  refine ⟨W, ρ, ok, rel, (T ρ).mono (fun x q v H1 k1 ok1 r1 => ?_) (fun _ q => q) q⟩
  obtain ⟨c, q⟩ := run_when.mp q
  have go : ∀ y : Str, y.length ≤ 3000 → (acc ++ y).length ≤ sizeLine ∧ tJs ts (acc ++ y) σ H1 Q := fun y hy => by
    obtain ⟨a1, a2, a3⟩ := acc_sz hl hy
    exact ⟨a1, h2 (acc ++ y) Q ok1 (rel.keep ok k1) a2 ((Tu ρ).mono (fun _ q x H' l k' ok' => q x H' (Nat.le_trans l a3) (k1.trans k') ok') (fun e q => XP.trans ok k1 ok1 q) q)⟩
  unfold fmtOk at c
  split at c
  · have hy := of_decide_eq_true c
    cases r1
    exact .inl ⟨_, rfl, by rw [sizeLine_eq]; omega, _, rfl, (go _ hy).1, (go _ hy).2⟩
  · rename_i i
    have hi := of_decide_eq_true c
    cases r1
    have hy : (Str.ofString (toString i)).length ≤ 3000 := Nat.le_trans (Dw.txt_len (int_text hi)) (by decide)
    exact .inr ⟨i, rfl, by omega, _, rfl, (go _ hy).1, (go _ hy).2⟩
  · cases c
/-- what {x!r} takes -/
def reprOk : SD → Bool
  | .d (.str y) => decide (y.length ≤ 200) && PyData.canLay0 (.str y)
  | .d (.int i) => decide (i.natAbs.log2 < 1600)
  | .d (.tuple [.int i, .int j]) => decide (i.natAbs.log2 < 1600) && decide (j.natAbs.log2 < 1600)
  | _ => false
theorem repr_len {y : Str} (hl : y.length ≤ 200) (hc : PyData.canLay0 (.str y) = true) : (reprText y).length ≤ 3000 := by
  have := StrLaws.reprText_len y (fun c hc' => by
    have h : y.cps.all (· < 0x110000) = true := hc
    rw [← Array.all_toList, List.all_eq_true] at h
    have := of_decide_eq_true (h c hc')
    exact Nat.lt_trans this (by decide))
  omega
/-- {x!r}: a text, an int, a pair of ints -/
theorem pe_fmtRA {te : TE} {k : Nat} (room : Room k X.A) (he : PE X e te) : PE X (.FormattedValue e 114 none pos) (fun σ H Q => te σ H fun x H1 => (∃ y : Str, x = .str y ∧ (reprText y).length ≤ 3000 ∧ Q (.str (reprText y)) H1) ∨ (∃ i : Int, x = .int i ∧ i.natAbs.log2 < 1600 ∧ Q (.str (toString i)) H1) ∨
    ∃ (a : Addr) (i j : Int), x = .ref a ∧ SqT X.K H1 a [.int i, .int j] ∧ i.natAbs < 10 ^ 500 ∧ j.natAbs < 10 ^ 500 ∧ ∀ m : Str, m.length ≤ 2000 → Q (.str m) H1) := by
  refine ⟨fun pins s σ H Q J want => ?_⟩
  refine wpAny_FormattedValue_repr (thn (he.run pins s σ H _ J want) fun v s1 got => ?_)
  obtain ⟨x, H1, J1, r1, which⟩ := got
  have room3 : ∀ {y : Str}, y.length ≤ 3000 → y.length ≤ sizeLine := fun {y} l => by rw [sizeLine_eq]; omega
  rcases which with ⟨y, rfl, ly, q⟩ | ⟨i, rfl, li, q⟩ | ⟨a, i, j, rfl, ht, hi, hj, q⟩
  · obtain ⟨t, rfl⟩ := r1
    refine pyReprObj_str ?_ (room3 ly)
    have got : ∀ s2 tk, Inv X pins σ H1 s2 → ∃ x H', Inv X pins σ H' s2 ∧ RelV x (.str (reprText y) tk) ∧ Q x H' := fun s2 tk J2 => ⟨.str (reprText y), H1, J2, ⟨_, rfl⟩, q⟩
    exact wpAny_formatField_str (got _ _ (J1.tok _)) (got _ _ (J1.tok _)) (room3 ly)
  · obtain ⟨t, rfl⟩ := r1
    refine pyReprObj_int (by omega) ?_
    have got : ∀ s2 tk, Inv X pins σ H1 s2 → ∃ x H', Inv X pins σ H' s2 ∧ RelV x (.str (Str.ofString (toString i)) tk) ∧ Q x H' := fun s2 tk J2 => ⟨.str (toString i), H1, J2, ⟨_, rfl⟩, q⟩
    exact wpAny_formatField_str (got _ _ (J1.tok _)) (got _ _ (J1.tok _)) (int_text_fits (by omega))
  · cases r1
    obtain ⟨its, rv, ⟨o, ho, hcl, n, hd⟩, _⟩ := J1.tuple ht
    have hu := room.units
    obtain ⟨t1, t2, rfl⟩ : ∃ t1 t2, its = [.int i t1, .int j t2] := by
      cases rv with
      | cons z1 z2 =>
        cases z2 with
        | cons z3 z4 =>
          cases z4
          obtain ⟨t1, rfl⟩ := z1
          obtain ⟨t2, rfl⟩ := z3
          exact ⟨t1, t2, rfl⟩
    have l1 := Dw.txt_len hi
    have l2 := Dw.txt_len hj
    have lt := fmt_text [Str.ofString (toString i), Str.ofString (toString j)]
    have lp : piled [Str.ofString (toString i), Str.ofString (toString j)] ≤ 1006 := by
      rw [piled_cons, piled_cons]
      show _ + (_ + 0) ≤ _
      omega
    refine wpAny_pyReprObj_slot (by omega) ⟨o, ho, hcl⟩ F.slot_tuple_repr (fmt_tuple_repr (ts := [Str.ofString (toString i), Str.ofString (toString j)]) ho hcl hd (.cons (ReprIs.int t1 (Dw.log_lt hi)) (.cons (ReprIs.int t2 (Dw.log_lt hj)) .nil)) (by rw [sizeLine_eq]; omega) fun m u tk hm => ⟨m, u, rfl, ?_⟩)
    have lm : m.length ≤ 2000 := by omega
    exact wpAny_formatField_str ⟨.str m, H1, J1.tok _, ⟨_, rfl⟩, q m lm⟩ ⟨.str m, H1, J1.tok _, ⟨_, rfl⟩, q m lm⟩ (by rw [sizeLine_eq]; omega)
theorem dj_fmtR {k : Nat} (hr : Room k X.A) (h : DE X EX e T) (r : DJ X EX es Tu) : DJ X EX (.FormattedValue e 114 none pos :: es) (fun ρ => do let x ← T ρ; M.when (reprOk x) (Tu ρ)) := by
  obtain ⟨ts, h1, h2⟩ := r
  refine ⟨_, .cons (pe_fmtRA hr h) h1, fun {W ρ σ H} acc Q ok rel hl q => ?_⟩
  rw [List.length_cons] at hl q
  refine ⟨W, ρ, ok, rel, (T ρ).mono (fun x q v H1 k1 ok1 r1 => ?_) (fun _ q => q) q⟩
  obtain ⟨c, q⟩ := run_when.mp q
  have go : ∀ y : Str, y.length ≤ 3000 → (acc ++ y).length ≤ sizeLine ∧ tJs ts (acc ++ y) σ H1 Q := fun y hy => by
    obtain ⟨a1, a2, a3⟩ := acc_sz hl hy
    exact ⟨a1, h2 (acc ++ y) Q ok1 (rel.keep ok k1) a2 ((Tu ρ).mono (fun _ q x H' l k' ok' => q x H' (Nat.le_trans l a3) (k1.trans k') ok') (fun e q => XP.trans ok k1 ok1 q) q)⟩
  unfold reprOk at c
  split at c
  · obtain ⟨c1, c2⟩ := Bool.and_eq_true_iff.mp c
    have hy := repr_len (of_decide_eq_true c1) c2
    cases r1
    exact .inl ⟨_, rfl, hy, _, rfl, (go _ hy).1, (go _ hy).2⟩
  · rename_i i
    have hi := of_decide_eq_true c
    cases r1
    have hy : (Str.ofString (toString i)).length ≤ 3000 := Nat.le_trans (Dw.txt_len (int_text hi)) (by decide)
    exact .inr (.inl ⟨i, rfl, hi, _, rfl, (go _ hy).1, (go _ hy).2⟩)
  · rename_i i j
    obtain ⟨c1, c2⟩ := Bool.and_eq_true_iff.mp c
    cases r1 with | tup l1 t1 =>
    cases t1 with | cons z1 t1 =>
    cases t1 with | cons z2 t1 =>
    cases t1
    cases z1
    cases z2
    exact .inr (.inr ⟨_, i, j, rfl, l1, int_text (of_decide_eq_true c1), int_text (of_decide_eq_true c2), fun m hm => ⟨m, rfl, (go m (by omega)).1, (go m (by omega)).2⟩⟩)
  · cases c
theorem de_js {v1 v2 : Expr} {rest : List Expr} (h : DJ X EX (v1 :: v2 :: rest) Tu) (hl : rest.length ≤ 7 := by decide) : DE X EX (.JoinedStr (v1 :: v2 :: rest) pos) (fun ρ => do let _ ← Tu ρ; let x ← M.anyS; pure (dS x)) := by
  obtain ⟨ts, h1, h2⟩ := h
  refine pe_imp (pe_joined h1) fun σ H Q ⟨W, ρ, ok, rel, h⟩ => ?_
  have l9 : (Str.empty : Str).length + 3000 * (v1 :: v2 :: rest).length ≤ 30000 := by
    show 0 + 3000 * (rest.length + 2) ≤ _
    omega
  refine h2 Str.empty _ ok rel l9 ((Tu ρ).mono (fun _ q x H' lx k ok' => ?_) (fun _ q => q) h)
  exact q x (Nat.le_trans lx l9) (.str x) H' k ok' (.str x)
end
end Dd
/-! DwX2 -/
/-! raise C(e), C an error of the text with one argument -/
namespace Dd
open PySem PySem.Spec PyProof.Rows L2
/-- what an error's class does: its code; the attribute that keeps the argument; a number? -/
structure EC where
  code : Str
  attr : Option Str
  num : Bool
def argV (c : EC) : V → Bool
  | .str y => !c.num && (c.attr.isNone || (decide (y.length ≤ 200) && PyData.canLay0 (.str y)))
  | .int i => c.num && decide (i.natAbs.log2 < 1600)
  | _ => false
def argD (c : EC) : SD → Option PyData
  | .d (.str y) => if !c.num && (c.attr.isNone || (decide (y.length ≤ 200) && PyData.canLay0 (.str y))) then some (.str y) else none
  | .d (.int i) => if c.num && decide (i.natAbs.log2 < 1600) then some (.int i) else none
  | _ => none
def fldV (c : EC) (x : V) : List (Str × V) := match c.attr with
  | none => [("code", .str c.code)]
  | some n => [(n, x), ("code", .str c.code)]
def fldD (c : EC) (x : PyData) : List (Str × PyData) := match c.attr with
  | none => [("code", .str c.code)]
  | some n => [(n, x), ("code", .str c.code)]
theorem arg_rv {K : PySem.W.Frag} {W : Wd} {H : Hp} {c : EC} {v : V} {x : SD} {d : PyData} (r : RV K W H v x) (h : argD c x = some d) : argV c v = true ∧ ∀ S H', Rp K S H' v d := by
  unfold argD at h
  split at h
  · split at h
    · rename_i hc
      cases h
      cases r
      exact ⟨hc, fun _ _ => .str _⟩
    · cases h
  · split at h
    · rename_i hc
      cases h
      cases r
      exact ⟨hc, fun _ _ => .int _⟩
    · cases h
  · cases h
theorem fld_rp {K : PySem.W.Frag} {S : List Addr} {H : Hp} {c : EC} {v : V} {d : PyData} (r : Rp K S H v d) : Paired (fun (a : Str × V) (b : Str × PyData) => a.1 = b.1 ∧ Rp K S H a.2 b.2) (fldV c v) (fldD c d) := by
  unfold fldV fldD
  cases c.attr with
  | none => exact .cons ⟨rfl, .str _⟩ .nil
  | some n => exact .cons ⟨rfl, r⟩ (.cons ⟨rfl, .str _⟩ .nil)
/-- C.__init__(self, x) -/
def spErr (C : Addr) (c : EC) : Sp := fun vs H Q _ => ∃ (a : Addr) (x : V), vs = [.ref a, x] ∧ H a = some (exo a C none) ∧ argV c x = true ∧ ∀ H' dx, Same H H' → H' dx = none → dx ≠ a → Q .non (upd (upd H' dx (exd dx (fldV c x))) a (exo a C (some dx)))
section
variable (P : Program) (w : World) (K : PySem.W.Frag) (mg : Str → Option Value) (base : Heap)
def ErrOk (k : Nat) (x : Str) (c : EC) : Prop := ∃ C fI fd p, mg x = some (.ref C) ∧ PySem.W.nsIn K mainGlobals x = some (some (.ref C)) ∧ OexC K C ∧ PySem.W.findIn K (.ref C) "__init__" = some (some (.ref fI)) ∧ PySem.W.typeIn K (.ref fI) = some (.type "function") ∧
  L2.Binds K fd ["self", p] [] ∧ FnOk P w K mg base CX0 k fI fd ["self", p] (spErr C c)
end
section
variable {X : Cx} {E : XK} {e : Expr} {x : Str} {p pos pos' : Pos} {T : List SD → M SD} {k : Nat} {c : EC}
theorem ds_raise (hc : X.calm = true) (tk : Takes X (fun cls d _ H => E cls d H)) (G : ErrOk X.prog X.w X.K X.mg X.base k x c) (room : Room (k + 1) X.A) (hg : Gl X x) (h : DE X (fun _ => E) e T)
    (hdb : (x == ("__debug__" : Str)) = false := by decide) (hs : starEach [e] X.env = (false, eval e X.env) :: starEach [] X.env := by rfl) (hpl : (backTo pos (starEach [] X.env)).any (·.1) = false := by rfl) :
    DS X E (.Raise (some (.Call (.Name x p) [e] [] pos)) none pos') (fun ρ => do let v ← T ρ; let d ← M.lift (argD c v); M.throw ⟨x, fldD c d⟩) := by
  obtain ⟨C, fI, fd, pn, hm, hn, oe, iC, tI, bn, F⟩ := G
  refine ps_imp (ps_raise hc tk (pmk_oex oe iC tI F room bn .nil pass0 hg hm (da_cons h da_nil hs) hdb hs hpl)) fun D σ H ⟨W0, H0, W, ρ, s, run⟩ => ?_
  refine ⟨W, ρ, s.ok, s.rel, (T ρ).mono (fun y q vs H1 k1 ok1 r1 => ?_) (fun er q => s.xp q) run⟩
  obtain ⟨v, rfl, rv⟩ := pair1 r1
  obtain ⟨d, hd, q⟩ := run_lift.mp q
  obtain ⟨av, rd⟩ := arg_rv rv hd
  refine ⟨Nat.le_of_ble_eq_true rfl, fun a na => ⟨a, v, rfl, upd_same, av, fun H' dx sm0 h1 h2 => ?_⟩⟩
  have up : Same H1 (upd H1 a (exo a C none)) := Dw.same_new na
  have n1 : H1 dx = none := Same.free (up.trans sm0) h1
  refine ⟨rfl, dx, fldV c v, upd_same, by rw [upd_ne h2, upd_same], n1, ?_⟩
  have sm : Same H1 (upd (del (upd (upd H' dx (exd dx (fldV c v))) a (exo a C (some dx))) a) dx (.xd (fldV c v))) := fun b o eb => by
    have nb : b ≠ dx := ne_of_none eb n1
    have na' : b ≠ a := ne_of_none eb na
    rw [upd_ne nb, del_ne na', upd_ne na', upd_ne nb]
    exact sm0 b o (up b o eb)
  refine (s.xp q) C dx _ (fldV c v) hn (k1.trans (Kp.same sm)) (ok1.same sm) (k1.free s.ok (Fr0.of n1) ok1) upd_same (ok1.notin n1) (fld_rp (rd _ _))
end
/-! ### the classes' own __init__ -/
/-- QueryError.__init__(self, message, code), self an error of the class at C that has no field yet -/
def spQE (K : PySem.W.Frag) : Sp := fun vs H Q _ => ∃ (a C : Addr) (m c : V), vs = [.ref a, m, c] ∧ OexC K C ∧ PySem.W.findIn K (.ref C) "code" = some none ∧ H a = some (exo a C none) ∧
  ∀ dx, H dx = none → dx ≠ a → Q .non (upd (upd H dx (exd dx [("code", c)])) a (exo a C (some dx)))
theorem upd_twice {H : Hp} {dx a : Addr} {o1 o2 o3 : HO} (ne : dx ≠ a) : upd (upd (upd H dx o1) a o2) dx o3 = upd (upd H dx o3) a o2 := by
  funext b
  by_cases h1 : b = dx
  · subst h1
    rw [upd_same, upd_ne ne, upd_same]
  · rw [upd_ne h1]
    by_cases h2 : b = a
    · subst h2
      rw [upd_same, upd_same]
    · rw [upd_ne h2, upd_ne h2, upd_ne h1, upd_ne h1]
/-! ### the texts of errors: only their own argument is read, the heap stays -/
def DJ0 (X : Cx) (x : V) (es : List Expr) : Prop := ∃ ts, PJ X es ts ∧ ∀ {σ : L2.St} {H : Hp} (acc : Str) (Q : Str → Hp → Prop), σ[1]? = some (some x) → acc.length + 3000 * es.length ≤ 30000 → (∀ m : Str, Q m H) → tJs ts acc σ H Q
section
variable {X : Cx} {x : V} {e : Expr} {es : List Expr} {pos : Pos}
theorem dj0_nil : DJ0 X x [] := ⟨[], .nil, fun acc Q _ _ h => h acc⟩
theorem dj0_str {z : Str} {j : Nat} (hz : z.length ≤ 3000) (r : DJ0 X x es) : DJ0 X x (.Constant (.str z) j pos :: es) := by
  obtain ⟨ts, h1, h2⟩ := r
  refine ⟨_, .cons pe_str h1, fun acc Q hx hl h => ?_⟩
  rw [List.length_cons] at hl
  obtain ⟨a1, a2, a3⟩ := acc_sz hl hz
  exact ⟨z, rfl, a1, h2 _ Q hx a2 h⟩
theorem dj0_fmt {i : Int} (hi : fmtOk (.d (.int i)) = true) (he : PE X e (tVar 1)) (r : DJ0 X (.int i) es) : DJ0 X (.int i) (.FormattedValue e (-1) none pos :: es) := by
  obtain ⟨ts, h1, h2⟩ := r
  refine ⟨_, .cons (pe_fmt he) h1, fun acc Q hx hl h => ?_⟩
  rw [List.length_cons] at hl
  have li : i.natAbs.log2 < 1600 := of_decide_eq_true hi
  have hy : (Str.ofString (toString i)).length ≤ 3000 := Nat.le_trans (Dw.txt_len (int_text li)) (by decide)
  obtain ⟨a1, a2, a3⟩ := acc_sz hl hy
  exact ⟨_, hx, .inr ⟨i, rfl, by omega, _, rfl, a1, h2 _ Q hx a2 h⟩⟩
theorem dj0_fmtR {y : Str} {k : Nat} (hr : Room k X.A) (hy : reprOk (.d (.str y)) = true) (he : PE X e (tVar 1)) (r : DJ0 X (.str y) es) : DJ0 X (.str y) (.FormattedValue e 114 none pos :: es) := by
  obtain ⟨ts, h1, h2⟩ := r
  refine ⟨_, .cons (pe_fmtRA hr he) h1, fun acc Q hx hl h => ?_⟩
  rw [List.length_cons] at hl
  obtain ⟨c1, c2⟩ := Bool.and_eq_true_iff.mp (show (decide (y.length ≤ 200) && PyData.canLay0 (.str y)) = true from hy)
  have ly := repr_len (of_decide_eq_true c1) c2
  obtain ⟨a1, a2, a3⟩ := acc_sz hl ly
  exact ⟨_, hx, .inl ⟨y, rfl, ly, _, rfl, a1, h2 _ Q hx a2 h⟩⟩
theorem pe_js0 {v1 v2 : Expr} {rest : List Expr} (h : DJ0 X x (v1 :: v2 :: rest)) (hl : rest.length ≤ 7 := by decide) : PE X (.JoinedStr (v1 :: v2 :: rest) pos) (fun σ H Q => σ[1]? = some (some x) ∧ ∀ m : Str, Q (.str m) H) := by
  obtain ⟨ts, h1, h2⟩ := h
  refine pe_imp (pe_joined h1) fun σ H Q ⟨hx, q⟩ => ?_
  refine h2 Str.empty _ hx ?_ q
  show 0 + 3000 * (rest.length + 2) ≤ _
  omega
end
theorem arg_str {c : EC} {x : V} (h : argV c x = true) (hn : c.num = false) (ha : c.attr.isNone = false) : ∃ y : Str, x = .str y ∧ reprOk (.d (.str y)) = true := by
  cases x with
  | str y =>
    refine ⟨y, rfl, ?_⟩
    unfold argV at h
    simp only [hn, ha, Bool.not_false, Bool.true_and, Bool.false_or] at h
    exact h
  | int i => simp [argV, hn] at h
  | _ => cases h
theorem arg_int {c : EC} {x : V} (h : argV c x = true) (hn : c.num = true) : ∃ i : Int, x = .int i ∧ fmtOk (.d (.int i)) = true := by
  cases x with
  | int i =>
    refine ⟨i, rfl, ?_⟩
    unfold argV at h
    simp only [hn, Bool.true_and] at h
    exact h
  | str y => simp [argV, hn] at h
  | _ => cases h
end Dd
/-! DwX3 -/
/-! try over data: one statement in the body; a suite keeps what the error has -/
namespace Dd
open PySem PySem.Spec PyProof.Rows L2
section
variable {K : PySem.W.Frag} {W0 W : Wd} {H0 H H' : Hp} {σ : L2.St} {ρ : List SD}
theorem set_self {α : Type} {l : List α} {i : Nat} {x y : α} (h : (l.set i x)[i]? = some y) : y = x := by
  have lt : i < l.length := by
    have := (List.getElem?_eq_some_iff.mp h).1
    rwa [List.length_set] at this
  rw [List.getElem?_set_self lt] at h
  exact (Option.some.inj h).symm
/-- a name is gone -/
theorem SSt.gone (s : SSt K W0 H0 W H σ ρ) (i : Nat) (o : Option V) : SSt K W0 H0 W H (σ.set i o) (ρ.set i .no) := by
  have ne : ∀ {j : Nat} {y : SD}, (ρ.set i .no)[j]? = some y → y ≠ .no → i ≠ j := fun {j y} e n z => by
    subst z
    exact n (set_self e)
  have own_no : ∀ {y : SD}, isOwn y = true → y ≠ .no := fun {y} o z => by subst z; cases o
  refine ⟨s.ok, ⟨by rw [List.length_set, List.length_set, s.rel.len], fun j y e n => ?_, fun j k y z p nq e1 e2 o1 o2 s1 => ?_, s.rel.tab⟩, s.src, s.sub, s.frm, s.mine, fun j y p e oo q => ?_, s.ok0, s.tab⟩
  · have h := ne e n
    rw [List.getElem?_set_ne h] at e ⊢
    exact s.rel.get j y e n
  · have h1 := ne e1 (own_no o1)
    have h2 := ne e2 (own_no o2)
    rw [List.getElem?_set_ne h1] at e1 s1
    rw [List.getElem?_set_ne h2] at e2 ⊢
    exact s.rel.sep j k y z p nq e1 e2 o1 o2 s1
  · have h := ne e (own_no oo)
    rw [List.getElem?_set_ne h] at e q
    exact s.own j y p e oo q
end
/-- a clause: the class; the slot that gets the attribute, alone or in a pair behind a word -/
structure HK where
  cls : Str
  j : Nat
  attr : Str
  word : Option Str
def HK.val (h : HK) (d : PyData) : PyData := match h.word with
  | none => d
  | some z => .tuple [.str z, d]
/-- what is said of the errors' classes: which are below which; no attribute is the class's own -/
structure ErrF (K : PySem.W.Frag) (errs : List Str) (isA : Str → Str → Bool) (hs : List Str) : Prop where
  sub : ∀ n C m D, PySem.W.nsIn K mainGlobals n = some (some (.ref C)) → PySem.W.nsIn K mainGlobals m = some (some (.ref D)) → n ∈ errs → m ∈ hs → PySem.W.exmOne K (.ref C) (.ref D) = some (isA n m)
  xf : ∀ n C, PySem.W.nsIn K mainGlobals n = some (some (.ref C)) → n ∈ errs → XfC K C ∧ PySem.W.findIn K (.ref C) "code" = some none ∧ PySem.W.findIn K (.ref C) "name" = some none ∧ PySem.W.findIn K (.ref C) "index" = some none ∧ PySem.W.findIn K (.ref C) "count" = some none
def attrs : List Str := ["code", "name", "index", "count"]
/-- the first clause that fits -/
def handle (isA : Str → Str → Bool) (i : Nat) (ρ : List SD) (P : Out → Prop) (E : Exn → Prop) (e : Exn) : List HK → Prop
  | [] => E e
  | h :: r => if isA e.C h.cls = true then ∃ d, e.fs.lookup h.attr = some d ∧ P (.nx ((ρ.set h.j (.d (h.val d))).set i .no)) else handle isA i ρ P E e r
theorem handle_mono {isA : Str → Str → Bool} {i : Nat} {ρ : List SD} {P P' : Out → Prop} {E E' : Exn → Prop} {e : Exn} (hp : ∀ o, P o → P' o) (he : ∀ e, E e → E' e) : ∀ {l : List HK}, handle isA i ρ P E e l → handle isA i ρ P' E' e l
  | [], h => he e h
  | k :: r, h => by
    unfold handle at h ⊢
    split at h
    · rename_i c
      rw [if_pos c]
      obtain ⟨d, h1, h2⟩ := h
      exact ⟨d, h1, hp _ h2⟩
    · rename_i c
      rw [if_neg c]
      exact handle_mono hp he h
def tryM (errs : List Str) (isA : Str → Str → Bool) (i : Nat) (l : List HK) (m : M (List SD)) (ρ : List SD) : M Out :=
  ⟨fun P E => i < ρ.length ∧ m.run (fun ρ' => P (.nx ρ')) (fun e => e.C ∈ errs ∧ handle isA i ρ P E e l), fun h g p => ⟨p.1, m.mono (fun _ q => h _ q) (fun e q => ⟨q.1, handle_mono h g q.2⟩) p.2⟩⟩
section
variable {X : Cx} {E : XK} {e : Expr} {n : Str} {i : Nat} {T : List SD → M SD} {errs hs : List Str} {isA : Str → Str → Bool}
/-- the clauses of a try -/
inductive DCl (X : Cx) (n : Str) (i : Nat) : List ExceptHandler → List HK → Prop
  | none : DCl X n i [] []
  | one {x y a : Str} {j : Nat} {p1 p2 p3 p4 p5 q2 : Pos} {more : List ExceptHandler} {l : List HK} (hg : Gl X x) (hd : (x == ("__debug__" : Str)) = false) (hN : X.N.Nodup) (hi : X.N[i]? = some n) (hv : Vis X.env.scope n) (hj : X.N[j]? = some y) (hy : Loc X.env.scope y) (hyl : X.fn y = true ∨ X.env.scope.names.lookup y = some .local) (ha : a ∈ attrs)
      (hs : ∀ a0 pn, swapsWith (.Attribute (.Name n p3) a p4) (some (.Name y p2)) p5.line (X.suite a0 pn).env = pure false) (hb : attributeBase (.Name n p3) a X.env (eval (.Name n p3) X.env) = eval (.Name n p3) X.env) (nd : (n == ("__debug__" : Str)) = false) (nc : (n == ("__classdict__" : Str)) = false)
      (rest : DCl X n i more l) : DCl X n i (.ExceptHandler (some (.Name x p1)) (some n) [.Assign [.Name y p2] (.Attribute (.Name n p3) a p4) p5] q2 :: more) (⟨x, j, a, Option.none⟩ :: l)
theorem lookup_pair {S : List Addr} {H : Hp} {a : Str} : ∀ {fs : List (Str × V)} {gs : List (Str × PyData)} {d : PyData}, Paired (fun (x : Str × V) (y : Str × PyData) => x.1 = y.1 ∧ Rp X.K S H x.2 y.2) fs gs → gs.lookup a = some d → ∃ v, fs.lookup a = some v ∧ Rp X.K S H v d
  | _, _, d, .nil, h => by simp at h
  | (f, v) :: fs, (g, w) :: gs, d, .cons r t, h => by
    obtain ⟨r1, r2⟩ := r
    have r1 : f = g := r1
    subst r1
    rw [List.lookup_cons] at h ⊢
    split at h
    · cases h
      exact ⟨v, rfl, r2⟩
    · exact lookup_pair t h
def suiteOf (K : PySem.W.Frag) (i : Nat) (h : HK) : Dw.Suite := fun a cls d => tAsg (fun σ H Q => ∃ C, XfC K C ∧ PySem.W.findIn K (.ref C) h.attr = some none ∧ tXf a cls d C h.attr (tVar i) σ H Q) (gName h.j)
def ClR (K : PySem.W.Frag) (i : Nat) (hs : List Str) (h : HK) (p : Value × Dw.Suite) : Prop := ∃ D, PySem.W.nsIn K mainGlobals h.cls = some (some (.ref D)) ∧ h.cls ∈ hs ∧ h.attr ∈ attrs ∧ h.word = Option.none ∧ p = (.ref D, suiteOf K i h)
theorem cl_of {cs : List ExceptHandler} {l : List HK} (cl : DCl X n i cs l) (mgs : ∀ h ∈ l, ∃ D, X.mg h.cls = some (.ref D) ∧ PySem.W.nsIn X.K mainGlobals h.cls = some (some (.ref D)) ∧ h.cls ∈ hs) : ∃ l', Dw.Clauses X n cs l' ∧ Paired (ClR X.K i hs) l l' := by
  induction cl with
  | none => exact ⟨[], .none, .nil⟩
  | one hg hd hN hi hv hj hy hyl ha hsw hb nd nc rest ih =>
    obtain ⟨l', c', p'⟩ := ih fun h hh => mgs h (List.mem_cons_of_mem _ hh)
    obtain ⟨D, m1, m2, m3⟩ := mgs _ List.mem_cons_self
    exact ⟨_, .one (c := .ref D) ⟨hg, hd, .inl m1⟩ (fun a oe cls d pn hz hf => pss_one (ps_set hN hj hy (Dw.pe_xfE hz hf (pe_var hi hv nd nc) hb) (hsw a _) hyl)) c', .cons ⟨D, m2, m3, ha, rfl, rfl⟩ p'⟩
theorem set_back {α : Type} (l : List α) (i j : Nat) (x o : α) : ((l.set i o).set j x).set i o = (l.set j x).set i o := by
  by_cases h : i = j
  · subst h
    rw [List.set_set, List.set_set, List.set_set]
  · rw [List.set_comm _ _ h, List.set_set]
theorem handle_all {W0 W : Wd} {H0 H H' : Hp} {σ : L2.St} {ρ : List SD} {D : Ends} {ex : Exn} {C dx : Addr} {fs : List (Str × V)} (F : ErrF X.K errs isA hs) (s : SSt X.K W0 H0 W H σ ρ) (li : i < ρ.length) (he : ex.C ∈ errs) (hC : PySem.W.nsIn X.K mainGlobals ex.C = some (some (.ref C)))
    (k : Kp W H H') (ok : W.Ok H') (nn : Fr0 H dx) (hd : H' dx = some (.xd fs)) (ns : dx ∉ W.S) (r : Paired (fun (a : Str × V) (b : Str × PyData) => a.1 = b.1 ∧ Rp X.K W.S H' a.2 b.2) fs ex.fs) :
    ∀ {l : List HK} {l' : List (Value × Dw.Suite)}, Paired (ClR X.K i hs) l l' → handle isA i ρ (OutP X.K W0 H0 W H D) (XP X.K W0 H0 E) ex l → Dw.wAll X.K i (fun cls d _ H => E cls d H) D l' (.ref C) (some dx) σ H'
  | _, _, .nil, q => (s.xp q) C dx H' fs hC k ok nn hd ns r
  | h :: l, _, .cons cr t, q => by
    obtain ⟨Dc, c1, c2, c3, c4, rfl⟩ := cr
    refine ⟨isA ex.C h.cls, F.sub _ _ _ _ hC c1 he c2, fun hb a na => ?_, fun hb => ?_⟩
    · unfold handle at q
      rw [if_pos hb] at q
      obtain ⟨d, hl, q⟩ := q
      obtain ⟨v, hv, rv⟩ := lookup_pair (X := X) r hl
      obtain ⟨x1, x2, x3, x4, x5⟩ := F.xf _ _ hC he
      have xn : PySem.W.findIn X.K (.ref C) h.attr = some none := by
        have c3 := c3
        unfold attrs at c3
        simp only [List.mem_cons, List.not_mem_nil, or_false] at c3
        rcases c3 with z | z | z | z <;> rw [z] <;> assumption
      have ls : i < σ.length := by rw [s.rel.len]; exact li
      refine ⟨C, x1, xn, .ref a, List.getElem?_set_self ls, rfl, rfl, dx, fs, v, rfl, hd, hv, ?_⟩
      have hw : h.val d = d := by unfold HK.val; rw [c4]
      rw [hw] at q
      have s1 := (((s.keep k ok).gone i (some (.ref a))).set (i := h.j) (x := .d d) (v := v) rv rfl).gone i none
      rw [set_back] at s1
      exact q W _ H' (k.stp s.ok) s1
    · unfold handle at q
      rw [if_neg (by rw [hb]; decide)] at q
      exact handle_all F s li he hC k ok nn hd ns r t q
/-- try: name = e except ..: (the error comes out of e) -/
theorem ds_try {c0 : ExceptHandler} {more : List ExceptHandler} {l : List HK} {y : Str} {j : Nat} {p2 p5 pos : Pos} (F : ErrF X.K errs isA hs) (hstk : X.stack = X.env :: X.outer) (hfr : X.env.frame = some X.env.locals) (hN : X.N.Nodup) (hi : X.N[i]? = some n) (hln : X.env.kindOf n = some .local) (tk : Takes X (fun cls d _ H => E cls d H))
    (mgs : ∀ h ∈ l, ∃ D, X.mg h.cls = some (.ref D) ∧ PySem.W.nsIn X.K mainGlobals h.cls = some (some (.ref D)) ∧ h.cls ∈ hs) (hj : X.N[j]? = some y) (hy : Loc X.env.scope y) (hyl : X.fn y = true ∨ X.env.scope.names.lookup y = some .local)
    (hb : ∀ (W : WX) (pn : List (Addr × Obj)) (xe : Value → Shared → Prop), Takes (X.tr pn xe) W → DE (X.tr pn xe) (WE W) e T) (hsw : ∀ pn xe, swapsWith e (some (.Name y p2)) p5.line (X.tr pn xe).env = pure false) (cl : DCl X n i (c0 :: more) l) :
    DS X E (.Try [.Assign [.Name y p2] e p5] (c0 :: more) [] [] pos) (fun ρ => tryM errs isA i l (do let v ← T ρ; let z ← M.lift (plain v); pure (ρ.set j z)) ρ) := by
  obtain ⟨l', c', p'⟩ := cl_of cl mgs
  refine ps_imp (Dw.ps_try_all (tb := fun W => tAsg (dt X.K (WE W) T) (gName j)) hstk hfr hN hi hln tk (fun W pn xe tkW _ => pss_one (ps_set hN hj hy (hb W pn xe tkW) (hsw pn xe) hyl)) c') fun D σ H ⟨W0, H0, W, ρ, s, run⟩ => ?_
  obtain ⟨li, run⟩ := run
  refine ⟨W, ρ, s.ok, s.rel, (T ρ).mono (fun x q v H' k ok r => ?_) (fun ex q => ?_) run⟩
  · obtain ⟨z, hz, q⟩ := run_lift.mp q
    obtain ⟨rfl, no⟩ := plain_eq hz
    exact q W _ H' (k.stp s.ok) ((s.keep k ok).set r no)
  · intro C dx H' fs hC k ok nn hd ns r
    exact handle_all F s li q.1 hC k ok nn hd ns r p' q.2
/-- try: e except ..: -/
theorem ds_tryE {c0 : ExceptHandler} {more : List ExceptHandler} {l : List HK} {p5 pos : Pos} (F : ErrF X.K errs isA hs) (hstk : X.stack = X.env :: X.outer) (hfr : X.env.frame = some X.env.locals) (hN : X.N.Nodup) (hi : X.N[i]? = some n) (hln : X.env.kindOf n = some .local) (tk : Takes X (fun cls d _ H => E cls d H))
    (mgs : ∀ h ∈ l, ∃ D, X.mg h.cls = some (.ref D) ∧ PySem.W.nsIn X.K mainGlobals h.cls = some (some (.ref D)) ∧ h.cls ∈ hs)
    (hb : ∀ (W : WX) (pn : List (Addr × Obj)) (xe : Value → Shared → Prop), Takes (X.tr pn xe) W → DE (X.tr pn xe) (WE W) e T) (hsw : ∀ pn xe, swapsWith e none p5.line (X.tr pn xe).env = pure false) (cl : DCl X n i (c0 :: more) l) :
    DS X E (.Try [.Expr e p5] (c0 :: more) [] [] pos) (fun ρ => tryM errs isA i l (do let _ ← T ρ; pure ρ) ρ) := by
  obtain ⟨l', c', p'⟩ := cl_of cl mgs
  refine ps_imp (Dw.ps_try_all (tb := fun W => tDrop (dt X.K (WE W) T)) hstk hfr hN hi hln tk (fun W pn xe tkW _ => pss_one (ps_expr (hb W pn xe tkW) (hsw pn xe))) c') fun D σ H ⟨W0, H0, W, ρ, s, run⟩ => ?_
  obtain ⟨li, run⟩ := run
  refine ⟨W, ρ, s.ok, s.rel, (T ρ).mono (fun x q v H' k ok r => ?_) (fun ex q => ?_) run⟩
  · exact q W _ H' (k.stp s.ok) (s.keep k ok)
  · intro C dx H' fs hC k ok nn hd ns r
    exact handle_all F s li q.1 hC k ok nn hd ns r p' q.2
end
end Dd
/-! DwX4 -/
/-! lambdas over data -/
namespace Dd
open PySem PySem.Spec PyProof.Rows L2 LamX
/-- what a def that calls its lambda promises -/
def TTd (K : PySem.W.Frag) (G : M SD → M SD) (tl : XK → Hp → VK → Prop) (H : Hp) (Q : VK) : Prop :=
  ∃ (W : Wd) (act : M SD), W.Ok H ∧ W.tab = theTab K ∧ (∀ (E : XK) (Q' : VK), act.run (Post K W H Q') (XP K W H E) → tl E H Q') ∧ (G act).run (Post K W H Q) (fun _ => False)
theorem pe_any {ι : Type} {X : Cx} {e : Expr} {t : ι → TE} {h : ι → Prop} (f : ∀ i, h i → PE X e (t i)) : PE X e (fun σ H Q => ∃ i, h i ∧ t i σ H Q) :=
  ⟨fun pins s σ H Q J ⟨i, hi, q⟩ => (f i hi).run pins s σ H Q J q⟩
section
variable {X : Cx} {EX : L2.St → XK}
/-- x(lambda: body) -/
theorem de_lam {G : M SD → M SD} {x a nm : Str} {g c : Addr} {k : Nat} {pg : Arguments} {bg : List Stmt} {sg : Scope} {dV kV doc pm cdv ct oc : Value} {an od : Option Addr} {osl : Array (Option Value)} {Ng : List Str}
    {ar : Arguments} {body : Expr} {scope : Scope} {T : List SD → M SD} {p lpos pos : Pos} (gl : Gl X x) (isG : X.mg x = some (.ref g)) (kp : PySem.W.keepIn X.K (.ref g) = true)
    (lk : X.K.lookup g = some ⟨oc, od, .func (PySem.W.fnOf x x pg bg sg dV kV doc pm an cdv ct), osl⟩) (cg : PySem.W.codeIn X.K cdv x = true) (bn : L2.Binds X.K (PySem.W.fnOf x x pg bg sg dV kV doc pm an cdv ct) [a] []) (Sg : FnScope Ng [a] sg) (hNg : Ng[0]? = some a) (hva : Vis sg a)
    (Gv : Dw.GivesS X Ng x sg g cdv bg a (X.env.qual ++ "<lambda>") (TTd X.K G)) (TB : LamX.TabB X.base X.mg c (tabOf X.K nm)) (code : X.env.code = .ref c) (hq : X.env.qual ++ "<lambda>" = nm ++ ".<locals>." ++ "<lambda>") (hm : nm ∈ lamNames) (one : ∀ z ∈ lamNames, tabOf X.K z = tabOf X.K nm → z = nm) (room : Room (k + 2) X.A) (ls : LamS X.env.scope scope)
    (nodef : defaultsOf ar X.env = ([], [])) (bnd : ∀ (q : Str) (cl : List (Str × Addr)) (pm cv ctv : Value), bindArgs (PySem.W.kla_fn "<lambda>" q ar body scope cl pm cv ctv) ⟨[], []⟩ = pure [])
    (run : ∀ (E : XK) (f c : Addr) (A : Around) (outer : List Env) (s : Shared) (H : Hp), Room k (A.deeper (lamEnv X scope s.heap.objs.size f c)) → DE (lamCx X A outer s H E scope f c) (fun _ => E) body T)
    (hdb : (x == ("__debug__" : Str)) = false := by decide) (hd : (a == ("__debug__" : Str)) = false := by decide) (hcd : (a == ("__classdict__" : Str)) = false := by decide) :
    DE X EX (.Call (.Name x p) [.Lambda ar body scope lpos] [] pos) (fun ρ => M.calm (G (T ρ))) := by
  refine pe_imp (Dw.pe_lamS (T := theTab X.K) (P := tabOf X.K nm) (t := fun E => dt X.K (fun _ => E) T) gl isG kp lk cg bn Sg hNg hva Gv TB code (by rw [hq]; exact List.mem_map.mpr ⟨nm, hm, rfl⟩) (fun z hz e => ?_) room ls nodef bnd run hdb hd hcd) fun σ H Q ⟨W, ρ, ok, rel, h⟩ => ?_
  · obtain ⟨y, hy, rfl⟩ := List.mem_map.mp hz
    have := one y hy e
    rw [hq, this]
  · have tabs : Tabs (theTab X.K) H := by rw [← rel.tab]; exact ok.tabs
    refine ⟨tabs, fun H1 ext tabs1 => ?_⟩
    have k1 : Kp W H H1 := fun b o hb _ nt => ext b o hb nt
    have ok1 : W.Ok H1 := by
      refine ⟨fun b hb => ?_, fun a' l' e' => ?_, by rw [rel.tab]; exact tabs1⟩
      · obtain ⟨o, h1, h2, h3⟩ := ok.there b hb
        exact ⟨o, ext b o h1 h3, h2, h3⟩
      · obtain ⟨h1, h2, h3⟩ := ok.draw a' l' e'
        obtain ⟨ms, i, r, sd, S⟩ := h3
        exact ⟨h1, h2, ms, i, r, sd, S.ne, ext _ _ S.at_ nt_lst, ext _ _ S.cells (fun _ z => nomatch z), S.i0, S.r0, S.s0, S.s1⟩
    refine ⟨W, T ρ, ok1, rel.tab, fun E Q' q => ⟨W, ρ, ok1, rel.keep ok k1, q⟩, M.mono _ (fun z q => Post.trans k1 q) (fun _ z => z.elim) h⟩
end
end Dd
/-! DwX5 -/
/-! a def that calls its lambda in a try -/
namespace Dd
open PySem PySem.Spec PyProof.Rows L2 LamX
def retM (m : M Out) : M SD := m >>= fun o => match o with
  | .rt y => pure y
  | .nx _ => pure (.d .none)
  | _ => M.fail
/-- how a() is read -/
def ActR (Y : Cx) (ec : Expr) (f c : Addr) (q : Str) (tl : XK → Hp → VK → Prop) : Prop :=
  ∀ (W : WX) (pn : List (Addr × Obj)) (xe : Value → Shared → Prop) (E : XK) (σ0 : L2.St), Takes (Y.tr pn xe) W → (∀ cls d H', E cls d H' → W cls d σ0 H') →
    PE (Y.tr pn xe) ec (fun σZ HZ Q => σZ = σ0 ∧ σZ[0]? = some (some (.ref f)) ∧ HZ c = some (CodeO c q) ∧ tl E HZ Q)
/-- the slots at the try -/
def AtTry (K : PySem.W.Frag) (f c : Addr) (q : Str) (tl : XK → Hp → VK → Prop) (G : M SD → List SD → M Out) : TS := fun D σ H => ∃ (W : Wd) (ρ : List SD) (act : M SD), SSt K W H W H σ ρ ∧ σ[0]? = some (some (.ref f)) ∧ H c = some (CodeO c q) ∧
  (∀ (E : XK) (Q' : VK), act.run (Post K W H Q') (XP K W H E) → tl E H Q') ∧ (G act ρ).run (OutP K W H W H D) (fun _ => False)
section
variable {Y : Cx} {ec : Expr} {f c : Addr} {q n : Str} {i : Nat} {tl : XK → Hp → VK → Prop} {errs hs : List Str} {isA : Str → Str → Bool}
theorem ps_tryA {c0 : ExceptHandler} {more : List ExceptHandler} {l : List HK} {y : Str} {j : Nat} {p2 p5 pos : Pos} (F : ErrF Y.K errs isA hs) (hstk : Y.stack = Y.env :: Y.outer) (hfr : Y.env.frame = some Y.env.locals) (hN : Y.N.Nodup) (hi : Y.N[i]? = some n) (hln : Y.env.kindOf n = some .local)
    (mgs : ∀ h ∈ l, ∃ D, Y.mg h.cls = some (.ref D) ∧ PySem.W.nsIn Y.K mainGlobals h.cls = some (some (.ref D)) ∧ h.cls ∈ hs) (hj : Y.N[j]? = some y) (hy : Loc Y.env.scope y) (hyl : Y.fn y = true ∨ Y.env.scope.names.lookup y = some .local)
    (act : ActR Y ec f c q tl) (hsw : ∀ pn xe, swapsWith ec (some (.Name y p2)) p5.line (Y.tr pn xe).env = pure false) (cl : DCl Y n i (c0 :: more) l) :
    PS Y (.Try [.Assign [.Name y p2] ec p5] (c0 :: more) [] [] pos) (AtTry Y.K f c q tl fun act ρ => tryM errs isA i l (do let v ← act; let z ← M.lift (plain v); pure (ρ.set j z)) ρ) := by
  obtain ⟨l', c', p'⟩ := cl_of cl mgs
  refine ps_imp (Dw.ps_try_all (tb := fun W D σ H => ∃ (E : XK) (Q0 : VK), (∀ cls d H', E cls d H' → W cls d σ H') ∧ (∀ v H', Q0 v H' → D.nx (σ.set j (some v)) H') ∧ σ[0]? = some (some (.ref f)) ∧ H c = some (CodeO c q) ∧ tl E H Q0) (out := fun _ _ _ _ => False) hstk hfr hN hi hln L2.takes0 (fun W pn xe tkW _ => ?_) c') fun D σ H ⟨W, ρ, am, s, h0, hc, link, run⟩ => ?_
  · refine ⟨fun pins s' σ H' D J rd => ?_⟩
    obtain ⟨E, Q0, w1, w2, h1, h2, h3⟩ := rd
    exact (pss_one (ps_set (X := Y.tr pn xe) hN hj hy (Dw.pe_mono (act W pn xe E σ tkW w1)) (hsw pn xe) hyl)).run pins s' σ H' D J ⟨Q0, w2, rfl, h1, h2, h3⟩
  · obtain ⟨li, run⟩ := run
    refine ⟨fun cls d H' => Dw.wAll Y.K i (fun _ _ _ _ => False) D l' cls d σ H', fun v H' => D.nx (σ.set j (some v)) H', fun _ _ _ z => z, fun _ _ z => z, h0, hc, link _ _ (M.mono am (fun x q v H' k ok r => ?_) (fun ex q => ?_) run)⟩
    · obtain ⟨z, hz, q⟩ := run_lift.mp q
      obtain ⟨rfl, no⟩ := plain_eq hz
      exact q W _ H' (k.stp s.ok) ((s.keep k ok).set r no)
    · intro C dx H' fs hC k ok nn hd ns r
      exact handle_all (X := Y) (E := fun _ _ _ => False) F s li q.1 hC k ok nn hd ns r p' (handle_mono (fun _ z => z) (fun _ z => z.elim) q.2)
theorem ps_tryB {c0 : ExceptHandler} {more : List ExceptHandler} {l : List HK} {p5 pos : Pos} (F : ErrF Y.K errs isA hs) (hstk : Y.stack = Y.env :: Y.outer) (hfr : Y.env.frame = some Y.env.locals) (hN : Y.N.Nodup) (hi : Y.N[i]? = some n) (hln : Y.env.kindOf n = some .local)
    (mgs : ∀ h ∈ l, ∃ D, Y.mg h.cls = some (.ref D) ∧ PySem.W.nsIn Y.K mainGlobals h.cls = some (some (.ref D)) ∧ h.cls ∈ hs)
    (act : ActR Y ec f c q tl) (hsw : ∀ pn xe, swapsWith ec none p5.line (Y.tr pn xe).env = pure false) (cl : DCl Y n i (c0 :: more) l) :
    PS Y (.Try [.Expr ec p5] (c0 :: more) [] [] pos) (AtTry Y.K f c q tl fun act ρ => tryM errs isA i l (do let _ ← act; pure ρ) ρ) := by
  obtain ⟨l', c', p'⟩ := cl_of cl mgs
  refine ps_imp (Dw.ps_try_all (tb := fun W D σ H => ∃ (E : XK) (Q0 : VK), (∀ cls d H', E cls d H' → W cls d σ H') ∧ (∀ v H', Q0 v H' → D.nx σ H') ∧ σ[0]? = some (some (.ref f)) ∧ H c = some (CodeO c q) ∧ tl E H Q0) (out := fun _ _ _ _ => False) hstk hfr hN hi hln L2.takes0 (fun W pn xe tkW _ => ?_) c') fun D σ H ⟨W, ρ, am, s, h0, hc, link, run⟩ => ?_
  · refine ⟨fun pins s' σ H' D J rd => ?_⟩
    obtain ⟨E, Q0, w1, w2, h1, h2, h3⟩ := rd
    exact (pss_one (ps_expr (Dw.pe_mono (act W pn xe E σ tkW w1)) (hsw pn xe))).run pins s' σ H' D J ⟨Q0, w2, rfl, h1, h2, h3⟩
  · obtain ⟨li, run⟩ := run
    refine ⟨fun cls d H' => Dw.wAll Y.K i (fun _ _ _ _ => False) D l' cls d σ H', fun v H' => D.nx σ H', fun _ _ _ z => z, fun _ _ z => z, h0, hc, link _ _ (M.mono am (fun x q v H' k ok r => ?_) (fun ex q => ?_) run)⟩
    · exact q W _ H' (k.stp s.ok) (s.keep k ok)
    · intro C dx H' fs hC k ok nn hd ns r
      exact handle_all (X := Y) (E := fun _ _ _ => False) F s li q.1 hC k ok nn hd ns r p' (handle_mono (fun _ z => z) (fun _ z => z.elim) q.2)
end
section
variable {K : PySem.W.Frag} {W : Wd} {H : Hp} {σ : L2.St} {ρ : List SD}
theorem sst_new (ok : W.Ok H) (rel : Rel K W H σ ρ) (no : ∀ x ∈ ρ, isOwn x = false) : SSt K W H W H σ ρ :=
  ⟨ok, rel, rfl, fun _ h => h, Kp.refl W H, fun _ h => .inl h, (fun i x p e o _ => by rw [no x (List.mem_of_getElem? e)] at o; cases o), ok, rfl⟩
theorem rel_no (tb : W.tab = theTab K) (h : σ.length = ρ.length) (no : ∀ x ∈ ρ, x = .no) : Rel K W H σ ρ :=
  ⟨h, fun i x e n => absurd (no x (List.mem_of_getElem? e)) n, (fun i j x y p _ e _ o _ _ => by rw [no x (List.mem_of_getElem? e)] at o; cases o), tb⟩
/-- behind the try: what the def gives back -/
theorem ret_read {Q : VK} {m : M Out} {U : List SD → M Out} {u : TS} (hu : ∀ D σ H, ds K E0 U D σ H → u D σ H) (h : (retM (seqM m U)).run (Post K W H Q) (fun _ => False)) (ok : W.Ok H) :
    m.run (OutP K W H W H { nx := u { nx := fun _ H' => Q .non H', rt := Q }, rt := Q }) (fun _ => False) := by
  refine M.mono _ (fun o q => ?_) (fun _ z => z) h
  cases o with
  | nx ρ' =>
    intro W' σ' H' st s'
    refine hu _ _ _ ⟨W, H, W', ρ', s', M.mono _ (fun o' q' => ?_) (fun _ z => z.elim) q⟩
    cases o' with
    | rt y => exact q'
    | nx ρ2 => exact fun W2 σ2 H2 st2 s2 => q' .non H2 s2.frm (s2.ok0' s2.ok) .non
    | bk _ => exact (show False from q').elim
    | ct _ => exact (show False from q').elim
  | rt y => exact q
  | bk _ => exact (show False from q).elim
  | ct _ => exact (show False from q).elim
end
end Dd
/-! DwX6 -/
/-! lambdas over data: what a law's text gives -/
namespace Dd
open PySem PySem.Spec PyProof.Rows L2 LamX
/-- the def x that calls its one parameter a -/
def LamAt (K : PySem.W.Frag) (mg : Str → Option Value) (x a : Str) (st : Stmt) : Prop := ∃ (g : Addr) (oc : Value) (od : Option Addr) (dV kV doc pm : Value) (an : Option Addr) (cdv ct : Value) (osl : Array (Option Value)),
  mg x = some (.ref g) ∧ PySem.W.keepIn K (.ref g) = true ∧ K.lookup g = some ⟨oc, od, .func (PySem.W.fnOf x x (defArgs st) (defBody st) (defScope st) dV kV doc pm an cdv ct), osl⟩ ∧ PySem.W.codeIn K cdv x = true ∧
  L2.Binds K (PySem.W.fnOf x x (defArgs st) (defBody st) (defScope st) dV kV doc pm an cdv ct) [a] []
/-- the code of a def that makes lambdas -/
def CodeTab (K : PySem.W.Frag) (mg : Str → Option Value) (base : Heap) (nm : Str) (cdv : Value) : Prop := ∃ c, cdv = .ref c ∧ LamX.TabB base mg c (tabOf K nm) ∧ nm ∈ lamNames ∧ ∀ z ∈ lamNames, tabOf K z = tabOf K nm → z = nm
section
variable {X : Cx} {EX : L2.St → XK}
theorem de_lamO {G : M SD → M SD} {x a nm : Str} {st : Stmt} {k : Nat} {Ng : List Str} {cdv : Value} {ar : Arguments} {body : Expr} {scope : Scope} {T : List SD → M SD} {p lpos pos : Pos} (L : LamAt X.K X.mg x a st) (gl : Gl X x) (Sg : FnScope Ng [a] (defScope st)) (hNg : Ng[0]? = some a) (hva : Vis (defScope st) a)
    (Gv : ∀ {g : Addr} {cdg : Value} {q : Str}, Dw.GivesS X Ng x (defScope st) g cdg (defBody st) a q (TTd X.K G)) (CT : CodeTab X.K X.mg X.base nm cdv) (code : X.env.code = cdv) (hq : X.env.qual ++ "<lambda>" = nm ++ ".<locals>." ++ "<lambda>") (room : Room (k + 2) X.A) (ls : LamS X.env.scope scope)
    (nodef : defaultsOf ar X.env = ([], [])) (bnd : ∀ (q : Str) (cl : List (Str × Addr)) (pm cv ctv : Value), bindArgs (PySem.W.kla_fn "<lambda>" q ar body scope cl pm cv ctv) ⟨[], []⟩ = pure [])
    (run : ∀ (E : XK) (f c : Addr) (A : Around) (outer : List Env) (s : Shared) (H : Hp), Room k (A.deeper (lamEnv X scope s.heap.objs.size f c)) → DE (lamCx X A outer s H E scope f c) (fun _ => E) body T)
    (hdb : (x == ("__debug__" : Str)) = false := by decide) (hd : (a == ("__debug__" : Str)) = false := by decide) (hcd : (a == ("__classdict__" : Str)) = false := by decide) :
    DE X EX (.Call (.Name x p) [.Lambda ar body scope lpos] [] pos) (fun ρ => M.calm (G (T ρ))) := by
  obtain ⟨g, oc, od, dV, kV, doc, pm, an, cdg, ct, osl, isG, kp, lk, cg, bn⟩ := L
  obtain ⟨c, rfl, TB, hm, one⟩ := CT
  exact de_lam gl isG kp lk cg bn Sg hNg hva Gv TB code hq hm one room ls nodef bnd run hdb hd hcd
end
section
variable {P : Program} {w : World} {K : PySem.W.Frag} {mg : Str → Option Value} {base : Heap}
/-- the law, its own code known -/
theorem ok_lawT {st st1 : Stmt} {rest : List Stmt} {f : Addr} {fd : FuncData} {N : List Str} {k m : Nat} {U : List SD → M Out} (F : Fun K "law" "law" st f fd) (S : FnScope N ["_law_script"] (defScope st)) (hb : defBody st = st1 :: rest) (hm : N.length = m + 2)
    (CT : CodeTab K mg base "law" fd.code)
    (h1 : ∀ (cdv : Value) (A : Around) (outer : List Env) (s : Shared) (H : Hp) (E : XK), Room k (A.deeper (envOfC "law" (defScope st) s.heap.objs.size f cdv)) → PS (cxOf (L2.CX P w) P w K mg base N "law" (defScope st) f cdv A outer s H E) st1 (tAsg (tCall (Dw.spSrc K) [] E0 (tCons (tVar 0) tNil)) (gName 1)))
    (h2 : ∀ (cdv : Value) (A : Around) (outer : List Env) (s : Shared) (H : Hp) (E : XK), CodeTab K mg base "law" cdv → Room k (A.deeper (envOfC "law" (defScope st) s.heap.objs.size f cdv)) → DSs (cxOf (L2.CX P w) P w K mg base N "law" (defScope st) f cdv A outer s H E) E rest U)
    (run : (U (.no :: .src :: List.replicate m .no)).run (fun o => o = .rt (dB true)) (fun _ => False)) : FnOk P w K mg base (L2.CX P w) (k + 1) f fd ["_law_script"] (spLawD K) := by
  obtain ⟨oc, od, kV, doc, pm, an, cdv, ct, osl, rfl, lk, hcd⟩ := F.ex
  have CT' : CodeTab K mg base "law" cdv := CT
  refine fn_of lk hcd S (fun vs H Q E h => ?_) (fun A outer s H vs Q E hr h => ⟨_, by rw [hb]; exact pss_cons (h1 cdv A outer s H E hr) (h2 cdv A outer s H E CT' hr), law_read hm run h⟩)
  obtain ⟨a, ns, rfl, _⟩ := h
  rfl
end
end Dd
/-! DwX7 -/
/-! the empty dict -/
namespace Dd
open PySem PySem.Spec PyProof.Rows L2
section
variable {X : Cx} {EX : L2.St → XK} {pos : Pos}
theorem de_dict0 : DE X EX (.Dict [] [] pos) (fun ρ => pure (.d (dictOf []))) := by
  refine pe_imp pe_dnewK fun σ H Q ⟨W, ρ, ok, rel, h⟩ p hp => ?_
  have sm := Dw.same_new (o := .dK []) hp
  have kp : Kp W H (upd H p (.dK [])) := Kp.same sm
  have okp : (W.add p).Ok (upd H p (.dK [])) := add_ok ok hp ⟨(fun z => z), nt_dK⟩
  exact h (.ref p) _ kp (add_back ok (Fr0.of hp) okp) (.dct (.inl upd_same) (ok.notin hp) (pkv_kv .nil))
end
end Dd
/-! DwX8 -/
/-! x = list(e), owned; x[i] = e for an owned list -/
namespace Dd
open PySem PySem.Spec PyProof.Rows L2
theorem vals_set : ∀ {xs : List V} {us : List Value} {v : V} {u : Value} (j : Nat), Vals xs us → RelV v u → Vals (xs.set j v) (us.set j u)
  | [], [], _, _, _, .nil, _ => .nil
  | x :: xs, y :: us, v, u, 0, .cons a b, r => .cons r b
  | x :: xs, y :: us, v, u, j + 1, .cons a b, r => .cons a (vals_set j b r)
section
variable {X : Cx} {o i value : Expr} {to ti tv : TE} {pos pos' : Pos}
def sLPut (to ti tv : TE) : TS := fun D σ H => tv σ H fun v H1 => to σ H1 fun x H2 => ti σ H2 fun y H3 => ∃ (l : Addr) (xs : List V) (j : Nat), x = .ref l ∧ y = .int (j : Int) ∧ H3 l = some (.lst xs) ∧ j < xs.length ∧ xs.length < 2 ^ 60 ∧ D.nx σ (upd H3 l (.lst (xs.set j v)))
theorem ps_lput (ho : PE X o to) (hi : PE X i ti) (hv : PE X value tv) (hs : swapsWith value (some (.Subscript o i pos')) pos.line X.env = pure false) : PS X (.Assign [.Subscript o i pos'] value pos) (sLPut to ti tv) := by
  refine ⟨fun pins s σ H D I h => wpAny_Assign_Subscript (thn (hv.run pins s σ H _ I h) fun r s1 ⟨v, H1, I1, rv, q1⟩ => thn (ho.run pins s1 σ H1 _ I1 q1) fun u s2 ⟨x, H2, I2, rx, q2⟩ => thn (hi.run pins s2 σ H2 _ I2 q2) fun iv s3 ⟨y, H3, I3, ry, l, xs, j, ex, ey, hH, hj, hz, q3⟩ => ?_) hs⟩
  subst ex
  subst ey
  cases (show u = Value.ref l from rx)
  obtain ⟨t, rfl⟩ := (show ∃ t, iv = Value.int (j : Int) t from ry)
  obtain ⟨z, its, n, rl, hl, e⟩ := I3.lstM hH
  refine PySem.W.ki_setAt (items := its.toArray) e (Int.natCast_nonneg j) (by omega) (by rw [List.size_toArray]; omega) ⟨σ, _, I3.lset (its' := its.set j r) (ys := xs.set j v) hH e ?_ (vals_set j rl rv) (by rw [List.length_set]; exact z), q3⟩
  rw [Int.toNat_natCast, List.setIfInBounds_toArray]
end
section
variable {X : Cx} {E : XK} {e e2 o : Expr} {x : Str} {pos p p2 : Pos} {T T2 : List SD → M SD}
theorem rpAll_set {K : PySem.W.Frag} {S : List Addr} {H : Hp} {xs : List V} {ds : List PyData} {v : V} {d : PyData} (j : Nat) (h : RpAll K S H xs ds) (r : Rp K S H v d) : RpAll K S H (xs.set j v) (ds.set j d) := by
  by_cases hj : j < xs.length
  · rw [List.set_eq_take_append_cons_drop, List.set_eq_take_append_cons_drop, if_pos hj, if_pos (by rw [← h.length]; exact hj)]
    exact RpAll.append (h.take j) (.cons r (h.drop (j + 1)))
  · rw [List.set_eq_of_length_le (by omega), List.set_eq_of_length_le (by rw [← h.length]; omega)]
    exact h
/-- x[j] = e, x an owned list -/
theorem ds_putL (i : Nat) {pos' : Pos} (ho : PE X o (tVar i)) (h1 : DE X (fun _ => E) e T) (h2 : DE X (fun _ => E) e2 T2) (hs : swapsWith e2 (some (.Subscript o e pos')) pos.line X.env = pure false := by rfl) :
    DS X E (.Assign [.Subscript o e pos'] e2 pos) (fun ρ => do let y ← T2 ρ; let z ← M.lift (asD y); let ds ← M.lift (ownL ρ i); let w ← T ρ; let j ← M.lift (asI w); M.when (decide (0 ≤ j) && decide (j.toNat < ds.length) && szOk ds.length) (pure (.nx (ρ.set i (.own (ds.set j.toNat z)))))) := by
  refine ps_imp (ps_lput ho h1 h2 hs) fun D σ H ⟨W0, H0, W, ρ, s, h⟩ => ?_
  refine ex_run (T := T2) s h fun y h v H1 k1 ok1 r1 => ?_
  obtain ⟨z, hz, h⟩ := run_lift.mp h
  obtain rfl := asD_eq hz
  have s1 := s.keep k1 ok1
  obtain ⟨ds, hg, h⟩ := run_lift.mp h
  have hi := ownL_eq hg
  obtain ⟨u, h3, h4⟩ := s1.rel.get i _ hi (fun z => nomatch z)
  obtain ⟨q, xs, rfl, mem, ns, hq, t⟩ := h4
  refine ⟨.ref q, h3, ?_⟩
  refine ex_run (T := T) s1 h fun w h vw H' k ok r => ?_
  obtain ⟨j, hj, h⟩ := run_lift.mp h
  obtain ⟨c, h⟩ := run_when.mp h
  obtain ⟨c, c3⟩ := Bool.and_eq_true_iff.mp c
  obtain ⟨c1, c2⟩ := Bool.and_eq_true_iff.mp c
  have ev : vw = .int j := by
    unfold asI at hj
    split at hj
    · cases r; cases hj; rfl
    · cases hj
  subst ev
  obtain ⟨jn, rfl⟩ := Int.eq_ofNat_of_zero_le (of_decide_eq_true c1)
  have hq' : H' q = some (.lst xs) := k q _ hq ns nt_lst
  have t' := RpAll.step (k.stp ok1) t
  have r1' := Rp.step (k.stp ok1) r1
  have s' := s1.keep k ok
  have m := s'.mut (x := .own (ds.set jn z)) (o := .lst (xs.set jn v)) hi rfl h3 ⟨(fun z => z), nt_lst⟩ rfl fun st mem ns => ⟨q, _, rfl, mem, ns, upd_same, rpAll_set jn (RpAll.step st t') (Rp.step st r1')⟩
  have hl := of_decide_eq_true c2
  rw [Int.toNat_natCast] at hl
  exact ⟨q, xs, jn, rfl, rfl, hq', by rw [t.length]; exact hl, by have := szOk.le c3; rw [← t.length] at this; unfold sizeLine at this; omega, h W σ _ (((k1.stp s.ok).trans (k.stp ok1)).trans m.1) m.2⟩
/-- x = list(e), owned -/
def asList : SD → Option (List PyData)
  | .d (.list ds) => some ds
  | .d (.tuple ds) => some ds
  | .own ds => some ds
  | _ => none
theorem ds_setLs {i : Nat} {pos' : Pos} (hN : X.N.Nodup) (hi : X.N[i]? = some x) (hx : Loc X.env.scope x) (he : DE X (fun _ => E) e T) (hg : Gl X "list") (hm : X.mg "list" = none) (hv : bootBuiltins "list" = some (.type "list"))
    (hs : swapsWith (.Call (.Name "list" p) [e] [] p2) (some (.Name x pos')) pos.line X.env = pure false := by rfl) (hst : starEach [e] X.env = (false, eval e X.env) :: starEach [] X.env := by rfl)
    (hf : X.fn x = true ∨ X.env.scope.names.lookup x = some .local := by first | exact .inl rfl | exact .inr rfl | assumption) : DS X E (.Assign [.Name x pos'] (.Call (.Name "list" p) [e] [] p2) pos) (fun ρ => do let v ← T ρ; let ds ← M.lift (asList v); pure (.nx (ρ.set i (.own ds)))) := by
  refine ps_imp (ps_set hN hi hx (pe_callTy call_list_of hg hm hv (pa_cons he pa_nil hst) (by decide) (by decide) hst rfl) hs hf) fun D σ H ⟨W0, H0, W, ρ, s, h⟩ => ?_
  refine ex_run (T := T) s h fun y q v H' k ok r => ?_
  obtain ⟨ds, hd, q⟩ := run_lift.mp q
  have s' := s.keep k ok
  have fin : ∀ {a : Addr} {xs : List V}, (SqL X.K H' a xs ∨ SqT X.K H' a xs) → RpAll X.K W.S H' xs ds → ∃ a0 xs0, [V.ref a] = [.ref a0] ∧ (SqL X.K H' a0 xs0 ∨ SqT X.K H' a0 xs0) ∧ ∀ p, H' p = none → gName i (.ref p) σ (upd H' p (.lst xs0)) D.nx := fun {a xs} hr t => by
    refine ⟨a, xs, rfl, hr, fun p hp => ?_⟩
    have sm := Dw.same_new (o := .lst xs) hp
    have k2 : Kp W H' (upd H' p (.lst xs)) := Kp.same sm
    refine q (W.add p) _ _ ((k.stp s.ok).trans (add_stp ok k2 hp)) (s'.new k2 hp (add_ok ok hp ⟨(fun z => z), nt_lst⟩) rfl ⟨p, xs, rfl, List.mem_cons_self, fun l z => ?_, upd_same, RpAll.step (add_stp ok k2 hp) t⟩)
    obtain ⟨o, e, _⟩ := ok.there p (ok.draw p l z).1
    rw [hp] at e; cases e
  unfold asList at hd
  split at hd
  · cases hd
    cases r with | lst l t => exact fin (.inl l.sq) t
  · cases hd
    cases r with | tup l t => exact fin (.inr l) t
  · cases hd
    obtain ⟨q', xs, rfl, _, _, hq, t⟩ := r
    exact fin (.inl (.inl (.inl hq))) t
  · cases hd
end
section
variable {X : Cx} {EX : L2.St → XK} {a b : Expr} {pos : Pos} {Ta Tb : List SD → M SD}
/-- [..] * k -/
def gRep : SD → SD → Option SD
  | .d (.list ds), .d (.int k) => if (decide (0 ≤ k) && decide (k ≤ 1000) && szOk (ds.length * k.toNat)) = true then some (.d (.list (List.replicate k.toNat ds).flatten)) else none
  | _, _ => none
theorem rpAll_rep {K : PySem.W.Frag} {S : List Addr} {H : Hp} {xs : List V} {ds : List PyData} (h : RpAll K S H xs ds) : ∀ n : Nat, RpAll K S H (List.replicate n xs).flatten (List.replicate n ds).flatten
  | 0 => .nil
  | n + 1 => by
    rw [List.replicate_succ, List.replicate_succ, List.flatten_cons, List.flatten_cons]
    exact h.append (rpAll_rep h n)
theorem de_rep (ha : DE X EX a Ta) (hb : DE X EX b Tb) : DE X EX (.BinOp a .Mult b pos) (fun ρ => do let x ← Ta ρ; let y ← Tb ρ; M.lift (gRep x y)) := by
  refine pe_imp (pe_op op_rep ha hb) (bin_imp fun {W H v w x y z Q} ok r1 r2 h q => ?_)
  unfold gRep at h
  split at h
  · split at h
    · rename_i s
      cases h
      cases r2
      cases r1 with | lst l1 t1 =>
      obtain ⟨s, s3⟩ := Bool.and_eq_true_iff.mp s
      obtain ⟨s1, s2⟩ := Bool.and_eq_true_iff.mp s
      have s1 := of_decide_eq_true s1
      have s2 := of_decide_eq_true s2
      exact ⟨_, _, _, rfl, rfl, l1.1, by omega, by omega, by rw [t1.length]; exact szOk.le s3, fun p hp => new_lst ok hp (rpAll_rep t1 _) q⟩
    · cases h
  · cases h
end
end Dd
/-! DwP1 -/
/-! sets whose members lie in the heap, by an abstract kind of keys -/
namespace Dd
open PySem PySem.Spec PyProof.Rows L2
/-- keys that lie in the heap and are asked for quietly -/
structure RK (P : Program) (w : World) (κ : Type) [DecidableEq κ] where
  at_ : Heap → κ → Addr → Prop
  hsh : κ → Int
  keep : ∀ {h h' : Heap} {k : κ} {a : Addr}, at_ h k a → (∀ o, h.get? a = some o → h'.get? a = some o) → at_ h' k a
  noSet : ∀ {h : Heap} {k : κ} {a : Addr} {o : Obj} {es : Array (Int × Value)} {ep : Nat} {t : SetTable}, at_ h k a → h.get? a = some o → o.data ≠ .set es ep t
  eqv : ∀ {A : Around} {E : Value → Shared → Prop} {s : Shared} {k j : κ} {a b : Addr} {Q : Bool → Shared → Prop}, A.units < cLine → at_ s.heap k a → at_ s.heap j b → Q (decide (k = j)) s → wpAny (model P w) A (eqBool (.ref a) (.ref b)) Q E s
  seen : ∀ {A : Around} {E : Value → Shared → Prop} {s : Shared} {k : κ} {a : Addr} {ys : List Value} {Q : Bool → Shared → Prop}, at_ s.heap k a → (∀ y ∈ ys, ∃ j b, y = Value.ref b ∧ at_ s.heap j b) → Q false s → wpAny (model P w) A (searchCouldBeSeen (.ref a) ys) Q E s
  byVal : ∀ {A : Around} {E : Value → Shared → Prop} {s : Shared} {k : κ} {a : Addr} {Q : Bool → Shared → Prop}, at_ s.heap k a → (∀ b, Q b s) → wpAny (model P w) A (hashByValue 8 (.ref a)) Q E s
  pyh : ∀ {A : Around} {E : Value → Shared → Prop} {s : Shared} {k : κ} {a : Addr} {Q : Int → Shared → Prop}, A.units < cLine → at_ s.heap k a → (∀ n : Nat, Q (hsh k) { s with toks := s.toks + n }) → wpAny (model P w) A (pyHash (.ref a)) Q E s
section
variable {P : Program} {w : World} {κ : Type} [DecidableEq κ] {R : RK P w κ} {A : Around} {E : Value → Shared → Prop} {s : Shared} {a : Addr} {L : List (Addr × κ)} {es : Array (Int × Value)} {ep : Nat} {t : SetTable}
abbrev RK.ent (R : RK P w κ) (p : Addr × κ) : Int × Value := (R.hsh p.2, .ref p.1)
/-- the set at a holds these members, in the order of its slots -/
structure SP (R : RK P w κ) (h : Heap) (a : Addr) (L : List (Addr × κ)) (es : Array (Int × Value)) (ep : Nat) (t : SetTable) : Prop where
  obj : ∃ o, h.get? a = some o ∧ o.ExactSet ∧ o.data = .set es ep t
  row : es.toList = L.map R.ent
  tab : TabOk t (L.map fun p => R.hsh p.2)
  dis : (L.map fun p => p.2).Nodup
  key : ∀ p ∈ L, R.at_ h p.2 p.1
  led : w.params.followText "set-order" = true ∨ t.led = true
  free : L.length * 5 < t.mask * 3
  few : L.length < 64
theorem SP.len (S : SP R s.heap a L es ep t) : es.size = L.length := by
  rw [← Array.length_toList, S.row, List.length_map]
theorem SP.plc (S : SP R s.heap a L es ep t) : t.place.size = L.length := by
  have := S.tab.sz
  rwa [List.length_map] at this
theorem SP.fit (S : SP R s.heap a L es ep t) : t.fits es.size = true := by
  have := S.free
  unfold SetTable.fits SetTable.fill
  rw [S.tab.dm, S.len, S.plc, Bool.and_eq_true, beq_iff_eq, decide_eq_true_eq]
  exact ⟨rfl, show L.length + 0 ≤ t.mask by omega⟩
theorem SP.ent (S : SP R s.heap a L es ep t) {i : Nat} {p : Addr × κ} (h : L[i]? = some p) : es[i]? = some (R.ent p) := by
  rw [← Array.getElem?_toList, S.row, List.getElem?_map, h]
  rfl
theorem SP.gw (S : SP R s.heap a L es ep t) : ¬ t.gaveWay = true := by
  unfold SetTable.gaveWay
  rw [mask_odd S.tab.mok]
  decide
/-- the n-th place that a search for this hash looks at -/
abbrev prb (t : SetTable) (g : Int) (n : Nat) : SetTable.Probe := nth t.mask (runAt t.mask (SetTable.bits g % (t.mask + 1)) (SetTable.bits g)) n
theorem nth_dm (m : Nat) : ∀ (n : Nat) (p : SetTable.Probe), (nth m p n).dummy = p.dummy
  | 0, _ => rfl
  | n + 1, p => (nth_dm m n (adv m p)).trans (by unfold adv; split <;> rfl)
theorem sx_find (S : SP R s.heap a L es ep t) {x : Addr} {k : κ} (hx : R.at_ s.heap k x) (hu : A.units < cLine) {N : Nat} (lt : N < 10 * SetTable.turns t.mask) (fr : (prb t (R.hsh k) N).j ∉ t.place.toList) (bs : ∀ c, c < N → (prb t (R.hsh k) c).j ∈ t.place.toList)
    {Q : SetFound → Shared → Prop} (yes : k ∈ L.map (fun p => p.2) → Q (.there none) s) (no : k ∉ L.map (fun p => p.2) → Q (.free (prb t (R.hsh k) N).j false) s) :
    ∀ (f c : Nat) (st : Option SetTable.Probe), st.getD (t.probeStart (R.hsh k)) = prb t (R.hsh k) c → c ≤ N → N - c < f → (∀ (i : Nat) (p : Addr × κ), L[i]? = some p → p.2 = k → ∃ d, c ≤ d ∧ d < N ∧ t.place.toList[i]? = some (prb t (R.hsh k) d).j) →
      wpAny (model P w) A (setSearchFrom a (.ref x) (R.hsh k) true f st) Q E s
  | 0, c, st, _, _, hf, _ => absurd hf (Nat.not_lt_zero _)
  | f + 1, c, st, e0, hc, hf, ahead => by
    obtain ⟨o, get, ex, dat⟩ := S.obj
    have go : ∀ n, nth t.mask (prb t (R.hsh k) c) n = prb t (R.hsh k) (c + n) := fun n => (nth_add t.mask c _ n).symm
    have goj : ∀ n, (nth t.mask (prb t (R.hsh k) c) n).j = (prb t (R.hsh k) (c + n)).j := fun n => by rw [go]
    have hh : ∀ (i : Nat) (p : Addr × κ), L[i]? = some p → (es[i]?.map (·.1)).getD 0 = R.hsh p.2 := fun i p hp => by rw [S.ent hp]; rfl
    have sp := go_spec t S.tab.ris S.tab.dm (fun i => (es[i]?.map (·.1)).getD 0) (R.hsh k) (10 * SetTable.turns t.mask) (N - c) (prb t (R.hsh k) c) (nth_dm _ _ _) (by omega) (fun n hn => by rw [goj]; exact bs _ (by omega)) (by rw [goj, Nat.add_sub_cancel' hc]; exact fr)
    rw [setSearchFrom_succ]
    refine wpAny_bind (wpAny_setState_of get dat S.fit (wp_if_neg S.gw ?_))
    try apply wpAny_bind; apply wpAny_pure
    rcases sp with ⟨n, i, hn, hi, hs, before, pr⟩ | ⟨before, pr⟩
    · have pr' : t.probe (fun i => (es[i]?.map (·.1)).getD 0) (R.hsh k) (st.getD (t.probeStart (R.hsh k))) = some (.candidate (prb t (R.hsh k) (c + n)).j i (prb t (R.hsh k) (c + (n + 1)))) := by
        rw [e0, ← goj, ← go]
        exact pr
      rw [goj] at hi
      have il : i < L.length := by
        have := (List.getElem?_eq_some_iff.mp hi).1
        rw [Array.length_toList, S.plc] at this
        exact this
      obtain ⟨p, hp⟩ : ∃ p, L[i]? = some p := ⟨_, List.getElem?_eq_getElem il⟩
      have pm : p ∈ L := List.mem_of_getElem? hp
      have live : t.slot (prb t (R.hsh k) (c + n)).j = .live i := slot_live S.tab.ris hi
      have rest : wpAny (model P w) A (searchRest a (.ref x) (R.hsh k) true f es t (prb t (R.hsh k) (c + n)).j i (prb t (R.hsh k) (c + (n + 1)))) Q E s := by
        unfold searchRest
        rw [S.ent hp]
        refine wpAny_bind (wpAny_holding (R.eqv hu (S.key p pm) hx (wpAny_bind (wpAny_setState_of get dat S.fit ?_))))
        by_cases same : p.2 = k
        · exact wp_if_pos (by simp [same]) (wpAny_pure (yes (List.mem_map.mpr ⟨p, pm, same⟩)))
        · refine wp_if_neg (by simp [same]) ?_
          try apply wpAny_bind; apply wpAny_pure
          rw [sameMem]
          simp only [if_true, live, S.ent hp]
          refine wpAny_bind (wpAny_isSame_ref_self (wpAny_bind (wpAny_pure ?_)))
          simp only [if_true]
          refine wp_if_neg (by simp [same]) (sx_find S hx hu lt fr bs yes no f (c + (n + 1)) _ rfl (by omega) (by omega) fun j q hq eq => ?_)
          obtain ⟨d, d1, d2, d3⟩ := ahead j q hq eq
          refine ⟨d, ?_, d2, d3⟩
          by_cases z : d < c + n
          · exact absurd ((hh j q hq).trans (by rw [eq])) (before (d - c) j (by omega) (by rw [goj, Nat.add_sub_cancel' d1]; exact d3))
          · by_cases z2 : d = c + n
            · have l2 := slot_live S.tab.ris d3
              rw [z2, live] at l2
              cases l2
              rw [hp] at hq
              cases hq
              exact absurd eq same
            · omega
      rw [pr']
      by_cases hl : t.led = true
      · refine wp_if_neg (by simp [hl]) ?_
        try apply wpAny_bind; apply wpAny_pure
        exact rest
      · refine wp_if_pos (by simp [hl]) (wpAny_bind (R.seen hx (fun y hy => ?_) (wp_if_neg (by decide) ?_)))
        · obtain ⟨e, he, rfl⟩ := List.mem_map.mp hy
          have he : e ∈ es.toList := by
            have h2 : e ∈ es ∧ e.1 = R.hsh k := by simpa using he
            simpa using h2.1
          rw [S.row] at he
          obtain ⟨q, hq, rfl⟩ := List.mem_map.mp he
          exact ⟨q.2, q.1, rfl, S.key q hq⟩
        · try apply wpAny_bind; apply wpAny_pure
          exact rest
    · have pr' : t.probe (fun i => (es[i]?.map (·.1)).getD 0) (R.hsh k) (st.getD (t.probeStart (R.hsh k))) = some (.empty (prb t (R.hsh k) N).j none) := by
        have := pr
        rw [goj, Nat.add_sub_cancel' hc] at this
        rw [e0]
        exact this
      rw [pr']
      refine wpAny_pure (no fun hm => ?_)
      obtain ⟨q, hq, eq⟩ := List.mem_map.mp hm
      obtain ⟨j, hj, ej⟩ := List.getElem_of_mem hq
      have hq' : L[j]? = some q := by rw [List.getElem?_eq_getElem hj, ej]
      obtain ⟨d, d1, d2, d3⟩ := ahead j q hq' eq
      exact before (d - c) j (by omega) (by rw [goj, Nat.add_sub_cancel' d1]; exact d3) ((hh j q hq').trans (by rw [eq]))
end
end Dd
/-! DwP2 -/
namespace Dd
open PySem PySem.Spec PyProof.Rows L2
section
variable {P : Program} {w : World} {κ : Type} [DecidableEq κ] {R : RK P w κ} {A : Around} {E : Value → Shared → Prop} {s : Shared} {a : Addr} {L : List (Addr × κ)} {es : Array (Int × Value)} {ep : Nat} {t : SetTable}
theorem sx_seek (S : SP R s.heap a L es ep t) {x : Addr} {k : κ} (hx : R.at_ s.heap k x) (hu : A.units < cLine) {Q : SetFound → Shared → Prop} (yes : k ∈ L.map (fun p => p.2) → Q (.there none) s)
    (no : ∀ N, k ∉ L.map (fun p => p.2) → (prb t (R.hsh k) N).j ∉ t.place.toList → (∀ c, c < N → (prb t (R.hsh k) c).j ∈ t.place.toList) → Q (.free (prb t (R.hsh k) N).j false) s) : wpAny (model P w) A (setSearch a (.ref x) (R.hsh k) true) Q E s := by
  have fr := S.free
  obtain ⟨N, n1, n2, n3⟩ := S.tab.first (by rw [List.length_map]; omega) (R.hsh k)
  have big : N < 100000 := by
    have : 10 * SetTable.turns t.mask ≤ 1420 := by
      have mk := S.tab.mok
      unfold SetTable.turns
      unfold MaskOk at mk
      omega
    omega
  unfold setSearch
  refine sx_find S hx hu n1 n2 n3 yes (fun z => no N z n2 n3) 100000 0 none rfl (Nat.zero_le _) (by omega) fun i p hp e => ?_
  have h1 : (L.map fun p => R.hsh p.2)[i]? = some (R.hsh k) := by rw [List.getElem?_map, hp, ← e]; rfl
  have il : i < t.place.toList.length := by rw [Array.length_toList, S.plc]; exact (List.getElem?_eq_some_iff.mp hp).1
  have h2 := List.getElem?_eq_getElem il
  obtain ⟨c, c1, c2⟩ := S.tab.before n2 h1 h2
  exact ⟨c, Nat.zero_le _, c1, by rw [h2, ← c2]⟩
theorem RK.but (R : RK P w κ) {h h' : Heap} {k : κ} {x : Addr} {o : Obj} (hx : R.at_ h k x) (get : h.get? a = some o) (dat : o.data = .set es ep t) (sb : Heap.SameBut a h h') : R.at_ h' k x := by
  refine R.keep hx fun u hu => (sb.2 x fun z => ?_).trans hu
  subst z
  exact R.noSet hx get dat
theorem pick_rows {α : Type} (f : α → Int × Value) (L : List α) (es : Array (Int × Value)) (order : Array Nat) (hr : es.toList = L.map f) (hp : order.toList.Perm (List.range L.length)) :
    ∃ M : List α, (order.filterMap (es[·]?)).toList = M.map f ∧ M.Perm L ∧ (M.map fun x => (f x).1) = order.toList.map fun i => (es.map (·.1)).getD i 0 := by
  have get : ∀ i, es[i]? = (L[i]?).map f := fun i => by rw [← Array.getElem?_toList, hr, List.getElem?_map]
  have all : (List.range L.length).filterMap (fun i => L[i]?) = L := by
    have g : (List.range L.length).map (fun i => L[i]?) = L.map some := by
      refine List.ext_getElem? fun i => ?_
      rw [List.getElem?_map, List.getElem?_map]
      by_cases h : i < L.length
      · rw [List.getElem?_range h, List.getElem?_eq_getElem h]; simp [h]
      · rw [List.getElem?_eq_none (by rw [List.length_range]; omega), List.getElem?_eq_none (by omega)]; rfl
    have := congrArg (List.filterMap id) g
    rw [List.filterMap_map, List.filterMap_map] at this
    simpa [Function.comp_def] using this
  refine ⟨order.toList.filterMap fun i => L[i]?, ?_, (hp.filterMap _).trans (by rw [all]), ?_⟩
  · rw [Array.toList_filterMap]
    simp only [get]
    induction order.toList with
    | nil => rfl
    | cons i r ih =>
      cases hi : L[i]? with
      | none => simp [List.filterMap_cons, hi, ih]
      | some x => simp [List.filterMap_cons, hi, ih]
  · have inr : ∀ i ∈ order.toList, i < L.length := fun i hi => List.mem_range.mp (hp.mem_iff.mp hi)
    revert inr
    clear hp
    induction order.toList with
    | nil => intro _; rfl
    | cons i r ih =>
      intro inr
      have il := inr i List.mem_cons_self
      have hi : L[i]? = some L[i] := List.getElem?_eq_getElem il
      rw [List.filterMap_cons_some hi, List.map_cons, List.map_cons, ih fun j hj => inr j (List.mem_cons_of_mem _ hj)]
      have e : (es.map (·.1))[i]? = some (f L[i]).1 := by rw [Array.getElem?_map, get, hi]; rfl
      rw [Array.getD_eq_getD_getElem?, e]
      rfl
theorem sx_relay {o : Obj} (get : s.heap.get? a = some o) (exo : o.ExactSet) (dat : o.data = .set es ep t) (row : es.toList = L.map R.ent) (plc : t.place.size = es.size) (dm : t.dummies = #[]) (ft : es.size ≤ t.mask) (dis : (L.map fun p => p.2).Nodup) (key : ∀ p ∈ L, R.at_ s.heap p.2 p.1)
    (led : w.params.followText "set-order" = true ∨ t.led = true) (few : L.length < 64) {want M : Nat} (hw : SetTable.sizeAbove want - 1 = M) (hM : MaskOk M) (h128 : SetTable.sizeAbove want ≤ 128) (room : L.length * 5 < M * 3) {Q : Unit → Shared → Prop}
    (q : ∀ h' L' es' ep' t', Heap.SameBut a s.heap h' → SP R h' a L' es' ep' t' → L'.Perm L → Q () { s with heap := h' }) : wpAny (model P w) A (setRelay a want) Q E s := by
  have len : es.size = L.length := by rw [← Array.length_toList, row, List.length_map]
  have fit : t.fits es.size = true := by
    unfold SetTable.fits SetTable.fill
    rw [dm, plc, Bool.and_eq_true, beq_iff_eq, decide_eq_true_eq]
    exact ⟨rfl, show es.size + 0 ≤ t.mask from ft⟩
  obtain ⟨t', order, e, pm, T, em, el, epl, _⟩ := relaid_ok t (hs := es.map (·.1)) (wanted := want) hw hM (by rw [Array.size_map, len]; omega)
  rw [Array.size_map, len] at pm
  obtain ⟨L', r1, r2, r3⟩ := pick_rows R.ent L es order row pm
  have T' : TabOk t' (L'.map fun p => R.hsh p.2) := by rw [show (L'.map fun p => R.hsh p.2) = L'.map fun x => (R.ent x).1 from rfl, r3]; exact T
  have sz : (order.filterMap (es[·]?)).size = es.size := by rw [← Array.length_toList, r1, List.length_map, r2.length_eq, len]
  rw [setRelay_eq]
  refine wpAny_bind (wpAny_setState_of get dat fit (wp_if_neg (by rw [sizeLine_eq]; omega) ?_))
  try apply wpAny_bind; apply wpAny_pure
  rw [e]
  refine wpAny_bind (wp_if_neg (by rw [sz]; simp) ?_)
  try apply wpAny_bind; apply wpAny_pure
  refine wpAny_pure (wpAny_storeSet_of get dat ?_ (by rw [sz, len, sizeLine_eq]; omega))
  have sb : Heap.SameBut a s.heap (s.heap.update a (Obj.putSet (order.filterMap (es[·]?)) t')) := Heap.SameBut.update ..
  exact q _ L' _ (ep + 1) t' sb ⟨⟨_, store_at get dat, ⟨exo.1, exo.2.1, exo.2.2⟩, rfl⟩, r1, T', (r2.map fun p => p.2).nodup_iff.mpr dis, fun p hp => R.but (key p (r2.mem_iff.mp hp)) get dat sb, by rw [el]; exact led, by rw [r2.length_eq, em]; exact room, by rw [r2.length_eq]; exact few⟩ r2
end
end Dd
/-! DwP3 -/
namespace Dd
open PySem PySem.Spec PyProof.Rows L2
section
variable {P : Program} {w : World} {κ : Type} [DecidableEq κ] {R : RK P w κ} {A : Around} {E : Value → Shared → Prop} {s : Shared} {a : Addr} {L : List (Addr × κ)} {es : Array (Int × Value)} {ep : Nat} {t : SetTable}
theorem sx_add (S : SP R s.heap a L es ep t) {x : Addr} {k : κ} (hx : R.at_ s.heap k x) (hu : A.units < cLine) (few : L.length + 1 < 64) {Q : Bool → Shared → Prop}
    (q : ∀ b h' L' es' ep' t', Heap.SameBut a s.heap h' → SP R h' a L' es' ep' t' → (k ∈ L.map (fun p => p.2) → L' = L) → (k ∉ L.map (fun p => p.2) → L'.Perm ((x, k) :: L)) → Q b { s with heap := h' }) : wpAny (model P w) A (setAddHashed a (.ref x) (R.hsh k)) Q E s := by
  obtain ⟨o, get, exo, dat⟩ := S.obj
  have rm := S.free
  unfold setAddHashed
  apply wpAny_holding
  rw [show (100000 : Nat) = 99999 + 1 from rfl, setAddHashedIn_succ]
  refine wpAny_bind (wpAny_setState_of get dat S.fit (wp_if_neg (by simp [byScan, Value.scannable]) ?_))
  try apply wpAny_bind; apply wpAny_pure
  refine wpAny_bind (sx_seek S hx hu (fun hm => wpAny_pure (q false s.heap L es ep t (Heap.SameBut.refl a s.heap) S (fun _ => rfl) fun z => absurd hm z)) fun N new fr bs => wpAny_bind (wpAny_setState_of get dat S.fit ?_))
  obtain ⟨q1, q2, q3, q4, q5, q6, q7, q8, q9⟩ := S.tab.put fr bs
  have lay : ∀ (n : Nat), (SetTable.insertAt es n (R.ent (x, k))).toList = (L.take n ++ (x, k) :: L.drop n).map R.ent := fun n => by
    rw [SetTable.toList_insertAt, S.row, List.map_append, List.map_cons, List.map_take, List.map_drop]
  have hput : ∃ t1 n, t.put (prb t (R.hsh k) N).j = (t1, n) := ⟨_, _, rfl⟩
  obtain ⟨t1, n, hput⟩ := hput
  have hput' : t.put (way t.mask (R.hsh k) N) = (t1, n) := hput
  rw [hput'] at q1 q3 q4 q5 q6 q9
  have q1 : n = SetTable.below t.place (way t.mask (R.hsh k) N) := q1
  rw [← q1] at q3
  dsimp only
  rw [hput]
  dsimp only
  have pm : (L.take n ++ (x, k) :: L.drop n).Perm ((x, k) :: L) := by
    have h1 : (L.take n ++ (x, k) :: L.drop n).Perm ((x, k) :: (L.take n ++ L.drop n)) := List.perm_middle
    rwa [List.take_append_drop] at h1
  have tb : TabOk t1 ((L.take n ++ (x, k) :: L.drop n).map fun p => R.hsh p.2) := by
    rw [List.map_append, List.map_cons, List.map_take, List.map_drop]
    exact q3
  have row := lay n
  generalize L.take n ++ (x, k) :: L.drop n = L1 at pm tb row
  have l1 : L1.length = L.length + 1 := pm.length_eq
  have e1 : (SetTable.insertAt es n (R.ent (x, k))).size = L.length + 1 := by rw [← Array.length_toList, row, List.length_map, l1]
  generalize SetTable.insertAt es n (R.ent (x, k)) = es1 at row e1
  have q4 : t1.mask = t.mask := q4
  have q5 : t1.led = t.led := q5
  have q9 : t1.fill = L.length + 1 := by rw [q9, List.length_map]
  have dis1 : (L1.map fun p => p.2).Nodup := (pm.map fun p => p.2).nodup_iff.mpr (by rw [List.map_cons]; exact List.nodup_cons.mpr ⟨new, S.dis⟩)
  -- behind the question whether the hash goes by value
  have tail : ∀ t2 : SetTable, TabOk t2 (L1.map fun p => R.hsh p.2) → t2.mask = t.mask → t2.led = t.led → t2.fill = L.length + 1 →
      wpAny (model P w) A (storeSet a es1 t2 >>= fun _ => if (!false && t2.tooFull) = true then setRelay a (SetTable.grown (es.size + 1)) >>= fun _ => pure true else pure true) Q E s := fun t2 tb q4 q5 q9 => by
    refine wpAny_bind (wpAny_storeSet_of get dat ?_ (by rw [e1, sizeLine_eq]; omega))
    have sb : Heap.SameBut a s.heap (s.heap.update a (Obj.putSet es1 t2)) := Heap.SameBut.update ..
    have get1 := store_at (es' := es1) (t' := t2) get dat
    generalize s.heap.update a (Obj.putSet es1 t2) = h1 at sb get1
    have key1 : ∀ p ∈ L1, R.at_ h1 p.2 p.1 := fun p hp => by
      rcases List.mem_cons.mp (pm.mem_iff.mp hp) with z | z
      · rw [z]; exact R.but hx get dat sb
      · exact R.but (S.key p z) get dat sb
    have led1 : w.params.followText "set-order" = true ∨ t2.led = true := by rw [q5]; exact S.led
    by_cases full : t2.tooFull = true
    · have big : t2.mask * 3 ≤ (L.length + 1) * 5 := by
        have z := full
        unfold SetTable.tooFull at z
        rw [decide_eq_true_eq, q9] at z
        exact z
      have plc1 : t2.place.size = es1.size := by rw [tb.sz, List.length_map, l1, e1]
      have two : (t.mask = 7 ∧ L.length = 4) ∨ (t.mask = 31 ∧ L.length = 18) := by
        have mk := S.tab.mok
        unfold MaskOk at mk
        omega
      refine wp_if_pos (by simp [full]) (wpAny_bind ?_)
      rw [S.len]
      have fin : ∀ M, SetTable.sizeAbove (SetTable.grown (L.length + 1)) - 1 = M → MaskOk M → SetTable.sizeAbove (SetTable.grown (L.length + 1)) ≤ 128 → (L.length + 1) * 5 < M * 3 → wpAny (model P w) A (setRelay a (SetTable.grown (L.length + 1))) (fun _ u => wpAny (model P w) A (pure true) Q E u) E { s with heap := h1 } := fun M m1 m2 m3 m4 =>
        sx_relay (s := { s with heap := h1 }) (R := R) get1 ⟨exo.1, exo.2.1, exo.2.2⟩ rfl row plc1 tb.dm (by omega) dis1 key1 led1 (by omega) m1 m2 m3 (by omega) fun h2 L2 es2 ep2 t2 sb2 S2 pm2 => wpAny_pure (q true h2 L2 es2 ep2 t2 (sb.trans sb2) S2 (fun z => absurd z new) fun _ => pm2.trans pm)
      rcases two with ⟨_, e⟩ | ⟨_, e⟩
      · exact fin 31 (by rw [e, size_20]) (.inr (.inl rfl)) (by rw [e, size_20]; decide) (by omega)
      · exact fin 127 (by rw [e, size_76]) (.inr (.inr rfl)) (by rw [e, size_76]; decide) (by omega)
    · refine wp_if_neg (by simp [full]) (wpAny_pure (q true h1 L1 es1 (ep + 1) t2 sb ⟨⟨_, get1, ⟨exo.1, exo.2.1, exo.2.2⟩, rfl⟩, row, tb, dis1, key1, led1, ?_, by omega⟩ (fun z => absurd z new) fun _ => pm))
      have z := full
      unfold SetTable.tooFull at z
      rw [decide_eq_true_eq, q9] at z
      omega
  by_cases pl : t1.plain = true
  · refine wp_if_pos pl (wpAny_bind (R.byVal hx fun b => ?_))
    cases b with
    | true => exact tail t1 tb q4 q5 q9
    | false => exact tail { t1 with plain := false } ⟨tb.ris, tb.dm, tb.sz, tb.mok, tb.bd, tb.reach⟩ q4 q5 q9
  · exact wp_if_neg pl (wpAny_bind (wpAny_pure (tail t1 tb q4 q5 q9)))
end
end Dd
/-! DwSet -/
/-! set(texts), any number of them (below 4000) -/
namespace Dd
open PySem PySem.Spec PyProof.Rows L2
/-- how many differ, those seen aside -/
def dst : List Str → List Str → Nat
  | _, [] => 0
  | a, x :: r => if x ∈ a then dst a r else dst (x :: a) r + 1
theorem dst_snoc : ∀ (l a : List Str) (x : Str), dst a (l ++ [x]) = if x ∈ a ∨ x ∈ l then dst a l else dst a l + 1
  | [], a, x => by
    by_cases h : x ∈ a <;> simp [dst, h]
  | y :: l, a, x => by
    show dst a (y :: (l ++ [x])) = _
    unfold dst
    by_cases h : y ∈ a
    · rw [if_pos h, if_pos h, dst_snoc l a x]
      by_cases z : x ∈ a ∨ x ∈ l
      · rw [if_pos z, if_pos (by rcases z with z | z <;> simp [z])]
      · rw [if_neg z, if_neg (fun q => z (by
          rcases q with q | q
          · exact .inl q
          · rcases List.mem_cons.mp q with rfl | q
            · exact .inl h
            · exact .inr q))]
    · rw [if_neg h, if_neg h, dst_snoc l (y :: a) x]
      by_cases z : x ∈ y :: a ∨ x ∈ l
      · rw [if_pos z, if_pos (by
          rcases z with z | z
          · rcases List.mem_cons.mp z with rfl | z
            · exact .inr List.mem_cons_self
            · exact .inl z
          · exact .inr (List.mem_cons_of_mem _ z))]
      · rw [if_neg z, if_neg (fun q => z (by
          rcases q with q | q
          · exact .inl (List.mem_cons_of_mem _ q)
          · rcases List.mem_cons.mp q with rfl | q
            · exact .inl List.mem_cons_self
            · exact .inr q))]
theorem dst_le : ∀ (l a : List Str), dst a l ≤ l.length
  | [], _ => Nat.le_refl 0
  | x :: r, a => by
    unfold dst
    rw [List.length_cons]
    split
    · exact Nat.le_succ_of_le (dst_le r a)
    · exact Nat.succ_le_succ (dst_le r _)
theorem dst_nodup : ∀ (l a : List Str), l.Nodup → (∀ x ∈ l, x ∉ a) → dst a l = l.length
  | [], _, _, _ => rfl
  | x :: r, a, h, d => by
    obtain ⟨h1, h2⟩ := List.nodup_cons.mp h
    unfold dst
    rw [if_neg (d x List.mem_cons_self), dst_nodup r (x :: a) h2 (fun y hy z => by
      rcases List.mem_cons.mp z with rfl | z
      · exact h1 hy
      · exact d y (List.mem_cons_of_mem _ hy) z)]
    rfl
section
variable {P : Program} {w : World} {A : Around} {R : Result → Shared → Prop} {it : Addr} {fp wr : List Addr} {G : Array GenState → Array GenState → Prop} {Pv : Nat → Value → Prop} {St : Nat → Shared → Prop} {xs : List Str}
/-- the set at D holds the first i texts -/
abbrev Has (P : Program) (w : World) (h : Heap) (D : Addr) (xs : List Str) (i : Nat) : Prop := h.SetOf (strKind P w) D (fun z => decide (z ∈ xs.take i)) (dst [] (xs.take i))
theorem Has.moved {h h' : Heap} {D : Addr} {i : Nat} (H : Has P w h D xs i) (k : ∀ o, h.get? D = some o → h'.get? D = some o) : Has P w h' D xs i := by
  obtain ⟨o, es, ep, t, e, r⟩ := H
  exact ⟨o, es, ep, t, k o e, r⟩
theorem fill_loop (W : WalksS P w A.in1 it fp wr G xs.length Pv St) {D : Addr} (hD : D ∉ fp) (small : xs.length < 4000) (hv : ∀ i v, Pv i v → ∃ z t, xs[i]? = some z ∧ v = .str z t) :
    ∀ (m i : Nat) (s : Shared), m + i = xs.length → St i s → Has P w s.heap D xs i → (∀ s', Moved (D :: wr) G s s' → Has P w s'.heap D xs xs.length → R (.ok (.ret .none)) s') →
      codeAny (model P w) A (.builtin "set.update.loop" ⟨[.ref D, .ref it], []⟩) R s := by
  have nw : D ∉ wr := fun z => hD (W.sub D z)
  have up : ∀ b ∈ wr, b ∈ D :: wr := fun b hb => List.mem_cons_of_mem D hb
  intro m
  induction m with
  | zero =>
    intro i s e st hs q
    obtain rfl : i = xs.length := by omega
    refine codeAny_builtin PyProof.Rows.F.entry_set_update_loop ?_
    rw [Around.under_plainId PyProof.Rows.F.plain_set_update_loop _]
    refine (show wpAny _ A.in1 (pyNext (.ref it) >>= _) _ _ s from wpAny_bind (W.done s _ _ st fun s1 mv => ?_))
    exact (show wpAny _ A.in1 (ret Value.none) _ _ s1 from wpAny_pure (q s1 (mv.mono up) (hs.moved fun o e => mv.heap D o nw e)))
  | succ m ih =>
    intro i s e st hs q
    refine codeAny_builtin PyProof.Rows.F.entry_set_update_loop ?_
    rw [Around.under_plainId PyProof.Rows.F.plain_set_update_loop _]
    refine (show wpAny _ A.in1 (pyNext (.ref it) >>= _) _ _ s from wpAny_bind (W.item i s _ _ (by omega) st fun v s1 pv st1 mv => ?_))
    obtain ⟨z, t, hz, rfl⟩ := hv i v pv
    have hs1 : Has P w s1.heap D xs i := hs.moved fun o e => mv.heap D o nw e
    refine (show wpAny _ A.in1 (holding [Value.str z t] (setAdd D (.str z t)) >>= _) _ _ s1 from wpAny_bind (wpAny_holding ?_))
    unfold setAdd
    refine wpAny_holding (wpAny_bind ((strKind P w).pyHash (k := z) (strKind_is P w z t) ?_))
    have le := dst_le (xs.take i) []
    rw [List.length_take] at le
    refine wpAny_setAddHashed_of (knd := strKind P w) (s := { s1 with toks := s1.toks + 1 }) (strKind_is P w z t) rfl hs1 (by unfold scanBound; omega) fun h2 sb hs2 => ?_
    have tk : xs.take (i + 1) = xs.take i ++ [z] := by rw [List.take_add_one, hz]; rfl
    have hs3 : Has P w h2 D xs (i + 1) := by
      unfold Has
      rw [tk, dst_snoc]
      refine SetOf_congr hs2 (fun y => ?_) ?_
      · simp only [List.mem_append, List.mem_singleton, Bool.decide_or]
      · simp only [List.not_mem_nil, false_or, decide_eq_true_eq]
    refine wpAny_pure ⟨plainId_quiet PyProof.Rows.F.plain_set_update_loop _, ih (i + 1) _ (by omega) (W.frame _ s1 _ _ st1 (Nat.le_succ _) fun b hb o e => ?_) hs3 fun s2 mv2 hs4 => ?_⟩
    · rw [sb.2 b fun y => hD (y ▸ hb)]
      exact e
    · refine q s2 (Moved.trans W.gtrans ((mv.mono up).then_heap (Nat.le_succ _) fun b o hb e => ?_) mv2) hs4
      rw [sb.2 b fun y => hb (y ▸ List.mem_cons_self)]
      exact e
end
section
variable {P : Program} {w : World} {A : Around} {E : Value → Shared → Prop} {s : Shared} {xs : List Str}
theorem texts_at {us : List Value} (r : StrsAre us xs) {i : Nat} {v : Value} (e : us[i]? = some v) : ∃ z t, xs[i]? = some z ∧ v = .str z t := by
  induction r generalizing i with
  | nil => simp at e
  | cons y t r ih =>
    cases i with
    | zero => exact ⟨y, t, rfl, (Option.some.inj e).symm⟩
    | succ i => exact ih (i := i) (by simpa using e)
/-- a set without members -/
abbrev oNew (led : Bool) : Obj := { cls := .type "set", dict := none, data := .set #[] 0 (.fresh 0 0 led) }
theorem set_listT {l : Addr} {its : Array Value} {Q : Value → Shared → Prop} (quiet : A.handled = none) (src : s.heap.IsList l its) (r : StrsAre its.toList xs) (small : xs.length < 4000)
    (q : ∀ (h1 : Heap) (k : Nat), Has P w h1 s.heap.objs.size xs xs.length → (∀ b o, s.heap.get? b = some o → h1.get? b = some o) → Q (.ref s.heap.objs.size) { s with heap := h1, toks := k }) :
    wpAny (model P w) A (call (.type "set") [.ref l]) Q E s := by
  have len : its.size = xs.length := by rw [← Array.length_toList, StrsAre.len_eq r]
  obtain ⟨m1, m2, m3⟩ := PySem.F.called_set.mro
  have m4 := PySem.F.called_set.made
  have m5 := PySem.F.called_set.sub
  refine wpAny_call (codeAny_of_tree (show wpAny _ _ (callAny (.type "set") _) _ _ _ from wpAny_pure ⟨Code.quiet_builtin _ (by decide +kernel), codeAny_builtin PySem.F.entry_type_call ?_⟩))
  rw [Around.under_plain (weight_type_call_type "set" [.ref l] []) rfl]
  have m6 := PySem.F.called_set.notType
  have m7 := PySem.F.called_set.canCreate
  have m8 := PySem.F.typeCall_set_1 (.ref l)
  repeat (any_goals (first | assumption | wp_step))
  refine codeAny_mono (code_set_new_1 (.ref l) (E := E) (Q₁ := fun x s1 => ∃ led : Bool, x = .ref s.heap.objs.size ∧ s1 = { s with heap := s.heap.push (oNew led) }) fun led => ⟨led, rfl, rfl⟩) fun z s1 hz => ?_
  cases z with
  | error e => exact hz
  | ok fl =>
    cases fl with
    | ret x =>
      obtain ⟨led, rfl, rfl⟩ := hz
      have atD : (s.heap.push (oNew led)).get? s.heap.objs.size = some (oNew led) := Heap.get?_push_size _ rfl
      have isS : Shared.TypeIs { s with heap := s.heap.push (oNew led) } (.ref s.heap.objs.size) "set" := ⟨_, atD, rfl⟩
      have m9 := PySem.F.called_set.init.lookup
      have m0 := PySem.F.called_set.init.bind (.ref s.heap.objs.size)
      repeat (any_goals (first | assumption | wp_step))
      refine codeAny_mono (codeAny_call_builtin (R := wants (fun y s2 => y = .none ∧ ∃ h1 k, s2 = { s with heap := h1, toks := k } ∧ Has P w h1 s.heap.objs.size xs xs.length ∧
          ∀ b o, s.heap.get? b = some o → h1.get? b = some o) E) PySem.F.called_set.init.plain PySem.F.entry_set_init (check_set_init_1 isS ?_)) fun y s2 hy => ?_
      · obtain ⟨⟨c0, d0, dt, sl⟩, hl, hc, n, hd⟩ := src
        simp only at hc hd
        subst hc
        subst hd
        have lS : l < s.heap.objs.size := Heap.lt_size hl
        have hl1 : (s.heap.push (oNew led)).get? l = some { cls := .type "list", dict := d0, data := .seq its n, slots := sl } := Heap.get?_push_of_some _ hl
        have u1 := PySem.F.sub_list_set
        have u2 := PySem.F.sub_list_frozenset
        have u3 : (Value.type "list" == Value.type "dict") = false := by decide
        have src1 : (s.heap.push (oNew led)).IsList l its := ⟨_, hl1, rfl, n, rfl⟩
        unfold Builtin.«set.__init__» noKeywords Builtin.Frozenset.updateFrom
        generalize ei : pyIter = pI
        wp_walk
        subst ei
        refine wpAny_pyIter_list src1 (wpAny_bind (wpAny_runValue ?_))
        have q3 : A.in1.in1.in1.handled = none := by simp [quiet]
        have sz : (s.heap.push (oNew led)).objs.size = s.heap.objs.size + 1 := by rw [Heap.size_push]
        have n1 : l ≠ (s.heap.push (oNew led)).objs.size := fun z => Nat.ne_of_lt (Nat.lt_succ_of_lt lS) (z.trans sz)
        have n2 : s.heap.objs.size ∉ [(s.heap.push (oNew led)).objs.size, l] := fun z => by
          simp only [List.mem_cons, List.not_mem_nil, or_false] at z
          rcases z with z | z
          · exact Nat.ne_of_lt (Nat.lt_succ_self _) (z.trans sz)
          · exact Nat.ne_of_gt lS z
        have W := (Walks.list (prog := P) (w := w) q3 _ l n1 its).toS
        rw [len] at W
        refine fill_loop (xs := xs) W n2 small (fun i v e => texts_at r (by rw [Array.getElem?_toList]; exact e)) xs.length 0 _ rfl ⟨⟨_, Heap.get?_push_size _ rfl, rfl, rfl⟩, src1.push _⟩ ?_ fun s3 mv hs => ?_
        · exact SetOf_congr ((setObjOf_fresh (knd := strKind P w) led).setOf (Heap.get?_push_of_some _ atD) (by unfold scanBound; omega)) (fun _ => rfl) rfl
        · obtain ⟨h1, g1, d1, k1, o1⟩ := s3
          obtain ⟨mh, mg, md, mo, mt⟩ := mv
          have mg : g1 = s.gens := mg
          have md : d1 = s.drawn := md
          have mo : o1 = s.os := mo
          subst mg
          subst md
          subst mo
          refine (show wpAny _ _ _ _ _ _ from wpAny_pure (show wpAny _ _ (ret Value.none) _ _ _ from wpAny_pure ⟨rfl, h1, k1, rfl, hs, fun b o e => ?_⟩))
          have bS : b < s.heap.objs.size := Heap.lt_size e
          refine mh b o (fun z => ?_) (Heap.get?_push_of_some _ (Heap.get?_push_of_some _ e))
          simp only [List.mem_cons, List.not_mem_nil, or_false] at z
          rcases z with z | z
          · exact Nat.ne_of_lt bS z
          · exact Nat.ne_of_lt (Nat.lt_succ_of_lt bS) (z.trans sz)
      · cases y with
        | error e => exact hy
        | ok f2 =>
          cases f2 with
          | ret y =>
            obtain ⟨rfl, h1, k1, rfl, a1, a2⟩ := hy
            repeat (any_goals (first | assumption | wp_step))
            exact q h1 k1 a1 a2
          | _ => exact hy.elim
    | _ => exact hz.elim
theorem set_tupleT {l : Addr} {its : Array Value} {Q : Value → Shared → Prop} (quiet : A.handled = none) (src : s.heap.IsTuple l its) (r : StrsAre its.toList xs) (small : xs.length < 4000)
    (q : ∀ (h1 : Heap) (k : Nat), Has P w h1 s.heap.objs.size xs xs.length → (∀ b o, s.heap.get? b = some o → h1.get? b = some o) → Q (.ref s.heap.objs.size) { s with heap := h1, toks := k }) :
    wpAny (model P w) A (call (.type "set") [.ref l]) Q E s := by
  have len : its.size = xs.length := by rw [← Array.length_toList, StrsAre.len_eq r]
  obtain ⟨m1, m2, m3⟩ := PySem.F.called_set.mro
  have m4 := PySem.F.called_set.made
  have m5 := PySem.F.called_set.sub
  refine wpAny_call (codeAny_of_tree (show wpAny _ _ (callAny (.type "set") _) _ _ _ from wpAny_pure ⟨Code.quiet_builtin _ (by decide +kernel), codeAny_builtin PySem.F.entry_type_call ?_⟩))
  rw [Around.under_plain (weight_type_call_type "set" [.ref l] []) rfl]
  have m6 := PySem.F.called_set.notType
  have m7 := PySem.F.called_set.canCreate
  have m8 := PySem.F.typeCall_set_1 (.ref l)
  repeat (any_goals (first | assumption | wp_step))
  refine codeAny_mono (code_set_new_1 (.ref l) (E := E) (Q₁ := fun x s1 => ∃ led : Bool, x = .ref s.heap.objs.size ∧ s1 = { s with heap := s.heap.push (oNew led) }) fun led => ⟨led, rfl, rfl⟩) fun z s1 hz => ?_
  cases z with
  | error e => exact hz
  | ok fl =>
    cases fl with
    | ret x =>
      obtain ⟨led, rfl, rfl⟩ := hz
      have atD : (s.heap.push (oNew led)).get? s.heap.objs.size = some (oNew led) := Heap.get?_push_size _ rfl
      have isS : Shared.TypeIs { s with heap := s.heap.push (oNew led) } (.ref s.heap.objs.size) "set" := ⟨_, atD, rfl⟩
      have m9 := PySem.F.called_set.init.lookup
      have m0 := PySem.F.called_set.init.bind (.ref s.heap.objs.size)
      repeat (any_goals (first | assumption | wp_step))
      refine codeAny_mono (codeAny_call_builtin (R := wants (fun y s2 => y = .none ∧ ∃ h1 k, s2 = { s with heap := h1, toks := k } ∧ Has P w h1 s.heap.objs.size xs xs.length ∧
          ∀ b o, s.heap.get? b = some o → h1.get? b = some o) E) PySem.F.called_set.init.plain PySem.F.entry_set_init (check_set_init_1 isS ?_)) fun y s2 hy => ?_
      · obtain ⟨⟨c0, d0, dt, sl⟩, hl, hc, n, hd⟩ := src
        simp only at hc hd
        subst hc
        subst hd
        have lS : l < s.heap.objs.size := Heap.lt_size hl
        have hl1 : (s.heap.push (oNew led)).get? l = some { cls := .type "tuple", dict := d0, data := .seq its n, slots := sl } := Heap.get?_push_of_some _ hl
        have u1 := PySem.F.sub_tuple_set
        have u2 := PySem.F.sub_tuple_frozenset
        have u3 : (Value.type "tuple" == Value.type "dict") = false := by decide
        have src1 : (s.heap.push (oNew led)).IsTuple l its := ⟨_, hl1, rfl, n, rfl⟩
        unfold Builtin.«set.__init__» noKeywords Builtin.Frozenset.updateFrom
        generalize ei : pyIter = pI
        wp_walk
        subst ei
        refine wpAny_pyIter_tuple src1 (wpAny_bind (wpAny_runValue ?_))
        have q3 : A.in1.in1.in1.handled = none := by simp [quiet]
        have sz : (s.heap.push (oNew led)).objs.size = s.heap.objs.size + 1 := by rw [Heap.size_push]
        have n1 : l ≠ (s.heap.push (oNew led)).objs.size := fun z => Nat.ne_of_lt (Nat.lt_succ_of_lt lS) (z.trans sz)
        have n2 : s.heap.objs.size ∉ [(s.heap.push (oNew led)).objs.size, l] := fun z => by
          simp only [List.mem_cons, List.not_mem_nil, or_false] at z
          rcases z with z | z
          · exact Nat.ne_of_lt (Nat.lt_succ_self _) (z.trans sz)
          · exact Nat.ne_of_gt lS z
        have W := (Walks.tuple (prog := P) (w := w) q3 _ l n1 its).toS
        rw [len] at W
        refine fill_loop (xs := xs) W n2 small (fun i v e => texts_at r (by rw [Array.getElem?_toList]; exact e)) xs.length 0 _ rfl ⟨⟨_, Heap.get?_push_size _ rfl, rfl, rfl⟩, src1.push _⟩ ?_ fun s3 mv hs => ?_
        · exact SetOf_congr ((setObjOf_fresh (knd := strKind P w) led).setOf (Heap.get?_push_of_some _ atD) (by unfold scanBound; omega)) (fun _ => rfl) rfl
        · obtain ⟨h1, g1, d1, k1, o1⟩ := s3
          obtain ⟨mh, mg, md, mo, mt⟩ := mv
          have mg : g1 = s.gens := mg
          have md : d1 = s.drawn := md
          have mo : o1 = s.os := mo
          subst mg
          subst md
          subst mo
          refine (show wpAny _ _ _ _ _ _ from wpAny_pure (show wpAny _ _ (ret Value.none) _ _ _ from wpAny_pure ⟨rfl, h1, k1, rfl, hs, fun b o e => ?_⟩))
          have bS : b < s.heap.objs.size := Heap.lt_size e
          refine mh b o (fun z => ?_) (Heap.get?_push_of_some _ (Heap.get?_push_of_some _ e))
          simp only [List.mem_cons, List.not_mem_nil, or_false] at z
          rcases z with z | z
          · exact Nat.ne_of_lt bS z
          · exact Nat.ne_of_lt (Nat.lt_succ_of_lt bS) (z.trans sz)
      · cases y with
        | error e => exact hy
        | ok f2 =>
          cases f2 with
          | ret y =>
            obtain ⟨rfl, h1, k1, rfl, a1, a2⟩ := hy
            repeat (any_goals (first | assumption | wp_step))
            exact q h1 k1 a1 a2
          | _ => exact hy.elim
    | _ => exact hz.elim
end
end Dd
/-! DwSet2 -/
namespace Dd
open PySem PySem.Spec PyProof.Rows L2
def strsD : List PyData → Option (List Str)
  | [] => some []
  | .str x :: r => (strsD r).map (x :: ·)
  | _ => none
theorem strs_rp {K : PySem.W.Frag} {S : List Addr} {H : Hp} : ∀ {vs : List V} {ds : List PyData} {ss : List Str}, RpAll K S H vs ds → strsD ds = some ss → vs = ss.map V.str
  | _, _, ss, .nil, e => by
    cases e
    rfl
  | _, d :: ds, ss, .cons (v := v) h t, e => by
    cases d with
    | str x =>
      obtain ⟨r, e1, rfl⟩ := Option.map_eq_some_iff.mp (show (strsD ds).map (x :: ·) = some ss from e)
      cases h
      rw [strs_rp t e1]
      rfl
    | _ => cases (show (none : Option (List Str)) = some ss from e)
def lenSetN : SD → Option Int
  | .d (.list ds) => (strsD ds).bind fun ss => if ss.length < 4000 then some ((dst [] ss : Nat) : Int) else none
  | .d (.tuple ds) => (strsD ds).bind fun ss => if ss.length < 4000 then some ((dst [] ss : Nat) : Int) else none
  | _ => none
section
variable {X : Cx} {EX : L2.St → XK} {e : Expr} {p p2 q2 pos : Pos} {T : List SD → M SD}
/-- len(set(texts)) -/
def tLenSetT (K : PySem.W.Frag) (ta : TE) : TE := fun σ H Q => ta σ H fun x H1 => ∃ l, ∃ xs : List Str, x = .ref l ∧ (SqL K H1 l (xs.map V.str) ∨ SqT K H1 l (xs.map V.str)) ∧ xs.length < 4000 ∧ Q (.int (dst [] xs : Nat)) H1
theorem pe_lenSetT {ta : TE} (hc : X.calm = true) (hg : Gl X "len") (hm : X.mg "len" = none) (hg2 : Gl X "set") (hm2 : X.mg "set" = none) (ha : PE X e ta)
    (na : starEach [e] X.env = (false, eval e X.env) :: starEach [] X.env := by rfl) : PE X (.Call (.Name "len" p) [.Call (.Name "set" p2) [e] [] q2] [] pos) (tLenSetT X.K ta) := by
  refine ⟨fun pins s σ H Q I h => Call_ (ld_blt I hg hm boot_len (callWith_builtin1 (args_cons (Call_ (ld_blt I hg2 hm2 boot_set ?_)) rfl) rfl rfl))⟩
  refine callWith_type1 (args_cons (thn (ha.run pins s σ H _ I h) fun v s1 ⟨x, H1, I1, r1, l, xs, e1, sq, small, q1⟩ => args_nil ?_) na) na rfl
  subst e1
  cases r1
  have fin : ∀ (h1 : Heap) (k : Nat), Has X.prog X.w h1 s1.heap.objs.size xs xs.length → (∀ b o, s1.heap.get? b = some o → h1.get? b = some o) →
      wpAny (model X.prog X.w) X.A (spliced (backTo pos (starEach [] X.env))) (fun vs s₂ => wpAny (model X.prog X.w) X.A (call (.builtin "len") (Value.ref s1.heap.objs.size :: vs)) (EP X pins σ Q) X.xe s₂) X.xe { s1 with heap := h1, toks := k } := fun h1 k hs kp => by
    refine args_nil ?_
    unfold Has at hs
    rw [List.take_length] at hs
    have le := dst_le xs []
    obtain ⟨o, es, ep, t, ho, hex, hd, _, _, _, hf, hn⟩ := hs
    exact call_len_set ho hex hd hf (by rw [hn]; omega) ⟨.int (dst [] xs : Nat), H1, (I1.kept kp).tok _, ⟨_, by rw [hn]⟩, q1⟩
  rcases sq with sq | sq
  · obtain ⟨its, r, pl, _⟩ := I1.list sq
    exact set_listT (I1.ok.hd hc) pl.isList (by simpa using strsAre_of r) small fin
  · obtain ⟨its, r, pl, _⟩ := I1.tuple sq
    exact set_tupleT (I1.ok.hd hc) pl (by simpa using strsAre_of r) small fin
theorem de_lenSetN (hc : X.calm = true) (hg : Gl X "len") (hm : X.mg "len" = none) (hg2 : Gl X "set") (hm2 : X.mg "set" = none) (ha : DE X EX e T) (na : starEach [e] X.env = (false, eval e X.env) :: starEach [] X.env := by rfl) :
    DE X EX (.Call (.Name "len" p) [.Call (.Name "set" p2) [e] [] q2] [] pos) (fun ρ => do let x ← T ρ; let n ← M.lift (lenSetN x); pure (dI n)) := by
  refine pe_imp (pe_lenSetT hc hg hm hg2 hm2 ha na) fun σ H Q ⟨W, ρ, ok, rel, h⟩ => ?_
  refine ⟨W, ρ, ok, rel, (T ρ).mono (fun x h1 v H1 k1 ok1 r1 => ?_) (fun e h => h) h⟩
  obtain ⟨z, hz, q⟩ := run_lift.mp h1
  unfold lenSetN at hz
  split at hz
  · obtain ⟨ss, e1, e2⟩ := Option.bind_eq_some_iff.mp hz
    split at e2
    · rename_i small
      cases e2
      cases r1 with
      | lst l t =>
        obtain rfl := strs_rp t e1
        exact ⟨_, ss, rfl, .inl l.sq, small, q _ H1 k1 ok1 (.int _)⟩
    · cases e2
  · obtain ⟨ss, e1, e2⟩ := Option.bind_eq_some_iff.mp hz
    split at e2
    · rename_i small
      cases e2
      cases r1 with
      | tup l t =>
        obtain rfl := strs_rp t e1
        exact ⟨_, ss, rfl, .inr l, small, q _ H1 k1 ok1 (.int _)⟩
    · cases e2
  · cases hz
end
end Dd
/-! DwP4 -/
namespace Dd
open PySem PySem.Spec PyProof.Rows L2
section
variable {P : Program} {w : World} {κ : Type} [DecidableEq κ] {R : RK P w κ} {a : Addr} {L : List (Addr × κ)} {es : Array (Int × Value)} {ep : Nat} {t : SetTable}
theorem SP.kept {h h' : Heap} (S : SP R h a L es ep t) (ka : ∀ o, h.get? a = some o → h'.get? a = some o) (kk : ∀ p ∈ L, R.at_ h' p.2 p.1) : SP R h' a L es ep t := by
  obtain ⟨⟨o, e, r⟩, s2, s3, s4, _, s7, s8, s9⟩ := S
  exact ⟨⟨o, ka o e, r⟩, s2, s3, s4, kk, s7, s8, s9⟩
/-- the members are the first i of these -/
structure Mm (ks : List (Addr × κ)) (i : Nat) (L : List (Addr × κ)) : Prop where
  sub : ∀ p ∈ L, p ∈ ks
  iff : ∀ k, k ∈ L.map (fun p => p.2) ↔ k ∈ (ks.take i).map fun p => p.2
  len : L.length ≤ i
theorem Mm.zero (ks : List (Addr × κ)) : Mm ks 0 [] := ⟨fun p h => absurd h List.not_mem_nil, fun k => by simp, Nat.le_refl _⟩
theorem Mm.next {ks : List (Addr × κ)} {i : Nat} {L' : List (Addr × κ)} {p : Addr × κ} (m : Mm ks i L) (hp : ks[i]? = some p) (c1 : p.2 ∈ L.map (fun p => p.2) → L' = L) (c2 : p.2 ∉ L.map (fun p => p.2) → L'.Perm ((p.1, p.2) :: L)) : Mm ks (i + 1) L' := by
  have tk : ks.take (i + 1) = ks.take i ++ [p] := by rw [List.take_add_one, hp]; rfl
  by_cases c : p.2 ∈ L.map fun p => p.2
  · rw [c1 c]
    refine ⟨m.sub, fun k => ?_, Nat.le_succ_of_le m.len⟩
    rw [tk, List.map_append, List.mem_append, m.iff k]
    refine ⟨.inl, fun z => z.elim id fun z => ?_⟩
    rw [List.map_cons, List.map_nil, List.mem_singleton] at z
    rw [z, ← m.iff]
    exact c
  · have pm := c2 c
    refine ⟨fun q hq => ?_, fun k => ?_, by rw [pm.length_eq, List.length_cons]; exact Nat.succ_le_succ m.len⟩
    · rcases List.mem_cons.mp (pm.mem_iff.mp hq) with z | z
      · rw [z]; exact List.mem_of_getElem? hp
      · exact m.sub q z
    · rw [tk, List.map_append, List.mem_append, (pm.map fun p => p.2).mem_iff, List.map_cons, List.mem_cons, m.iff k, List.map_cons, List.map_nil, List.mem_singleton]
      exact Or.comm
theorem sx_new {h : Heap} (e : h.get? a = some (oNew (!w.params.followText "set-order"))) : SP R h a [] #[] 0 (.fresh 0 0 (!w.params.followText "set-order")) := by
  refine ⟨⟨_, e, ⟨rfl, rfl, rfl⟩, rfl⟩, rfl, ⟨List.Pairwise.nil, rfl, rfl, .inl rfl, fun x h => absurd h List.not_mem_nil, fun i h j z => by simp at z⟩, List.nodup_nil, fun p h => absurd h List.not_mem_nil, ?_, show 0 * 5 < 7 * 3 from by decide, show 0 < 64 from by decide⟩
  cases h2 : w.params.followText "set-order"
  · exact .inr (by simp [SetTable.fresh])
  · exact .inl rfl
end
section
variable {P : Program} {w : World} {κ : Type} [DecidableEq κ] {R : RK P w κ} {A : Around} {Z : Result → Shared → Prop} {it D : Addr} {fp wr : List Addr} {G : Array GenState → Array GenState → Prop} {Pv : Nat → Value → Prop} {St : Nat → Shared → Prop} {ks : List (Addr × κ)} {h0 : Heap}
abbrev Kps (h h' : Heap) : Prop := ∀ b o, h.get? b = some o → h'.get? b = some o
theorem sx_fill (W : WalksS P w A.in1 it fp wr G ks.length Pv St) (nD : D ∉ fp) (few : ks.length < 64) (hv : ∀ i v, Pv i v → ∃ p, ks[i]? = some p ∧ v = .ref p.1) (k0 : ∀ p ∈ ks, R.at_ h0 p.2 p.1) (d0 : h0.get? D = none) (w0 : ∀ b ∈ wr, h0.get? b = none) (hu : A.in1.units < cLine) :
    ∀ (m i : Nat) (s : Shared), m + i = ks.length → St i s → Kps h0 s.heap → (∃ L es ep t, SP R s.heap D L es ep t ∧ Mm ks i L) → (∀ s' L es ep t, Moved (D :: wr) G s s' → SP R s'.heap D L es ep t → Mm ks ks.length L → Kps h0 s'.heap → Z (.ok (.ret .none)) s') →
      codeAny (model P w) A (.builtin "set.update.loop" ⟨[.ref D, .ref it], []⟩) Z s := by
  have nw : D ∉ wr := fun z => nD (W.sub D z)
  have up : ∀ b ∈ wr, b ∈ D :: wr := fun b hb => List.mem_cons_of_mem D hb
  have kp : ∀ {u u' : Shared}, Moved wr G u u' → Kps h0 u.heap → Kps h0 u'.heap := fun mv k b o e => mv.heap b o (fun z => by rw [w0 b z] at e; cases e) (k b o e)
  have al : ∀ {h' : Heap} {p : Addr × κ}, Kps h0 h' → p ∈ ks → R.at_ h' p.2 p.1 := fun k hp => R.keep (k0 _ hp) fun o e => k _ o e
  intro m
  induction m with
  | zero =>
    intro i s e st k0s ⟨L, es, ep, t, S, mm⟩ q
    obtain rfl : i = ks.length := by omega
    refine codeAny_builtin PyProof.Rows.F.entry_set_update_loop ?_
    rw [Around.under_plainId PyProof.Rows.F.plain_set_update_loop _]
    refine (show wpAny _ A.in1 (pyNext (.ref it) >>= _) _ _ s from wpAny_bind (W.done s _ _ st fun s1 mv => ?_))
    have k1 := kp mv k0s
    exact (show wpAny _ A.in1 (ret Value.none) _ _ s1 from wpAny_pure (q s1 L es ep t (mv.mono up) (S.kept (fun o e => mv.heap D o nw e) fun p hp => al k1 (mm.sub p hp)) mm k1))
  | succ m ih =>
    intro i s e st k0s ⟨L, es, ep, t, S, mm⟩ q
    refine codeAny_builtin PyProof.Rows.F.entry_set_update_loop ?_
    rw [Around.under_plainId PyProof.Rows.F.plain_set_update_loop _]
    refine (show wpAny _ A.in1 (pyNext (.ref it) >>= _) _ _ s from wpAny_bind (W.item i s _ _ (by omega) st fun v s1 pv st1 mv => ?_))
    obtain ⟨p, hp, rfl⟩ := hv i v pv
    have k1 := kp mv k0s
    have S1 : SP R s1.heap D L es ep t := S.kept (fun o e => mv.heap D o nw e) fun p hp => al k1 (mm.sub p hp)
    have at1 := al k1 (List.mem_of_getElem? hp)
    refine (show wpAny _ A.in1 (holding [Value.ref p.1] (setAdd D (.ref p.1)) >>= _) _ _ s1 from wpAny_bind (wpAny_holding ?_))
    unfold setAdd
    refine wpAny_holding (wpAny_bind (R.pyh hu at1 fun n => ?_))
    have ml := mm.len
    refine sx_add (s := { s1 with toks := s1.toks + n }) S1 at1 hu (by omega) fun b h' L' es' ep' t' sb S2 c1 c2 => ?_
    have k2 : Kps h0 h' := fun b o e => (sb.2 b fun z => by rw [z, d0] at e; cases e).trans (k1 b o e)
    refine wpAny_pure ⟨plainId_quiet PyProof.Rows.F.plain_set_update_loop _, ih (i + 1) _ (by omega) (W.frame _ s1 _ _ st1 (Nat.le_add_right _ _) fun b hb o e => ?_) k2 ⟨L', es', ep', t', S2, mm.next hp c1 c2⟩ fun s2 L2 es2 ep2 t2 mv2 S3 mm3 k3 => ?_⟩
    · rw [sb.2 b fun y => nD (y ▸ hb)]
      exact e
    · refine q s2 L2 es2 ep2 t2 (Moved.trans W.gtrans ((mv.mono up).then_heap (Nat.le_add_right _ _) fun b o hb e => ?_) mv2) S3 mm3 k3
      rw [sb.2 b fun y => hb (y ▸ List.mem_cons_self)]
      exact e
end
section
variable {P : Program} {w : World} {κ : Type} [DecidableEq κ] {R : RK P w κ} {A : Around} {E : Value → Shared → Prop} {s : Shared} {ks : List (Addr × κ)}
theorem sx_set {l : Addr} {its : Array Value} {Q : Value → Shared → Prop} (quiet : A.handled = none) (src : s.heap.IsList l its) (r : its.toList = ks.map fun p => Value.ref p.1) (key : ∀ p ∈ ks, R.at_ s.heap p.2 p.1) (few : ks.length < 64) (hu : A.units + 64 < cLine)
    (q : ∀ (h1 : Heap) (k : Nat) L es ep t, SP R h1 s.heap.objs.size L es ep t → Mm ks ks.length L → (∀ b o, s.heap.get? b = some o → h1.get? b = some o) → Q (.ref s.heap.objs.size) { s with heap := h1, toks := k }) :
    wpAny (model P w) A (call (.type "set") [.ref l]) Q E s := by
  have len : its.size = ks.length := by rw [← Array.length_toList, r, List.length_map]
  obtain ⟨m1, m2, m3⟩ := PySem.F.called_set.mro
  have m4 := PySem.F.called_set.made
  have m5 := PySem.F.called_set.sub
  refine wpAny_call (codeAny_of_tree (show wpAny _ _ (callAny (.type "set") _) _ _ _ from wpAny_pure ⟨Code.quiet_builtin _ (by decide +kernel), codeAny_builtin PySem.F.entry_type_call ?_⟩))
  rw [Around.under_plain (weight_type_call_type "set" [.ref l] []) rfl]
  have m6 := PySem.F.called_set.notType
  have m7 := PySem.F.called_set.canCreate
  have m8 := PySem.F.typeCall_set_1 (.ref l)
  repeat (any_goals (first | assumption | wp_step))
  refine codeAny_mono (code_set_led1 (.ref l) (E := E) (Q₁ := fun x s1 => x = .ref s.heap.objs.size ∧ s1 = { s with heap := s.heap.push (oNew (!w.params.followText "set-order")) }) ⟨rfl, rfl⟩) fun z s1 hz => ?_
  generalize hled : (!w.params.followText "set-order") = led at hz
  cases z with
  | error e => exact hz
  | ok fl =>
    cases fl with
    | ret x =>
      obtain ⟨rfl, rfl⟩ := hz
      have atD : (s.heap.push (oNew led)).get? s.heap.objs.size = some (oNew led) := Heap.get?_push_size _ rfl
      have isS : Shared.TypeIs { s with heap := s.heap.push (oNew led) } (.ref s.heap.objs.size) "set" := ⟨_, atD, rfl⟩
      have m9 := PySem.F.called_set.init.lookup
      have m0 := PySem.F.called_set.init.bind (.ref s.heap.objs.size)
      repeat (any_goals (first | assumption | wp_step))
      refine codeAny_mono (codeAny_call_builtin (R := wants (fun y s2 => y = .none ∧ ∃ h1 k, s2 = { s with heap := h1, toks := k } ∧ (∃ L es ep t, SP R h1 s.heap.objs.size L es ep t ∧ Mm ks ks.length L) ∧
          ∀ b o, s.heap.get? b = some o → h1.get? b = some o) E) PySem.F.called_set.init.plain PySem.F.entry_set_init (check_set_init_1 isS ?_)) fun y s2 hy => ?_
      · obtain ⟨⟨c0, d0, dt, sl⟩, hl, hc, n, hd⟩ := src
        simp only at hc hd
        subst hc
        subst hd
        have lS : l < s.heap.objs.size := Heap.lt_size hl
        have hl1 : (s.heap.push (oNew led)).get? l = some { cls := .type "list", dict := d0, data := .seq its n, slots := sl } := Heap.get?_push_of_some _ hl
        have u1 := PySem.F.sub_list_set
        have u2 := PySem.F.sub_list_frozenset
        have u3 : (Value.type "list" == Value.type "dict") = false := by decide
        have src1 : (s.heap.push (oNew led)).IsList l its := ⟨_, hl1, rfl, n, rfl⟩
        unfold Builtin.«set.__init__» noKeywords Builtin.Frozenset.updateFrom
        generalize ei : pyIter = pI
        wp_walk
        subst ei
        refine wpAny_pyIter_list src1 (wpAny_bind (wpAny_runValue ?_))
        have q3 : A.in1.in1.in1.handled = none := by simp [quiet]
        have sz : (s.heap.push (oNew led)).objs.size = s.heap.objs.size + 1 := by rw [Heap.size_push]
        have n1 : l ≠ (s.heap.push (oNew led)).objs.size := fun z => Nat.ne_of_lt (Nat.lt_succ_of_lt lS) (z.trans sz)
        have n2 : s.heap.objs.size ∉ [(s.heap.push (oNew led)).objs.size, l] := fun z => by
          simp only [List.mem_cons, List.not_mem_nil, or_false] at z
          rcases z with z | z
          · exact Nat.ne_of_lt (Nat.lt_succ_self _) (z.trans sz)
          · exact Nat.ne_of_gt lS z
        have W := (Walks.list (prog := P) (w := w) q3 _ l n1 its).toS
        rw [len] at W
        have none0 : ∀ b, s.heap.objs.size ≤ b → s.heap.get? b = none := fun b hb => by
          cases z : s.heap.get? b with
          | none => rfl
          | some o => exact absurd (Heap.lt_size z) (Nat.not_lt.mpr hb)
        refine sx_fill (R := R) (h0 := s.heap) W n2 few (fun i v e => ?_) key (none0 _ (Nat.le_refl _)) (fun b hb => ?_) (by simp; omega) ks.length 0 _ rfl ⟨⟨_, Heap.get?_push_size _ rfl, rfl, rfl⟩, src1.push _⟩ (fun b o e => Heap.get?_push_of_some _ (Heap.get?_push_of_some _ e)) ⟨[], _, _, _, sx_new (by rw [hled]; exact Heap.get?_push_of_some _ atD), Mm.zero ks⟩ fun s3 L es ep t mv S mm k3 => ?_
        · have e2 : its.toList[i]? = some v := by rw [Array.getElem?_toList]; exact e
          rw [r, List.getElem?_map] at e2
          obtain ⟨p, hp, ep⟩ := Option.map_eq_some_iff.mp e2
          exact ⟨p, hp, ep.symm⟩
        · refine none0 b ?_
          rw [List.mem_singleton.mp hb, sz]
          exact Nat.le_succ _
        · obtain ⟨h1, g1, d1, k1, o1⟩ := s3
          obtain ⟨mh, mg, md, mo, mt⟩ := mv
          have mg : g1 = s.gens := mg
          have md : d1 = s.drawn := md
          have mo : o1 = s.os := mo
          subst mg
          subst md
          subst mo
          exact (show wpAny _ _ _ _ _ _ from wpAny_pure (show wpAny _ _ (ret Value.none) _ _ _ from wpAny_pure ⟨rfl, h1, k1, rfl, ⟨L, es, ep, t, S, mm⟩, k3⟩))
      · cases y with
        | error e => exact hy
        | ok f2 =>
          cases f2 with
          | ret y =>
            obtain ⟨rfl, h1, k1, rfl, ⟨L, es, ep, t, a1, a3⟩, a2⟩ := hy
            repeat (any_goals (first | assumption | wp_step))
            exact q h1 k1 L es ep t a1 a3 a2
          | _ => exact hy.elim
    | _ => exact hz.elim
end
end Dd
/-! DwP5 -/
/-! tuples of texts as members -/
namespace Dd
open PySem PySem.Spec PyProof.Rows L2
section
variable {P : Program} {w : World} {A : Around} {E : Value → Shared → Prop} {s : Shared}
theorem items_txt {k : List Str} {vs : List Value} (h : ItemsAre (strKind P w) k vs) : ∀ v ∈ vs, ∃ x t, v = Value.str x t := by
  induction h with
  | nil => exact fun v hv => absurd hv List.not_mem_nil
  | cons h1 _ ih =>
    intro v hv
    rcases List.mem_cons.mp hv with rfl | hv
    · obtain ⟨t, rfl⟩ := Value.isStrOf_shape h1
      exact ⟨_, t, rfl⟩
    · exact ih v hv
theorem cls_txt (n : Nat) (x : Str) (t : Tok) : ofAClassStatement n (.str x t) = pure false := by cases n <;> rfl
theorem val_txt (n : Nat) (x : Str) (t : Tok) : hashByValue n (.str x t) = pure false := by cases n <;> rfl
theorem cls_tup {k : List Str} {b : Addr} {Q : Bool → Shared → Prop} (hk : IsTupleKey (strKind P w) s.heap k b) (q : Q false s) : wpAny (model P w) A (ofAClassStatement 8 (.ref b)) Q E s := by
  have ty := hk.typeIs
  obtain ⟨o, its, n, get, _, dat, hi⟩ := hk
  unfold ofAClassStatement
  refine wpAny_bind (wpAny_typeOf ty ?_)
  simp only [show (("tuple" : String) == "tuple") = true by decide, if_true, Bool.not_true, Bool.false_eq_true, if_false]
  try apply wpAny_bind; apply wpAny_pure
  try simp only [Bool.not_true, Bool.false_eq_true, if_false]
  refine wpAny_bind (wpAny_seqItems get dat (wpAny_bind ?_))
  change wpAny _ _ (forIn its _ _) _ _ s
  rw [← Array.forIn_toList]
  refine wpAny_forIn_list _ (fun rest r u => r.1 = none ∧ u = s ∧ ∀ v ∈ rest, ∃ x t, v = Value.str x t) _ (fun v rest r u hr => ?_) (fun r u hr => ?_) _ _ ⟨rfl, rfl, items_txt hi⟩
  · obtain ⟨_, rfl, all⟩ := hr
    obtain ⟨x, t, rfl⟩ := all v List.mem_cons_self
    rw [cls_txt]
    refine wpAny_bind (wpAny_pure ?_)
    simp only [Bool.false_eq_true, if_false]
    exact wpAny_pure ⟨rfl, rfl, fun y hy => all y (List.mem_cons_of_mem _ hy)⟩
  · obtain ⟨r1, r2⟩ := r
    obtain ⟨h1, rfl, _⟩ := hr
    simp only at h1
    subst h1
    exact wpAny_pure q
theorem val_tup {k : List Str} {b : Addr} {Q : Bool → Shared → Prop} (hk : IsTupleKey (strKind P w) s.heap k b) (q : ∀ c, Q c s) : wpAny (model P w) A (hashByValue 8 (.ref b)) Q E s := by
  have ty := hk.typeIs
  obtain ⟨o, its, n, get, _, dat, hi⟩ := hk
  unfold hashByValue
  refine wpAny_bind (wpAny_specialOf ty F.slot_tuple_hash.lookup ?_)
  change wpAny _ _ (seqItems? (.ref b) >>= _) _ _ s
  refine wpAny_bind (wpAny_seqItems get dat (wpAny_bind ?_))
  change wpAny _ _ (forIn its _ _) _ _ s
  rw [← Array.forIn_toList]
  refine wpAny_forIn_list _ (fun rest r u => u = s ∧ ∀ v ∈ rest, ∃ x t, v = Value.str x t) _ (fun v rest r u hr => ?_) (fun r u hr => ?_) _ _ ⟨rfl, items_txt hi⟩
  · obtain ⟨rfl, all⟩ := hr
    obtain ⟨x, t, rfl⟩ := all v List.mem_cons_self
    rw [val_txt]
    refine wpAny_bind (wpAny_pure ?_)
    simp only [Bool.not_false, if_true]
    exact wpAny_pure (wpAny_pure (q false))
  · obtain ⟨r1, r2⟩ := r
    obtain ⟨rfl, _⟩ := hr
    cases r1 with
    | none => exact wpAny_pure (q true)
    | some c => exact wpAny_pure (q c)
theorem seen_txt {k : List Str} {b : Addr} {Q : Bool → Shared → Prop} (hk : IsTupleKey (strKind P w) s.heap k b) {ys : List Value} (hy : ∀ y ∈ ys, ∃ j c, y = Value.ref c ∧ IsTupleKey (strKind P w) s.heap j c) (q : Q false s) : wpAny (model P w) A (searchCouldBeSeen (.ref b) ys) Q E s := by
  unfold searchCouldBeSeen
  refine wpAny_bind (wpAny_forIn_list _ (fun rest r u => r.1 = none ∧ u = s ∧ ∀ y ∈ rest, ∃ j c, y = Value.ref c ∧ IsTupleKey (strKind P w) s.heap j c) _ (fun v rest r u hr => ?_) (fun r u hr => ?_) _ _ ⟨rfl, rfl, hy⟩)
  · obtain ⟨_, rfl, all⟩ := hr
    obtain ⟨j, c, rfl, hc⟩ := all v List.mem_cons_self
    have more : ∀ y ∈ rest, ∃ j c, y = Value.ref c ∧ IsTupleKey (strKind P w) u.heap j c := fun y hy => all y (List.mem_cons_of_mem _ hy)
    dsimp only
    by_cases z : (b == c || (carriedByValue (.ref b) && carriedByValue (.ref c))) = true
    · exact wp_if_pos z (wpAny_pure ⟨rfl, rfl, more⟩)
    · refine wp_if_neg z (wpAny_bind (wpAny_eqIsQuiet_tuple hk ?_))
      simp only [Bool.not_true, Bool.false_eq_true, if_false]
      refine wpAny_bind (wpAny_eqIsQuiet_tuple hc ?_)
      simp only [Bool.not_true, Bool.false_eq_true, if_false]
      refine wpAny_bind (cls_tup hk ?_)
      simp only [Bool.false_eq_true, if_false]
      refine wpAny_bind (cls_tup hc ?_)
      simp only [Bool.false_eq_true, if_false]
      exact wpAny_pure ⟨rfl, rfl, more⟩
  · obtain ⟨r1, r2⟩ := r
    obtain ⟨h1, rfl, _⟩ := hr
    simp only at h1
    subst h1
    exact wpAny_pure q
end
/-- tuples of texts -/
def rkT (P : Program) (w : World) : RK P w (List Str) where
  at_ := IsTupleKey (strKind P w)
  hsh := tupleKeyHash (strKind P w)
  keep := fun {h h' k a} ⟨o, its, n, e, r⟩ kp => ⟨o, its, n, kp o e, r⟩
  noSet := fun {h k a o es ep t} ⟨o', its, n, e, _, d, _⟩ g z => by
    rw [g] at e
    cases e
    rw [z] at d
    cases d
  eqv := fun hu hx hy q => wpAny_eqBool_tuple hu hx hy q
  seen := fun hk hy q => seen_txt hk hy q
  byVal := fun hk q => val_tup hk q
  pyh := fun hu hk q => wpAny_pyHash_tuple hu hk (q _)
section
variable {P : Program} {w : World} {κ : Type} [DecidableEq κ] {R : RK P w κ} {A : Around} {E : Value → Shared → Prop} {s : Shared} {a : Addr} {L : List (Addr × κ)} {es : Array (Int × Value)} {ep : Nat} {t : SetTable}
theorem each_refs {Rr : Value → Addr × κ → Prop} : ∀ {M : List (Addr × κ)}, (∀ p ∈ M, Rr (.ref p.1) p) → PySem.W.EachIs Rr (M.map fun p => Value.ref p.1) M
  | [], _ => .nil
  | p :: M, h => .cons (h p List.mem_cons_self) (each_refs fun q hq => h q (List.mem_cons_of_mem _ hq))
theorem refs_each : ∀ {out : List Value} {M : List (Addr × κ)}, PySem.W.EachIs (fun v (p : Addr × κ) => v = .ref p.1) out M → out = M.map fun p => Value.ref p.1
  | _, _, .nil => rfl
  | _, _, .cons h r => by rw [h, refs_each r]; rfl
theorem perm_map_of {α β : Type} {f : α → β} : ∀ {vs : List β} {L : List α}, vs.Perm (L.map f) → ∃ M : List α, M.Perm L ∧ vs = M.map f
  | [], L, h => by
    have := h.symm.eq_nil
    rw [List.map_eq_nil_iff] at this
    subst this
    exact ⟨[], .nil, rfl⟩
  | v :: vs, L, h => by
    obtain ⟨x, hx, e⟩ := List.mem_map.mp (h.mem_iff.mp List.mem_cons_self)
    obtain ⟨l1, l2, rfl⟩ := List.append_of_mem hx
    have h2 : (v :: vs).Perm (v :: (l1 ++ l2).map f) := by
      refine h.trans ?_
      rw [List.map_append, List.map_cons, e, List.map_append]
      exact List.perm_middle
    obtain ⟨M, pm, rfl⟩ := perm_map_of h2.cons_inv
    exact ⟨x :: M, (pm.cons x).trans List.perm_middle.symm, by rw [List.map_cons, e]⟩
/-- sorted(set): the members in order, in a new list -/
theorem sx_sorted (S : SP R s.heap a L es ep t) (quiet : A.handled = none) (enc : κ → PyData) (rd : ∀ p ∈ L, Reads s.heap (.ref p.1) (enc p.2) []) (al : PySem.W.AllAlike (L.map fun p => enc p.2)) (so : PySem.W.Sortable (L.map fun p => enc p.2)) (hu : ∀ p ∈ L, A.units + 3 + (enc p.2).depth < cLine) {Q : Value → Shared → Prop}
    (q : ∀ s' p (M : List (Addr × κ)) n, (∀ b o, s.heap.get? b = some o → s'.heap.get? b = some o) → s'.gens = s.gens → s'.os = s.os → s.heap.objs.size ≤ p → s'.heap.get? p = some (seqObj "list" (M.map fun p => Value.ref p.1).toArray n) → M.Perm L → M.Pairwise (fun x y => PySem.W.dataLt (enc y.2) (enc x.2) = false) → Q (.ref p) s') :
    wpAny (model P w) A (call (.builtin "sorted") [.ref a]) Q E s := by
  obtain ⟨o, get, exo, dat⟩ := S.obj
  have few := S.few
  refine Calls.call_function_entry kind_sorted plain_sorted entry_sorted (args_sorted1 _) ?_
  unfold Builtin.«sorted»
  refine wpAny_bind (m := checkCount "sorted" 1 1 _) (wpAny_pure (wpAny_bind (collect_set (A := A.in1) (by simp [quiet]) ⟨o, get, exo.1, dat⟩ S.fit (by rw [S.len]; unfold scanBound; omega) S.tab.ris S.led fun s1 vs k1 hz g1 o1 pm => ?_)))
  rw [S.row, List.map_map] at pm
  obtain ⟨M0, pm0, rfl⟩ : ∃ M0 : List (Addr × κ), M0.Perm L ∧ vs = M0.map fun p => Value.ref p.1 := by
    obtain ⟨M0, h1, h2⟩ := perm_map_of pm
    exact ⟨M0, h1, h2⟩
  have lM : M0.length = L.length := pm0.length_eq
  refine wpAny_bind (wpAny_newList ?_ (by rw [List.length_map, sizeLine_eq]; omega))
  have at0 : (s1.heap.push (seqObj "list" (M0.map fun p => Value.ref p.1).toArray 0)).get? s1.heap.objs.size = some (seqObj "list" (M0.map fun p => Value.ref p.1).toArray 0) := Heap.get?_push_size _ rfl
  have old : ∀ b o, s.heap.get? b = some o → (s1.heap.push (seqObj "list" (M0.map fun p => Value.ref p.1).toArray 0)).get? b = some o := fun b o e => Heap.get?_push_of_some _ (k1 b o e)
  have pe := pm0.map fun p : Addr × κ => enc p.2
  have al0 : PySem.W.AllAlike (M0.map fun p => enc p.2) := fun x hx y hy => al x (pe.mem_iff.mp hx) y (pe.mem_iff.mp hy)
  have so0 : PySem.W.Sortable (M0.map fun p => enc p.2) := by
    rcases so with so | so
    · exact .inl fun x hx => so x (pe.mem_iff.mp hx)
    · exact .inr fun x hx => so x (pe.mem_iff.mp hx)
  refine wpAny_bind (wpAny_holding (PySem.W.list_sort_data (bs := M0) (enc := fun p : Addr × κ => enc p.2) (R := fun v p => v = .ref p.1) at0 (each_refs fun p _ => rfl) (each_refs fun p hp => ⟨[], PyProof.Rows.Reads.keeps old (rd p (pm0.mem_iff.mp hp)), List.not_mem_nil⟩) al0 so0 (by rw [sizeLine_eq]; omega) (fun p hp => ?_) fun out lo eo => ?_))
  · have := hu p (pm0.mem_iff.mp hp)
    show A.units + 1 + 1 + _ < _
    omega
  · rw [refs_each eo]
    obtain ⟨n, hn⟩ := sortedHeap_at (vs := M0.map fun p => Value.ref p.1) (out := ((M0.mergeSort (PySem.W.dataLe false fun p : Addr × κ => enc p.2)).map fun p => Value.ref p.1).toArray) at0
    have tot := PySem.W.sortLe_total (listOrd itemOrd) false fun p : Addr × κ => PySem.W.keyToks (enc p.2)
    refine wpAny_pure ⟨_, rfl, q _ _ (M0.mergeSort (PySem.W.dataLe false fun p : Addr × κ => enc p.2)) n (fun b o e => ?_) g1 o1 hz hn ((List.mergeSort_perm _ _).trans pm0) ?_⟩
    · have lt := Heap.lt_size (k1 b o e)
      show (sortedHeap _ _ _ _).get? b = some o
      rw [sortedHeap_old (Nat.ne_of_lt lt) (by rw [Heap.size_push]; exact Nat.lt_succ_of_lt lt)]
      exact old b o e
    · have h := List.pairwise_mergeSort (le := PySem.W.dataLe false fun p : Addr × κ => enc p.2) tot.trans (fun a b => by
        rcases tot.total a b with h | h
        · exact Bool.or_eq_true_iff.mpr (.inl h)
        · exact Bool.or_eq_true_iff.mpr (.inr h)) M0
      exact h.imp fun {x y} hxy => by
        have : (!PySem.W.dataLt (enc y.2) (enc x.2)) = true := hxy
        simpa using this
end
end Dd
/-! DwP6 -/
/-! sorted(set(pairs of texts)) -/
namespace Dd
open PySem PySem.Spec PyProof.Rows L2
abbrev encT (k : List Str) : PyData := .tuple (k.map .str)
section
variable {X : Cx} {EX : L2.St → XK} {e : Expr} {p p2 q2 pos : Pos} {T : List SD → M SD}
theorem items_vals {P : Program} {w : World} : ∀ {k : List Str} {us : List Value}, Vals (k.map V.str) us → ItemsAre (strKind P w) k us
  | [], _, .nil => .nil
  | x :: k, _, .cons h r => by
    obtain ⟨t, rfl⟩ := (show ∃ t, _ = Value.str x t from h)
    exact .cons (strKind_is P w x t) (items_vals r)
theorem reads_txt {h : Heap} {P : Program} {w : World} : ∀ {k : List Str} {us : List Value}, ItemsAre (strKind P w) k us → ReadsAll h us (k.map .str) []
  | _, _, .nil => .nil
  | _, _, .cons h1 r => by
    obtain ⟨t, rfl⟩ := Value.isStrOf_shape h1
    exact .cons (as := []) (bs := []) (.str _ t) (reads_txt r)
theorem reads_key {h : Heap} {P : Program} {w : World} {k : List Str} {a : Addr} (x : IsTupleKey (strKind P w) h k a) : Reads h (.ref a) (encT k) [] := by
  obtain ⟨o, its, n, get, hc, hd, hi⟩ := x
  exact .tuple get hc hd (reads_txt hi)
theorem refs_vals : ∀ {ks : List (Addr × List Str)} {us : List Value}, Vals (ks.map fun p => V.ref p.1) us → us = ks.map fun p => Value.ref p.1
  | [], _, .nil => rfl
  | p :: ks, _, .cons h r => by
    rw [refs_vals r]
    cases h
    rfl
theorem vals_refs : ∀ ks : List (Addr × List Str), Vals (ks.map fun p => V.ref p.1) (ks.map fun p => Value.ref p.1)
  | [] => .nil
  | p :: ks => .cons rfl (vals_refs ks)
/-- sorted(set(e)): e a list of pairs of texts -/
def tSortSet (K : PySem.W.Frag) (ta : TE) : TE := fun σ H Q => ta σ H fun x H1 => ∃ (l : Addr) (ks : List (Addr × List Str)), x = .ref l ∧ SqL K H1 l (ks.map fun p => V.ref p.1) ∧ (∀ p ∈ ks, SqT K H1 p.1 (p.2.map V.str)) ∧ (∀ p ∈ ks, p.2.length = 2) ∧ ks.length < 64 ∧
  ∀ (M : List (Addr × List Str)) p, (∀ q ∈ M, q ∈ ks) → (M.map fun q => q.2).Nodup → (∀ k, k ∈ (M.map fun q => q.2) ↔ k ∈ ks.map fun q => q.2) → M.Pairwise (fun x y => PySem.W.dataLt (encT y.2) (encT x.2) = false) → H1 p = none → Q (.ref p) (upd H1 p (.lst (M.map fun q => V.ref q.1)))
theorem alike_two {x y : List Str} (hx : x.length = 2) (hy : y.length = 2) : PySem.W.alike (encT x) (encT y) = true := by
  match x, y, hx, hy with
  | [a, b], [c, d], _, _ => rfl
theorem pe_sortSet {ta : TE} {k : Nat} (hc : X.calm = true) (room : Room k X.A) (hg : Gl X "sorted") (hm : X.mg "sorted" = none) (hg2 : Gl X "set") (hm2 : X.mg "set" = none) (ha : PE X e ta)
    (na : starEach [e] X.env = (false, eval e X.env) :: starEach [] X.env := by rfl) : PE X (.Call (.Name "sorted" p) [.Call (.Name "set" p2) [e] [] q2] [] pos) (tSortSet X.K ta) := by
  have hu := room.units
  refine ⟨fun pins s σ H Q I h => Call_ (ld_blt I hg hm boot_sorted (callWith_builtin1 (args_cons (Call_ (ld_blt I hg2 hm2 boot_set ?_)) rfl) rfl rfl))⟩
  refine callWith_type1 (args_cons (thn (ha.run pins s σ H _ I h) fun v s1 ⟨x, H1, I1, r1, l, ks, e1, sq, tp, two, few, q1⟩ => args_nil ?_) na) na rfl
  subst e1
  cases r1
  obtain ⟨its, r, pl, _⟩ := I1.list sq
  have hk : ∀ p ∈ ks, IsTupleKey (strKind X.prog X.w) s1.heap p.2 p.1 := fun p hp => by
    obtain ⟨us, ru, ⟨o, ho, hcl, n, hd⟩, _⟩ := I1.tuple (tp p hp)
    exact ⟨o, us.toArray, n, ho, hcl, hd, by simpa using items_vals ru⟩
  refine sx_set (R := rkT X.prog X.w) (ks := ks) (I1.ok.hd hc) pl.isList (by rw [refs_vals r]) hk few (by omega) fun h1 n L es ep t S mm kp => ?_
  refine args_nil ?_
  have I2 : Inv X pins σ H1 { s1 with heap := h1, toks := n } := I1.kept kp
  have lL : ∀ p ∈ L, p.2.length = 2 := fun p hp => two p (mm.sub p hp)
  have dp : ∀ p ∈ L, (encT p.2).depth ≤ 30 := fun p hp => by
    have h2 := lL p hp
    match hp2 : p.2, h2 with
    | [a, b], _ => exact (show PyData.depth (.tuple [.str a, .str b]) ≤ 30 by simp [PyData.depth, PyData.depthAll])
  refine sx_sorted (R := rkT X.prog X.w) (s := { s1 with heap := h1, toks := n }) S (I1.ok.hd hc) encT (fun p hp => reads_key (S.key p hp)) (fun x hx y hy => ?_) (.inl fun x hx => ?_) (fun p hp => by have := dp p hp; omega) fun s' p M m k3 g3 o3 hz at3 pm pw => ?_
  · obtain ⟨p, hp, rfl⟩ := List.mem_map.mp hx
    obtain ⟨p', hp', rfl⟩ := List.mem_map.mp hy
    exact alike_two (lL p hp) (lL p' hp')
  · obtain ⟨p, hp, rfl⟩ := List.mem_map.mp hx
    have h2 := lL p hp
    match hp2 : p.2, h2 with
    | [a, b], _ => exact ⟨_, _, rfl⟩
  · have fewM : M.length < 64 := by rw [pm.length_eq]; exact S.few
    have fr : H1 p = none := I2.hok.fresh hz
    have lay : ObjOk X.prog X.w (upd H1 p (.lst (M.map fun q => V.ref q.1))) s'.heap p (.lst (M.map fun q => V.ref q.1)) := ⟨by rw [List.length_map, sizeLine_eq]; omega, _, m, vals_refs M, at3⟩
    have J := I2.call (g' := s'.gens) (d' := s'.drawn) (t' := s'.toks) (ch := []) (Un.laid k3 hz fr) (I2.hok.laid k3 hz lay) (by rw [g3]; exact I2.bare) (fun _ z => nomatch z)
    have same : s' = { s1 with heap := s'.heap, gens := s'.gens, drawn := s'.drawn, toks := s'.toks } := by
      obtain ⟨h', g', d', t', o'⟩ := s'
      have o3 : o' = s1.os := o3
      subst o3
      rfl
    rw [same]
    have km := pm.map fun q : Addr × List Str => q.2
    refine ⟨.ref p, _, J, rfl, q1 M p (fun q hq => mm.sub q (pm.mem_iff.mp hq)) (km.nodup_iff.mpr S.dis) (fun k => ?_) pw fr⟩
    rw [km.mem_iff, mm.iff, List.take_length]
/-! ### over data -/
def pairD2 : PyData → Option (List Str)
  | .tuple [.str x, .str y] => some [x, y]
  | _ => none
def keysD : List PyData → Option (List (List Str))
  | [] => some []
  | d :: r => (pairD2 d).bind fun k => (keysD r).map (k :: ·)
theorem keysD_rp {K : PySem.W.Frag} {S : List Addr} {H : Hp} : ∀ {vs : List V} {ds : List PyData} {ss : List (List Str)}, RpAll K S H vs ds → keysD ds = some ss → ∃ ks : List (Addr × List Str), vs = ks.map (fun p => V.ref p.1) ∧ (ks.map fun p => p.2) = ss ∧ ∀ p ∈ ks, SqT K H p.1 (p.2.map V.str) ∧ p.2.length = 2
  | _, _, ss, .nil, e => by
    cases e
    exact ⟨[], rfl, rfl, fun p h => absurd h List.not_mem_nil⟩
  | _, d :: ds, ss, .cons (v := v) h t, e => by
    obtain ⟨k, e1, e2⟩ := Option.bind_eq_some_iff.mp (show (pairD2 d).bind _ = some ss from e)
    obtain ⟨r, e3, rfl⟩ := Option.map_eq_some_iff.mp e2
    obtain ⟨ks, h1, h2, h3⟩ := keysD_rp t e3
    unfold pairD2 at e1
    split at e1
    · cases e1
      cases h with
      | tup l tt =>
        cases tt with
        | cons a1 b1 =>
          cases b1 with
          | cons a2 b2 =>
            cases a1; cases a2; cases b2
            exact ⟨(_, _) :: ks, by rw [List.map_cons, h1], by rw [List.map_cons, h2], fun p hp => by
              rcases List.mem_cons.mp hp with rfl | hp
              · exact ⟨l, rfl⟩
              · exact h3 p hp⟩
    · cases e1
/-- sorted(set(e)), e a list of pairs of texts: the distinct ones in order -/
def bSortSet (x : SD) : M SD := ⟨fun P _ => ∃ ds ss, x = .d (.list ds) ∧ keysD ds = some ss ∧ ss.length < 64 ∧ ∀ out : List (List Str), out.Nodup → (∀ k, k ∈ out ↔ k ∈ ss) → out.Pairwise (fun a b => PySem.W.dataLt (encT b) (encT a) = false) → P (.d (.list (out.map encT))),
  fun h _ ⟨ds, ss, e1, e2, e3, q⟩ => ⟨ds, ss, e1, e2, e3, fun out a b c => h _ (q out a b c)⟩⟩
theorem enc_rp {K : PySem.W.Frag} {S : List Addr} {H : Hp} : ∀ {M : List (Addr × List Str)}, (∀ p ∈ M, SqT K H p.1 (p.2.map V.str)) → RpAll K S H (M.map fun p => V.ref p.1) ((M.map fun p => p.2).map encT)
  | [], _ => .nil
  | p :: M, h => .cons (.tup (h p List.mem_cons_self) (str_rp p.2)) (enc_rp fun q hq => h q (List.mem_cons_of_mem _ hq))
theorem de_sortSet {k : Nat} (hc : X.calm = true) (room : Room k X.A) (hg : Gl X "sorted") (hm : X.mg "sorted" = none) (hg2 : Gl X "set") (hm2 : X.mg "set" = none) (ha : DE X EX e T) (na : starEach [e] X.env = (false, eval e X.env) :: starEach [] X.env := by rfl) :
    DE X EX (.Call (.Name "sorted" p) [.Call (.Name "set" p2) [e] [] q2] [] pos) (fun ρ => do let x ← T ρ; bSortSet x) := by
  refine pe_imp (pe_sortSet hc room hg hm hg2 hm2 ha na) fun σ H Q ⟨W, ρ, ok, rel, h⟩ => ?_
  refine ⟨W, ρ, ok, rel, (T ρ).mono (fun x h1 v H1 k1 ok1 r1 => ?_) (fun e h => h) h⟩
  obtain ⟨ds, ss, rfl, e2, few, q⟩ := h1
  cases r1 with
  | lst l t =>
    obtain ⟨ks, rfl, rfl, hk⟩ := keysD_rp t e2
    rw [List.length_map] at few
    refine ⟨_, ks, rfl, l.sq, fun p hp => (hk p hp).1, fun p hp => (hk p hp).2, few, fun M p sub nd mem pw hp => ?_⟩
    have pw2 : (M.map fun q => q.2).Pairwise fun a b => PySem.W.dataLt (encT b) (encT a) = false := List.pairwise_map.mpr pw
    have fin := q (M.map fun q => q.2) nd mem pw2
    exact new_lst ok1 hp (enc_rp fun p hp => (hk p (sub p hp)).1) fun v H2 k2 ok2 r2 => fin v H2 (k1.trans k2) ok2 r2
end
end Dd
/-! DwP7 -/
/-! min and max of two texts -/
namespace Dd
open PySem PySem.Spec PyProof.Rows L2
section
variable {P : Program} {w : World} {A : Around} {E : Value → Shared → Prop} {s : Shared}
def wAt (x y : Str) (i : Nat) : Str := if i = 0 then x else y
theorem two_at {x y : Str} {t u : Tok} {i : Nat} {v : Value} (h : (#[Value.str x t, .str y u] : Array Value)[i]? = some v) : ∃ k, v = .str (wAt x y i) k := by
  match i, h with
  | 0, h => exact ⟨t, (Option.some.inj h).symm⟩
  | 1, h => exact ⟨u, (Option.some.inj h).symm⟩
theorem pick_two {x y : Str} {t u : Tok} {Q : Value → Shared → Prop} (mx : Bool) (quiet : A.handled = none)
    (q : ∀ h' tk k, (∀ c o, s.heap.get? c = some o → h'.get? c = some o) → Q (.str (if mx then (if x.cps.toList < y.cps.toList then y else x) else (if y.cps.toList < x.cps.toList then y else x)) k) { s with heap := h', toks := tk }) :
    wpAny (model P w) A (call (.builtin (if mx then "max" else "min")) [.str x t, .str y u]) Q E s := by
  have tup : (s.heap.push { cls := .type "tuple", data := .seq #[.str x t, .str y u] }).IsTuple s.heap.objs.size #[.str x t, .str y u] := ⟨_, Heap.get?_push_size _ rfl, rfl, 0, rfl⟩
  have sz : (s.heap.push { cls := .type "tuple", data := .seq #[.str x t, .str y u] }).objs.size = s.heap.objs.size + 1 := Heap.size_push ..
  have below : ∀ c ∈ [(s.heap.push { cls := .type "tuple", data := .seq #[.str x t, .str y u] }).objs.size, s.heap.objs.size], ∀ o : Obj, c < ((s.heap.push { cls := .type "tuple", data := .seq #[.str x t, .str y u] }).push o).objs.size := fun c hc o => by
    rw [Heap.size_push, sz]
    simp only [List.mem_cons, List.not_mem_nil, or_false, sz] at hc
    rcases hc with rfl | rfl
    · exact Nat.lt_succ_self _
    · exact Nat.lt_succ_of_lt (Nat.lt_succ_self _)
  have old : ∀ {h' : Heap} {it : Obj}, (∀ b o, b ∉ [(s.heap.push { cls := .type "tuple", data := .seq #[.str x t, .str y u] }).objs.size] → ((s.heap.push { cls := .type "tuple", data := .seq #[.str x t, .str y u] }).push it).get? b = some o → h'.get? b = some o) → ∀ c o, s.heap.get? c = some o → h'.get? c = some o := fun hk c o e => by
    refine hk c o (fun z => ?_) (Heap.get?_push_of_some _ (Heap.get?_push_of_some _ e))
    have l1 := Heap.lt_size e
    rw [List.mem_singleton.mp z, sz] at l1
    exact Nat.lt_irrefl _ (Nat.lt_of_succ_lt l1)
  cases mx with
  | true =>
    refine call_max_two (wpAny_pyIter_tuple tup ⟨_, _, _, _, _, _, fun i j => decide ((wAt x y j).cps.toList < (wAt x y i).cps.toList), rfl, Walks.tuple (A := A.in1) quiet _ s.heap.objs.size (by rw [sz]; exact Nat.ne_of_lt (Nat.lt_succ_self _)) #[.str x t, .str y u], ⟨⟨_, Heap.get?_push_size _ rfl, rfl, rfl⟩, tup.push _⟩, fun c hc => below c hc _, Nat.succ_pos _, fun i j vi vj s2 Q2 E2 hi hj hq => ?_, fun v h' tk hP hk => ?_⟩)
    · obtain ⟨k1, rfl⟩ := two_at hi
      obtain ⟨k2, rfl⟩ := two_at hj
      exact richCompare_gives (op := .Gt) (typeIs_str s2 _ k1) (typeIs_str s2 _ k2) PySem.F.slot_str_gt PySem.F.entry_str_gt (PySem.F.args_str_gt_2 _ _) (gives_str_gt _ _ k1 k2) (fun z => nomatch z) hq
    · have hP : (#[Value.str x t, .str y u] : Array Value)[if decide (x.cps.toList < y.cps.toList) = true then 1 else 0]? = some v := hP
      by_cases z : x.cps.toList < y.cps.toList
      · rw [decide_eq_true z] at hP
        cases (show some (Value.str y u) = some v from hP)
        have := q h' tk u (old hk)
        rwa [if_pos rfl, if_pos z] at this
      · rw [decide_eq_false z] at hP
        cases (show some (Value.str x t) = some v from hP)
        have := q h' tk t (old hk)
        rwa [if_pos rfl, if_neg z] at this
  | false =>
    refine call_min_two (wpAny_pyIter_tuple tup ⟨_, _, _, _, _, _, fun i j => decide ((wAt x y i).cps.toList < (wAt x y j).cps.toList), rfl, Walks.tuple (A := A.in1) quiet _ s.heap.objs.size (by rw [sz]; exact Nat.ne_of_lt (Nat.lt_succ_self _)) #[.str x t, .str y u], ⟨⟨_, Heap.get?_push_size _ rfl, rfl, rfl⟩, tup.push _⟩, fun c hc => below c hc _, Nat.succ_pos _, fun i j vi vj s2 Q2 E2 hi hj hq => ?_, fun v h' tk hP hk => ?_⟩)
    · obtain ⟨k1, rfl⟩ := two_at hi
      obtain ⟨k2, rfl⟩ := two_at hj
      exact richCompare_gives (op := .Lt) (typeIs_str s2 _ k1) (typeIs_str s2 _ k2) PySem.F.slot_str_lt PySem.F.entry_str_lt (PySem.F.args_str_lt_2 _ _) (gives_str_lt _ _ k1 k2) (fun z => nomatch z) hq
    · have hP : (#[Value.str x t, .str y u] : Array Value)[if decide (y.cps.toList < x.cps.toList) = true then 1 else 0]? = some v := hP
      by_cases z : y.cps.toList < x.cps.toList
      · rw [decide_eq_true z] at hP
        cases (show some (Value.str y u) = some v from hP)
        have := q h' tk u (old hk)
        rwa [if_neg (by decide), if_pos z] at this
      · rw [decide_eq_false z] at hP
        cases (show some (Value.str x t) = some v from hP)
        have := q h' tk t (old hk)
        rwa [if_neg (by decide), if_neg z] at this
end
section
variable {X : Cx}
def bPick2 (mx : Bool) : List SD → M SD
  | [.d (.str x), .d (.str y)] => pure (.d (.str (if mx then (if x.cps.toList < y.cps.toList then y else x) else (if y.cps.toList < x.cps.toList then y else x))))
  | xs => bPick mx xs
theorem br_pick2 (mx : Bool) {k : Nat} (room : Room k X.A) (hc : X.calm = true) : BR X (.builtin (if mx then "max" else "min")) (bPick2 mx) := by
  obtain ⟨r1, c1, h1⟩ := br_pick (X := X) mx room hc
  have two : CallR X (.builtin (if mx then "max" else "min")) (fun xs H Q => ∃ x y : Str, xs = [.str x, .str y] ∧ Q (.str (if mx then (if x.cps.toList < y.cps.toList then y else x) else (if y.cps.toList < x.cps.toList then y else x))) H) := by
    intro pins s σ H xs us Q I r h
    obtain ⟨x, y, rfl, q⟩ := h
    obtain ⟨u, w', rfl, ⟨t, rfl⟩, ⟨t', rfl⟩⟩ := vals2 r
    exact pick_two mx (I.ok.hd hc) fun h' tk k kp => ⟨.str _, H, I.kept kp, ⟨k, rfl⟩, q⟩
  refine ⟨fun xs H Q => r1 xs H Q ∨ _, fun pins s σ H xs us Q J rv h => h.elim (c1 pins s σ H xs us Q J rv) (two pins s σ H xs us Q J rv), fun {W H vs xs Q E} ok r h => ?_⟩
  unfold bPick2 at h
  split at h
  · obtain ⟨v, w, rfl, q1, q2⟩ := pair2 r
    cases q1; cases q2
    exact .inr ⟨_, _, rfl, Post.here (K := X.K) ok h (.str _)⟩
  · exact .inl (h1 ok r h)
@[simp] theorem bPick2_l (mx : Bool) (ds : List PyData) : bPick2 mx [.d (.list ds)] = bPick mx [.d (.list ds)] := rfl
end
end Dd
/-! DwP8 -/
/-! [.. for k in d], d a dict -/
namespace Dd
open PySem PySem.Spec PyProof.Rows L2
section
variable {K : PySem.W.Frag} {S : List Addr} {H : Hp} {p : Addr} {kvs : List (Key × V)} {od : Obj}
mutual
theorem Rp.lock (hp : H p = some (.dK kvs)) : ∀ {v : V} {d : PyData}, Rp K S H v d → Rp K S (upd H p (.frz od (.dK kvs))) v d
  | _, _, .non => .non
  | _, _, .bl b => .bl b
  | _, _, .int i => .int i
  | _, _, .str x => .str x
  | _, _, .lst (a := a) l t => .lst ⟨by
      have ne : a ≠ p := fun z => by
        have := l.1
        rw [z, hp] at this
        cases this
      rw [upd_ne ne]
      exact l.1, l.2⟩ (RpAll.lock hp t)
  | _, _, .tup (a := a) l t => .tup (by
      rcases l with (h | ⟨o, h⟩) | h
      · have ne : a ≠ p := fun z => by rw [z, hp] at h; cases h
        exact .inl (.inl (by rw [upd_ne ne]; exact h))
      · have ne : a ≠ p := fun z => by rw [z, hp] at h; cases h
        exact .inl (.inr ⟨o, by rw [upd_ne ne]; exact h⟩)
      · exact .inr h) (RpAll.lock hp t)
  | _, _, .dct (a := a) l n t => .dct (by
      by_cases z : a = p
      · subst z
        rcases l with h | ⟨o, h⟩
        · rw [hp] at h
          cases h
          exact .inr ⟨od, upd_same⟩
        · rw [hp] at h
          cases h
      · rcases l with h | ⟨o, h⟩
        · exact .inl (by rw [upd_ne z]; exact h)
        · exact .inr ⟨o, by rw [upd_ne z]; exact h⟩) n (RpKV.lock hp t)
theorem RpAll.lock (hp : H p = some (.dK kvs)) : ∀ {v : List V} {d : List PyData}, RpAll K S H v d → RpAll K S (upd H p (.frz od (.dK kvs))) v d
  | _, _, .nil => .nil
  | _, _, .cons h t => .cons (Rp.lock hp h) (RpAll.lock hp t)
theorem RpKV.lock (hp : H p = some (.dK kvs)) : ∀ {v : List (Key × V)} {d : List (PyData × PyData)}, RpKV K S H v d → RpKV K S (upd H p (.frz od (.dK kvs))) v d
  | _, _, .nil => .nil
  | _, _, .cons h t => .cons (Rp.lock hp h) (RpKV.lock hp t)
end
mutual
theorem Rp.open_ (hp : H p = some (.frz od (.dK kvs))) : ∀ {v : V} {d : PyData}, Rp K S H v d → Rp K S (upd H p (.dK kvs)) v d
  | _, _, .non => .non
  | _, _, .bl b => .bl b
  | _, _, .int i => .int i
  | _, _, .str x => .str x
  | _, _, .lst (a := a) l t => .lst ⟨by
      have ne : a ≠ p := fun z => by
        have := l.1
        rw [z, hp] at this
        cases this
      rw [upd_ne ne]
      exact l.1, l.2⟩ (RpAll.open_ hp t)
  | _, _, .tup (a := a) l t => .tup (by
      rcases l with (h | ⟨o, h⟩) | h
      · have ne : a ≠ p := fun z => by rw [z, hp] at h; cases h
        exact .inl (.inl (by rw [upd_ne ne]; exact h))
      · have ne : a ≠ p := fun z => by rw [z, hp] at h; cases h
        exact .inl (.inr ⟨o, by rw [upd_ne ne]; exact h⟩)
      · exact .inr h) (RpAll.open_ hp t)
  | _, _, .dct (a := a) l n t => .dct (by
      by_cases z : a = p
      · subst z
        rcases l with h | ⟨o, h⟩
        · rw [hp] at h
          cases h
        · rw [hp] at h
          cases h
          exact .inl upd_same
      · rcases l with h | ⟨o, h⟩
        · exact .inl (by rw [upd_ne z]; exact h)
        · exact .inr ⟨o, by rw [upd_ne z]; exact h⟩) n (RpKV.open_ hp t)
theorem RpAll.open_ (hp : H p = some (.frz od (.dK kvs))) : ∀ {v : List V} {d : List PyData}, RpAll K S H v d → RpAll K S (upd H p (.dK kvs)) v d
  | _, _, .nil => .nil
  | _, _, .cons h t => .cons (Rp.open_ hp h) (RpAll.open_ hp t)
theorem RpKV.open_ (hp : H p = some (.frz od (.dK kvs))) : ∀ {v : List (Key × V)} {d : List (PyData × PyData)}, RpKV K S H v d → RpKV K S (upd H p (.dK kvs)) v d
  | _, _, .nil => .nil
  | _, _, .cons h t => .cons (Rp.open_ hp h) (RpKV.open_ hp t)
end
end
section
variable {K : PySem.W.Frag} {W : Wd} {H : Hp} {p : Addr} {kvs : List (Key × V)} {od : Obj}
theorem ok_put {u o : HO} (ok : W.Ok H) (hp : H p = some u) (nl : ∀ xs, u ≠ .lst xs) (n1 : NT u) (n2 : ∀ f, u ≠ .ext f) (no : p ∉ W.S) : W.Ok (upd H p o) := by
  refine ⟨fun b hb => ?_, fun a l e => ?_, tabs_upd ok.tabs hp n1 n2⟩
  · have ne : b ≠ p := fun z => no (z ▸ hb)
    rw [upd_ne ne]
    exact ok.there b hb
  · obtain ⟨h1, h2, h3⟩ := ok.draw a l e
    refine ⟨h1, h2, Dw.Src.put h3 (fun z => no (z ▸ h1)) fun z => ?_⟩
    obtain ⟨ms, i, r, sd, S⟩ := h3
    have := S.cells
    rw [← z, hp] at this
    exact nl _ (Option.some.inj this)
theorem nt_frzK : NT (.frz od (.dK kvs)) := nt_frz
theorem RV.lock (hp : H p = some (.dK kvs)) (no : p ∉ W.S) {v : V} : ∀ {x : SD}, RV K W H v x → RV K W (upd H p (.frz od (.dK kvs))) v x
  | .no, _ => trivial
  | .d x, h => Rp.lock hp h
  | .src, h => h
  | .ty n, h => h
  | .own ds, ⟨q, xs, e, m, n, hq, t⟩ => ⟨q, xs, e, m, n, (upd_ne (show q ≠ p from fun z => no (z ▸ m))).trans hq, RpAll.lock hp t⟩
  | .ownD ds, ⟨q, xs, e, m, n, hq, t⟩ => ⟨q, xs, e, m, n, (upd_ne (show q ≠ p from fun z => no (z ▸ m))).trans hq, paired_mono (fun _ _ z => ⟨z.1, Rp.lock hp z.2⟩) t⟩
theorem Rel.lock {σ : L2.St} {ρ : List SD} (hp : H p = some (.dK kvs)) (no : p ∉ W.S) (r : Rel K W H σ ρ) : Rel K W (upd H p (.frz od (.dK kvs))) σ ρ :=
  ⟨r.len, fun i x e n => let ⟨v, h1, h2⟩ := r.get i x e n; ⟨v, h1, RV.lock hp no h2⟩, r.sep, r.tab⟩
end
/-- a comprehension raises nothing of its own -/
theorem lcM_E {t : Tg} {B : List SD → M Bool} {T : List SD → M SD} {ρ : List SD} {P : List PyData → Prop} {E E' : Exn → Prop} : ∀ {its : List SD} {acc : List PyData}, (lcM t B T ρ its acc).run P E → (lcM t B T ρ its acc).run P E'
  | [], _, h => h
  | x :: r, acc, h => by
    unfold lcM at h ⊢
    obtain ⟨ρ1, h1, h⟩ := run_lift.mp h
    refine run_lift.mpr ⟨ρ1, h1, ?_⟩
    refine (B ρ1).mono (fun b hb => ?_) (fun _ z => z) h
    cases b with
    | true =>
      refine (T ρ1).mono (fun y hy => ?_) (fun _ z => z) hb
      obtain ⟨d, hd, hy⟩ := run_lift.mp hy
      obtain ⟨c, hy⟩ := run_when.mp hy
      exact run_lift.mpr ⟨d, hd, run_when.mpr ⟨c, lcM_E hy⟩⟩
    | false => exact lcM_E hb
def keysIt : SD → Option (List SD)
  | .d (.dict ds) => some (ds.map fun p => .d p.1)
  | _ => none
theorem keysIt_rp {K : PySem.W.Frag} {S : List Addr} {H : Hp} : ∀ {kvs : List (Key × V)} {ds : List (PyData × PyData)}, RpKV K S H kvs ds → kvs.length = ds.length ∧ ∀ (i : Nat) k v, kvs[i]? = some (k, v) → (ds.map fun p => SD.d p.1)[i]? = some (.d (keyD k))
  | _, _, .nil => ⟨rfl, fun i k v z => by simp at z⟩
  | _, _, .cons h t => by
    obtain ⟨h1, h2⟩ := keysIt_rp t
    refine ⟨by rw [List.length_cons, List.length_cons, h1], fun i k v z => ?_⟩
    cases i with
    | zero =>
      simp at z
      obtain ⟨rfl, rfl⟩ := z
      rfl
    | succ i => exact h2 i k v (by simpa using z)
section
variable {X : Cx} {EX : L2.St → XK} {elt tg iter : Expr} {ifs : List Expr} {scope : Scope} {own : List (Str × Nat)} {pos : Pos} {t : Tg} {B : List SD → M Bool} {T : List SD → M SD}
theorem walkD_keys {K : PySem.W.Frag} {W : Wd} {H : Hp} {p : Addr} {o : Obj} {kvs : List (Key × V)} {ds : List (PyData × PyData)} (hp : H p = some (.frz o (.dK kvs))) (r : RpKV K W.S H kvs ds) : WalkD K W H (Itk p o kvs) (ds.map fun p => .d p.1) := by
  obtain ⟨h1, h2⟩ := keysIt_rp r
  refine ⟨_, _, (by rw [List.length_map, ← h1]; exact walk_keys), fun W' H2 st => st.keep p _ hp nt_frz (.inr trivial), fun i W' H1 x H2 st ok1 y lt => ?_⟩
  obtain ⟨rfl, k, v, hk, rfl⟩ := y
  refine ⟨Same.refl _, _, h2 i k v hk, ?_, rfl⟩
  cases k with
  | inl i => exact Rp.int i
  | inr z => exact Rp.str z
theorem de_lcK (i : Nat) (hc : X.calm = true) (hN : X.N.Nodup) (hv : PE X iter (tVar i)) (ok : BlkOk X.N X.env.scope scope own) (hin : tgIn t (own.map (·.2)) = true)
    (hg : ∀ (s : Shared) (H : Hp) (C : Addr) (cl : List (Str × Addr)) (fp : List Addr), PG (X.blk s H scope (compEnvC scope cl C X.env) fp) tg (gOf X.K t)) (ht : ∀ (s : Shared) (H : Hp) (C : Addr) (cl : List (Str × Addr)) (fp : List Addr), DTs (X.blk s H scope (compEnvC scope cl C X.env) fp) ifs B)
    (he : ∀ (s : Shared) (H : Hp) (C : Addr) (cl : List (Str × Addr)) (fp : List Addr), DE (X.blk s H scope (compEnvC scope cl C X.env) fp) (fun _ => E0) elt T) (hs : ∀ x, foldedSetIterable iter X.env x = pure x := by intro _; rfl) :
    DE X EX (.ListComp elt [⟨tg, iter, ifs, 0⟩] scope pos) (fun ρ => do let x ← M.lift (getS ρ i); let its ← M.lift (keysIt x); let ds ← lcM t B T (wipeD ρ (own.map (·.2))) its []; pure (.d (.list ds))) := by
  have base := pe_lc (pos := pos) (tt := dtt X.K (fun _ => E0) B) (te := dt X.K (fun _ => E0) T) hc hN (pi_keys hv) ok hg ht he hs
  refine pe_imp (pe_or base (pe_lock base)) fun σ H Q ⟨W, ρ, okW, rel, h⟩ => ?_
  obtain ⟨x, hx, h⟩ := run_lift.mp h
  obtain ⟨its, hk, h⟩ := run_lift.mp h
  obtain ⟨hx1, hx2⟩ := getS_eq hx
  unfold keysIt at hk
  split at hk
  · rename_i ds
    cases hk
    obtain ⟨v, hv1, hv2⟩ := rel.get i _ hx1 (fun z => nomatch z)
    cases hv2 with
    | dct l n r =>
      rename_i p kvs
      -- the run over a locked dict
      have run : ∀ {H1 : Hp} {od : Obj} {Q1 : VK}, W.Ok H1 → Rel X.K W H1 σ ρ → H1 p = some (.frz od (.dK kvs)) → (lcM t B T (wipeD ρ (own.map (·.2))) (ds.map fun p => SD.d p.1) []).run (PostN X.K W H1 Q1) (XP X.K W H1 (EX σ)) → tLc (iKeys (tVar i)) (gOf X.K t) (dtt X.K (fun _ => E0) B) (dt X.K (fun _ => E0) T) (own.map (·.2)) σ H1 Q1 := fun {H1 od Q1} ok1 rel1 hp1 h1 => by
        have key := lc_imp (X := X) (EX := EX) (Ti := fun ρ' => (do let x ← M.lift (getS ρ' i); M.lift (keysIt x))) (wi := fun σ' H' R => σ' = σ → H' = H1 → iKeys (tVar i) σ' H' R) (B := B) (T := T) (t := t) (own := own) hin ?_ σ H1 Q1 ⟨W, ρ, ok1, rel1, ?_⟩
        · exact key rfl rfl
        · rintro σ' H' R ⟨W', ρ', o', r', q'⟩ e1 e2
          subst e1
          subst e2
          obtain ⟨x', hx', q'⟩ := run_lift.mp q'
          obtain ⟨its', hi', q'⟩ := run_lift.mp q'
          obtain ⟨hx1', _⟩ := getS_eq hx'
          unfold keysIt at hi'
          split at hi'
          · rename_i ds'
            cases hi'
            obtain ⟨v', hv1', hv2'⟩ := r'.get i _ hx1' (fun z => nomatch z)
            rw [hv1] at hv1'
            cases hv1'
            cases hv2' with
            | @dct _ kvs2 _ l' n' r2 =>
              have kk : kvs2 = kvs := by
                rcases l' with z | ⟨o2, z⟩
                · rw [hp1] at z
                  cases z
                · rw [hp1] at z
                  cases z
                  rfl
              subst kk
              exact ⟨.ref p, hv1, p, od, rfl, .inl ⟨_, hp1, q' _ _ (Kp.refl _ _) o' (walkD_keys hp1 r2)⟩⟩
          · cases hi'
        · exact run_lift.mpr ⟨_, hx, run_lift.mpr ⟨_, rfl, h1⟩⟩
      have h : (lcM t B T (wipeD ρ (own.map (·.2))) (ds.map fun p => SD.d p.1) []).run (fun es => Post X.K W H Q (.d (.list es))) (XP X.K W H (EX σ)) := h
      rcases l with l | ⟨od, l⟩
      · refine .inr ⟨p, .dK kvs, l, trivial, fun od => ?_⟩
        refine run (od := od) (ok_put okW l (fun _ z => nomatch z) nt_dK (fun _ z => nomatch z) n) (Rel.lock l n rel) upd_same (lcM_E (M.mono _ (fun es q => ?_) (fun _ z => z) h))
        intro q1 xs H' k' ok' fr' e' r'
        have okl : W.Ok (upd H p (.frz od (.dK kvs))) := ok_put okW l (fun _ z => nomatch z) nt_dK (fun _ z => nomatch z) n
        have nsrc : ∀ l, W.src ≠ some (p, l) := fun l z => n (okW.draw p l z).1
        have hp' : H' p = some (.frz od (.dK kvs)) := k' p _ upd_same nsrc nt_frz
        have ok2 : W.Ok H' := add_back okl fr' ok'
        have ne : q1 ≠ p := fun z => by
          rw [z, hp'] at e'
          cases e'
        refine ⟨hp', q _ _ (fun b o hb ns nt => ?_) (ok_put ok2 hp' (fun _ z => nomatch z) nt_frz (fun _ z => nomatch z) n) (.lst ⟨by rw [upd_ne ne]; exact e', okl.notinF fr'⟩ (RpAll.open_ hp' (RpAll.step ⟨fun _ _ h _ _ => h, fun b h => .inl (List.mem_cons_of_mem _ h)⟩ r')))⟩
        by_cases z : b = p
        · subst z
          rw [l] at hb
          cases hb
          exact upd_same
        · rw [upd_ne z]
          exact k' b o (by rw [upd_ne z]; exact hb) ns nt
      · refine .inl (run okW rel l (M.mono _ (fun es q => PostN.of okW q) (fun _ z => z) h))
  · cases hk
end
end Dd
/-! DwP9 -/
/-! x = f(..), the list that comes is a new one, and x owns it -/
namespace Dd
open PySem PySem.Spec PyProof.Rows L2
def hideH (D : Addr → Bool) (H : Hp) : Hp := fun b => if D b = true then none else H b
def backH (D : Addr → Bool) (H H' : Hp) : Hp := fun b => if D b = true then H b else H' b
theorem hide_t {D : Addr → Bool} {H : Hp} {b : Addr} (h : D b = true) : hideH D H b = none := if_pos h
theorem hide_f {D : Addr → Bool} {H : Hp} {b : Addr} (h : ¬ D b = true) : hideH D H b = H b := if_neg h
theorem back_t {D : Addr → Bool} {H H' : Hp} {b : Addr} (h : D b = true) : backH D H H' b = H b := if_pos h
theorem back_f {D : Addr → Bool} {H H' : Hp} {b : Addr} (h : ¬ D b = true) : backH D H H' b = H' b := if_neg h
section
variable {X : Cx} {pins pins2 : List (Addr × Obj)} {σ σ' : L2.St} {H H' : Hp} {s s' : Shared} {D : Addr → Bool}
theorem not_hid (hD : ∀ b, D b = true → ∃ xs, H b = some (.lst xs)) {b : Addr} {o : HO} (h : H b = some o) (n : ∀ xs, o ≠ .lst xs) : ¬ D b = true := fun z => by
  obtain ⟨xs, e⟩ := hD b z
  rw [h] at e
  exact n xs (Option.some.inj e)
theorem not_hid0 (hD : ∀ b, D b = true → ∃ xs, H b = some (.lst xs)) {b : Addr} (h : H b = none) : ¬ D b = true := fun z => by
  obtain ⟨xs, e⟩ := hD b z
  rw [h] at e
  cases e
theorem inv_hide (I : Inv X pins σ H s) (hD : ∀ b, D b = true → ∃ xs, H b = some (.lst xs)) : ∃ pins2 : List (Addr × Obj), (∀ b, D b = true → ∃ o, (b, o) ∈ pins2 ∧ s.heap.get? b = some o) ∧ Inv X (pins2 ++ pins) σ (hideH D H) s := by
  have obj : ∀ b, D b = true → ∃ its n, s.heap.get? b = some { cls := .type "list", data := .seq its n } := fun b hb => by
    obtain ⟨xs, e⟩ := hD b hb
    obtain ⟨_, its, n, _, q⟩ := I.hok b _ e
    exact ⟨_, _, q⟩
  let pins2 : List (Addr × Obj) := ((List.range s.heap.objs.size).filter D).filterMap fun b => (s.heap.get? b).map fun o => (b, o)
  have mem2 : ∀ p ∈ pins2, D p.1 = true ∧ s.heap.get? p.1 = some p.2 := fun p hp => by
    obtain ⟨b, hb, e⟩ := List.mem_filterMap.mp hp
    obtain ⟨o, e1, e2⟩ := Option.map_eq_some_iff.mp e
    subst e2
    exact ⟨(List.mem_filter.mp hb).2, e1⟩
  refine ⟨pins2, fun b hb => ?_, I.ok, I.os, I.bare, ⟨I.base.keep, I.base.slot, fun b o e n hx => ?_, I.base.there, fun b xs e => ?_, fun b o x e => ?_, fun b ps e => ?_⟩, I.loc, I.cell, ?_, fun x c e => ?_, fun p hp => ?_, fun b o e => ?_, I.len⟩
  · obtain ⟨its, n, q⟩ := obj b hb
    exact ⟨_, List.mem_filterMap.mpr ⟨b, List.mem_filter.mpr ⟨List.mem_range.mpr (Heap.lt_size q), hb⟩, by rw [q]; rfl⟩, q⟩
  · have z := I.base.free b o e n hx
    rw [hide_f (not_hid0 hD z)]
    exact z
  · have z := I.base.tups b xs e
    rw [hide_f (not_hid hD z fun _ w => nomatch w)]
    exact z
  · have z := I.base.frzs b o x e
    rw [hide_f (not_hid hD z fun _ w => nomatch w)]
    exact z
  · obtain ⟨more, z⟩ := I.base.tbls b ps e
    exact ⟨more, by rw [hide_f (not_hid hD z fun _ w => nomatch w)]; exact z⟩
  · rw [hide_f (not_hid0 hD I.free)]
    exact I.free
  · rw [hide_f (not_hid0 hD (I.freeC x c e))]
    exact I.freeC x c e
  · have old : p ∈ X.pn ++ pins → s.heap.get? p.1 = some p.2 ∧ hideH D H p.1 = none ∧ p.1 ≠ X.env.locals ∧ p.1 ∉ X.fs ∧ ∀ v, p.2.data ≠ .cell v := fun z => by
      obtain ⟨h1, h2, h3⟩ := I.pin p z
      exact ⟨h1, by rw [hide_f (not_hid0 hD h2)]; exact h2, h3⟩
    rcases List.mem_append.mp hp with z | z
    · exact old (List.mem_append.mpr (.inl z))
    rcases List.mem_append.mp z with z | z
    · obtain ⟨h1, h2⟩ := mem2 p z
      obtain ⟨xs, e⟩ := hD _ h1
      obtain ⟨its, n, q⟩ := obj _ h1
      refine ⟨h2, hide_t h1, fun w => ?_, fun w => ?_, fun v w => ?_⟩
      · rw [w, I.free] at e
        cases e
      · obtain ⟨_, o, ho, _⟩ := I.ok.funs.mem w
        have := I.base.free _ o ho (I.ok.frf _ w) fun y => I.ok.exfs _ y w
        rw [this] at e
        cases e
      · rw [h2] at q
        rw [Option.some.inj q] at w
        cases w
    · exact old (List.mem_append.mpr (.inr z))
  · by_cases hb : D b = true
    · rw [hide_t hb] at e
      cases e
    · rw [hide_f hb] at e
      refine (I.hok b o e).stay (fun _ _ _ q => q) (fun c q => ?_) fun c xs q => ?_
      · rw [hide_f (not_hid hD q fun _ w => nomatch w)]; exact q
      · rw [hide_f (not_hid hD q fun _ w => nomatch w)]; exact q
theorem inv_back (I : Inv X pins σ H s) (hD : ∀ b, D b = true → ∃ xs, H b = some (.lst xs)) (hp : ∀ b, D b = true → ∃ o, (b, o) ∈ pins2 ∧ s.heap.get? b = some o) (I2 : Inv X (pins2 ++ pins) σ' H' s') : Inv X pins σ' (backH D H H') s' ∧ ∀ b, D b = true → H' b = none := by
  have pin2 : ∀ b, D b = true → ∃ o, s.heap.get? b = some o ∧ s'.heap.get? b = some o ∧ H' b = none := fun b hb => by
    obtain ⟨o, m, q⟩ := hp b hb
    obtain ⟨h1, h2, _⟩ := I2.pin (b, o) (List.mem_append.mpr (.inr (List.mem_append.mpr (.inl m))))
    exact ⟨o, q, h1, h2⟩
  have out : ∀ {b o}, H' b = some o → ¬ D b = true := fun {b o} e z => by
    obtain ⟨_, _, _, h⟩ := pin2 b z
    rw [h] at e
    cases e
  refine ⟨⟨I2.ok, I2.os, I2.bare, ⟨I2.base.keep, I2.base.slot, fun b o e n hx => ?_, I2.base.there, fun b xs e => ?_, fun b o x e => ?_, fun b ps e => ?_⟩, I2.loc, I2.cell, ?_, fun x c e => ?_, fun p hq => ?_, fun b o e => ?_, I2.len⟩, fun b hb => ?_⟩
  · rw [back_f (not_hid0 hD (I.base.free b o e n hx))]
    exact I2.base.free b o e n hx
  · have z := I2.base.tups b xs e
    rw [back_f (out z)]
    exact z
  · have z := I2.base.frzs b o x e
    rw [back_f (out z)]
    exact z
  · obtain ⟨more, z⟩ := I2.base.tbls b ps e
    exact ⟨more, by rw [back_f (out z)]; exact z⟩
  · rw [back_f (not_hid0 hD I.free)]
    exact I2.free
  · rw [back_f (not_hid0 hD (I.freeC x c e))]
    exact I2.freeC x c e
  · obtain ⟨_, g2, _⟩ := I.pin p hq
    obtain ⟨h1, h2, h3⟩ := I2.pin p (by
      rcases List.mem_append.mp hq with z | z
      · exact List.mem_append.mpr (.inl z)
      · exact List.mem_append.mpr (.inr (List.mem_append.mpr (.inr z))))
    exact ⟨h1, by rw [back_f (not_hid0 hD g2)]; exact h2, h3⟩
  · by_cases hb : D b = true
    · rw [back_t hb] at e
      obtain ⟨xs, e1⟩ := hD b hb
      rw [e1] at e
      cases e
      obtain ⟨o', q1, q2, _⟩ := pin2 b hb
      obtain ⟨l, its, n, r, q⟩ := I.hok b _ e1
      rw [q1] at q
      cases q
      exact ⟨l, its, n, r, q2⟩
    · rw [back_f hb] at e
      refine (I2.hok b o e).stay (fun _ _ _ q => q) (fun c q => ?_) fun c xs q => ?_
      · rw [back_f (out q)]; exact q
      · rw [back_f (out q)]; exact q
  · obtain ⟨_, _, _, h⟩ := pin2 b hb
    exact h
def tHide (t : TE) : TE := fun σ H Q => ∃ D : Addr → Bool, (∀ b, D b = true → ∃ xs, H b = some (.lst xs)) ∧ t σ (hideH D H) fun v H' => (∀ b, D b = true → H' b = none) → Q v (backH D H H')
theorem pe_hide {e : Expr} {t : TE} (h : PE X e t) : PE X e (tHide t) := by
  refine ⟨fun pins s σ H Q I ⟨D, hD, hw⟩ => ?_⟩
  obtain ⟨pins2, hp, I1⟩ := inv_hide I hD
  refine thn (h.run (pins2 ++ pins) s σ _ _ I1 hw) fun v s1 ⟨x, H1, I2, r, q⟩ => ?_
  obtain ⟨I3, no⟩ := inv_back I hD hp I2
  exact ⟨x, _, I3, r, q no⟩
end
end Dd
/-! DwP10 -/
/-! x = f(..), the list that comes is a new one, and x owns it: the rule -/
namespace Dd
open PySem PySem.Spec PyProof.Rows L2
mutual
/-- no list and no dict is in it -/
def noL : PyData → Bool
  | .tuple ds => noLA ds
  | .none => true
  | .bool _ => true
  | .int _ => true
  | .str _ => true
  | _ => false
def noLA : List PyData → Bool
  | [] => true
  | d :: r => noL d && noLA r
end
section
variable {K : PySem.W.Frag} {S : List Addr} {H H2 : Hp}
mutual
theorem Rp.noL (k : ∀ b o, H b = some o → (∀ xs, o ≠ .lst xs) → H2 b = some o) : ∀ {v : V} {d : PyData}, Dd.noL d = true → Rp K S H v d → Rp K [] H2 v d
  | _, _, _, .non => .non
  | _, _, _, .bl b => .bl b
  | _, _, _, .int i => .int i
  | _, _, _, .str x => .str x
  | _, _, c, .lst l t => by
    unfold Dd.noL at c
    cases c
  | _, _, c, .tup l t => .tup (by
      rcases l with (h | ⟨o, h⟩) | h
      · exact .inl (.inl (k _ _ h fun _ z => nomatch z))
      · exact .inl (.inr ⟨o, k _ _ h fun _ z => nomatch z⟩)
      · exact .inr h) (RpAll.noL k (by unfold Dd.noL at c; exact c) t)
  | _, _, c, .dct l n t => by
    unfold Dd.noL at c
    cases c
theorem RpAll.noL (k : ∀ b o, H b = some o → (∀ xs, o ≠ .lst xs) → H2 b = some o) : ∀ {v : List V} {d : List PyData}, Dd.noLA d = true → RpAll K S H v d → RpAll K [] H2 v d
  | _, _, _, .nil => .nil
  | _, _, c, .cons h t => by
    unfold Dd.noLA at c
    obtain ⟨c1, c2⟩ := Bool.and_eq_true_iff.mp c
    exact .cons (Rp.noL k c1 h) (RpAll.noL k c2 t)
end
end
/-- what may be handed over -/
def argS : SD → Bool
  | .d (.list (.tuple ds :: r)) => noLA ds && noLA r
  | .d d => noL d
  | _ => false
def isLs : SD → Bool
  | .d (.list _) => true
  | _ => false
def maskS (is : List Nat) : Nat → List SD → List SD
  | _, [] => []
  | k, x :: r => (if is.contains k = true then x else .no) :: maskS is (k + 1) r
theorem mask_len (is : List Nat) : ∀ (k : Nat) (ρ : List SD), (maskS is k ρ).length = ρ.length
  | _, [] => rfl
  | k, x :: r => by rw [maskS, List.length_cons, List.length_cons, mask_len is (k + 1) r]
theorem mask_get {is : List Nat} : ∀ {k : Nat} {ρ : List SD} {i : Nat} {x : SD}, (maskS is k ρ)[i]? = some x → x ≠ .no → (k + i) ∈ is ∧ ρ[i]? = some x
  | k, y :: r, 0, x, e, n => by
    rw [maskS, List.getElem?_cons_zero] at e
    have e := Option.some.inj e
    split at e
    · rename_i c
      exact ⟨by simpa using c, by rw [List.getElem?_cons_zero, e]⟩
    · exact absurd e.symm n
  | k, y :: r, i + 1, x, e, n => by
    rw [maskS, List.getElem?_cons_succ] at e
    obtain ⟨h1, h2⟩ := mask_get e n
    exact ⟨by rw [show k + (i + 1) = k + 1 + i by omega]; exact h1, by rw [List.getElem?_cons_succ]; exact h2⟩
def keepS (is : List Nat) (ρ : List SD) : Option (List SD) := if (is.all fun i => match ρ[i]? with | some x => argS x | none => false) = true then some (maskS is 0 ρ) else none
def isTx : PyData → Bool
  | .str _ => true
  | _ => false
def textsL : SD → Option (List PyData)
  | .d (.list ds) => if ds.all isTx = true then some ds else none
  | _ => none
theorem rpAll_texts {K : PySem.W.Frag} {S S' : List Addr} {H H2 : Hp} : ∀ {xs : List V} {ds : List PyData}, ds.all isTx = true → RpAll K S H xs ds → RpAll K S' H2 xs ds
  | _, _, _, .nil => .nil
  | _, d :: r, c, .cons h t => by
    rw [List.all_cons, Bool.and_eq_true] at c
    refine .cons ?_ (rpAll_texts c.2 t)
    cases h with
    | str x => exact .str x
    | _ => cases c.1
section
variable {K : PySem.W.Frag} {W0 W : Wd} {H0 H H' H2 : Hp} {σ : L2.St} {ρ : List SD} {p : Addr} {i : Nat}
theorem add_stpF (ok : W.Ok H) (k : Kp W H H2) (hp : Fr0 H p) : Stp W.S (W.add p).S H H2 := by
  refine ⟨(k.stp ok).keep, fun b h => ?_⟩
  rcases List.mem_cons.mp h with rfl | h
  · exact .inr hp
  · exact .inl h
theorem RV.addF (ok : W.Ok H) (k : Kp W H H2) (hp : Fr0 H p) {v : V} : ∀ {x : SD}, RV K W H v x → RV K (W.add p) H2 v x
  | .no, _ => trivial
  | .d _, h => Rp.step (add_stpF ok k hp) h
  | .src, h => h
  | .ty _, h => h
  | .own _, ⟨q, xs, e, m, ns, hq, r⟩ => ⟨q, xs, e, List.mem_cons_of_mem _ m, ns, k _ _ hq ns nt_lst, RpAll.step (add_stpF ok k hp) r⟩
  | .ownD _, ⟨q, xs, e, m, ns, hq, r⟩ => ⟨q, xs, e, List.mem_cons_of_mem _ m, ns, k _ _ hq ns nt_dK, paired_mono (fun _ _ z => ⟨z.1, Rp.step (add_stpF ok k hp) z.2⟩) r⟩
/-- a new owned thing at slot i, where a table at most stood -/
theorem SSt.newF (s : SSt K W0 H0 W H σ ρ) (k : Kp W H H2) (hp : Fr0 H p) (ok2 : (W.add p).Ok H2) {x : SD} (ox : isOwn x = true) (r : RV K (W.add p) H2 (.ref p) x) : SSt K W0 H0 (W.add p) H2 (σ.set i (some (.ref p))) (ρ.set i x) := by
  have p0 : Fr0 H0 p := s.frm.free s.ok0 hp (s.ok0' s.ok)
  have apart : ∀ (j : Nat) (y : SD), ρ[j]? = some y → isOwn y = true → σ[j]? ≠ some (some (.ref p)) := fun j y e o z => by
    obtain ⟨v, h1, h2⟩ := s.rel.get j y e (own_ne o)
    obtain ⟨q, u, e1, e2, _, _, nt, _⟩ := own_there h2 o
    rw [h1] at z
    cases z
    cases e1
    exact hp _ e2 nt
  refine ⟨ok2, ⟨by rw [List.length_set, List.length_set, s.rel.len], fun j y e n => ?_, fun j l y z q ne e1 e2 o1 o2 q1 => ?_, s.rel.tab⟩, s.src, fun b h => List.mem_cons_of_mem _ (s.sub b h), s.frm.trans (Kp.to s k), fun b h => ?_, fun j y q e o e1 => ?_, s.ok0, s.tab⟩
  · by_cases z : i = j
    · subst z
      have lt := lt_set e
      rw [List.getElem?_set_self lt] at e
      cases e
      exact ⟨.ref p, List.getElem?_set_self (by rw [s.rel.len]; exact lt), r⟩
    · rw [List.getElem?_set_ne z] at e ⊢
      obtain ⟨v, h1, h2⟩ := s.rel.get j y e n
      exact ⟨v, h1, RV.addF s.ok k hp h2⟩
  · by_cases z1 : i = j
    · subst z1
      rw [List.getElem?_set_ne ne] at e2 ⊢
      have lt : i < σ.length := by rw [s.rel.len]; exact lt_set e1
      rw [List.getElem?_set_self lt] at q1
      cases q1
      exact apart l z e2 o2
    · rw [List.getElem?_set_ne z1] at e1 q1
      by_cases z2 : i = l
      · subst z2
        have lt : i < σ.length := by rw [s.rel.len]; exact lt_set e2
        rw [List.getElem?_set_self lt]
        intro z
        cases z
        exact apart j y e1 o1 q1
      · rw [List.getElem?_set_ne z2] at e2 ⊢
        exact s.rel.sep j l y z q ne e1 e2 o1 o2 q1
  · rcases List.mem_cons.mp h with rfl | h
    · exact .inr p0
    · exact s.mine b h
  · by_cases z : i = j
    · subst z
      have lt : i < σ.length := by rw [s.rel.len]; exact lt_set e
      rw [List.getElem?_set_self lt] at e1
      cases e1
      exact p0
    · rw [List.getElem?_set_ne z] at e e1
      exact s.own j y q e o e1
theorem tabs_sub {T : List (Addr × Str)} (t : LamX.Tabs T H) (k : ∀ b o, H b = some o → (∀ xs, o ≠ .lst xs) → H2 b = some o) : LamX.Tabs T H2 := fun q hq => by
  obtain ⟨ps, h1, h2, h3⟩ := t q hq
  refine ⟨ps, k _ _ h1 fun _ z => (nomatch z), h2, fun pos cv hc => ?_⟩
  obtain ⟨c, e2, e3⟩ := h3 pos cv hc
  exact ⟨c, e2, k _ _ e3 fun _ z => nomatch z⟩
end
section
variable {X : Cx} {E : XK} {e : Expr} {x : Str} {pos : Pos} {T : List SD → M SD}
/-- the lists that are put away: all but those that are handed over -/
def away (is : List Nat) (σ : L2.St) (ρ : List SD) (H : Hp) (b : Addr) : Bool := (match H b with | some (.lst _) => true | _ => false) && !(is.any fun i => decide (σ[i]? = some (some (.ref b))) && match ρ[i]? with | some x => isLs x | none => false)
theorem ds_setN {i : Nat} {pos' : Pos} (is : List Nat) (hN : X.N.Nodup) (hi : X.N[i]? = some x) (hx : Loc X.env.scope x) (he : DE X (fun _ => E) e T) (hs : swapsWith e (some (.Name x pos')) pos.line X.env = pure false := by rfl)
    (hf : X.fn x = true ∨ X.env.scope.names.lookup x = some .local := by first | exact .inl rfl | exact .inr rfl | assumption) : DS X E (.Assign [.Name x pos'] e pos) (fun ρ => do let ρ1 ← M.lift (keepS is ρ); let v ← M.calm (T ρ1); let ds ← M.lift (textsL v); pure (.nx (ρ.set i (.own ds)))) := by
  refine ps_imp (ps_set hN hi hx (pe_hide he) hs hf) fun D σ H ⟨W0, H0, W, ρ, s, h⟩ => ?_
  obtain ⟨ρ1, hk, h⟩ := run_lift.mp h
  unfold keepS at hk
  split at hk
  case isFalse => cases hk
  rename_i cond
  cases hk
  have hD : ∀ b, away is σ ρ H b = true → ∃ xs, H b = some (.lst xs) := fun b hb => by
    unfold away at hb
    obtain ⟨hb, _⟩ := Bool.and_eq_true_iff.mp hb
    split at hb
    · rename_i xs q
      exact ⟨xs, q⟩
    · cases hb
  have keep1 : ∀ b o, H b = some o → (∀ xs, o ≠ .lst xs) → hideH (away is σ ρ H) H b = some o := fun b o q n => by
    rw [hide_f (not_hid hD q n)]
    exact q
  have arg : ∀ j, j ∈ is → ∀ y, ρ[j]? = some y → argS y = true := fun j hj y e => by
    have := List.all_eq_true.mp cond j hj
    rw [e] at this
    exact this
  have kept : ∀ j, j ∈ is → ∀ y a, ρ[j]? = some y → isLs y = true → σ[j]? = some (some (.ref a)) → ¬ away is σ ρ H a = true := fun j hj y a e il q z => by
    unfold away at z
    obtain ⟨_, z⟩ := Bool.and_eq_true_iff.mp z
    have : (is.any fun i => decide (σ[i]? = some (some (.ref a))) && match ρ[i]? with | some x => isLs x | none => false) = true := List.any_eq_true.mpr ⟨j, hj, by rw [e, q]; simp [il]⟩
    rw [this] at z
    cases z
  have ok1 : (⟨[], none, W.tab⟩ : Wd).Ok (hideH (away is σ ρ H) H) := ⟨fun b hb => (nomatch hb), fun a l z => (nomatch z), tabs_sub s.ok.tabs keep1⟩
  have rel1 : Rel X.K ⟨[], none, W.tab⟩ (hideH (away is σ ρ H) H) σ (maskS is 0 ρ) := by
    refine ⟨by rw [mask_len]; exact s.rel.len, fun j y e n => ?_, fun j l y z q ne e1 e2 o1 => ?_, s.rel.tab⟩
    · obtain ⟨hj, e'⟩ := mask_get e n
      rw [Nat.zero_add] at hj
      have ar := arg j hj y e'
      obtain ⟨v, h1, h2⟩ := s.rel.get j y e' n
      refine ⟨v, h1, ?_⟩
      unfold argS at ar
      split at ar
      · rename_i ds r
        obtain ⟨c1, c2⟩ := Bool.and_eq_true_iff.mp ar
        cases h2 with
        | @lst a xs _ l t =>
          have na := kept j hj _ a e' rfl h1
          exact .lst ⟨by rw [hide_f na]; exact l.1, fun z => nomatch z⟩ (RpAll.noL keep1 (by unfold noLA noL; rw [c1, c2]; rfl) t)
      · exact Rp.noL keep1 ar h2
      · cases ar
    · obtain ⟨hj, e'⟩ := mask_get e1 (own_ne o1)
      rw [Nat.zero_add] at hj
      have ar := arg j hj y e'
      cases y <;> first | (cases o1; done) | (cases ar; done)
  refine ⟨away is σ ρ H, hD, ⟨[], none, W.tab⟩, maskS is 0 ρ, ok1, rel1, M.mono _ (fun d q => ?_) (fun _ z => z.elim) h⟩
  intro v H' k ok' r no
  obtain ⟨ds, ht, qq⟩ := run_lift.mp q
  unfold textsL at ht
  split at ht
  case h_2 => cases ht
  rename_i ds'
  split at ht
  case isFalse => cases ht
  rename_i tx
  cases ht
  cases r with
  | @lst a xs _ l t =>
  have na : ¬ away is σ ρ H a = true := fun z => by
    have := no a z
    rw [l.1] at this
    cases this
  have kk : ∀ b o, H b = some o → ¬ away is σ ρ H b = true → NT o → H' b = some o := fun b o e n nt => k b o (by rw [hide_f n]; exact e) (fun l z => nomatch z) nt
  have fr : Fr0 H a := fun o e nt => by
    have e2 := kk a o e na nt
    rw [l.1] at e2
    cases e2
    unfold away at na
    rw [e] at na
    have na : (is.any fun i => decide (σ[i]? = some (some (.ref a))) && match ρ[i]? with | some x => isLs x | none => false) = true := by simpa using na
    obtain ⟨j, hj, c⟩ := List.any_eq_true.mp na
    obtain ⟨c1, c2⟩ := Bool.and_eq_true_iff.mp c
    have c1 := of_decide_eq_true c1
    split at c2
    case h_2 => cases c2
    rename_i y ey
    have ar := arg j hj y ey
    obtain ⟨v2, h1, h2⟩ := s.rel.get j y ey (by rintro rfl; cases c2)
    rw [c1] at h1
    cases h1
    unfold isLs at c2
    split at c2
    case h_2 => cases c2
    rename_i dd
    unfold argS at ar
    split at ar
    · rename_i dx ds2 r2 q2
      injection q2 with q2
      injection q2 with q2
      subst q2
      cases h2 with
      | @lst _ ys _ l2 t2 =>
        have := l2.1
        rw [e] at this
        cases this
        cases t2 with
        | cons g1 g2 =>
          cases g1 with
          | tup =>
            cases t with
            | cons f1 f2 =>
              rw [List.all_cons, Bool.and_eq_true] at tx
              cases f1 <;> cases tx.1
    · rename_i q2
      injection q2 with q2
      subst q2
      unfold noL at ar
      cases ar
    · cases ar
  have kB : Kp W H (backH (away is σ ρ H) H H') := fun b o e _ nt => by
    by_cases z : away is σ ρ H b = true
    · rw [back_t z]; exact e
    · rw [back_f z]; exact kk b o e z nt
  have all : ∀ b o, H b = some o → NT o → backH (away is σ ρ H) H H' b = some o := fun b o e nt => by
    by_cases z : away is σ ρ H b = true
    · rw [back_t z]; exact e
    · rw [back_f z]; exact kk b o e z nt
  have hB : backH (away is σ ρ H) H H' a = some (.lst xs) := by rw [back_f na]; exact l.1
  have okB : (W.add a).Ok (backH (away is σ ρ H) H H') := by
    refine ⟨fun b hb => ?_, fun c l0 z => ?_, ?_⟩
    · rcases List.mem_cons.mp hb with rfl | hb
      · exact ⟨_, hB, fun z => z, nt_lst⟩
      · obtain ⟨o, e, nf, nt⟩ := s.ok.there b hb
        exact ⟨o, all b o e nt, nf, nt⟩
    · obtain ⟨g1, g2, ms, i0, r0, sd, S⟩ := s.ok.draw c l0 z
      refine ⟨List.mem_cons_of_mem _ g1, fun y => ?_, ms, i0, r0, sd, S.ne, all _ _ S.at_ nt_lst, all _ _ S.cells nt_lst, S.i0, S.r0, S.s0, S.s1⟩
      rcases List.mem_cons.mp y with rfl | y
      · exact fr _ S.cells nt_lst
      · exact g2 y
    · refine tabs_sub ok'.tabs fun b o e _ => ?_
      have n : ¬ away is σ ρ H b = true := fun z => by
        rw [no b z] at e
        cases e
      rw [back_f n]
      exact e
  exact qq (W.add a) _ _ (add_stpF s.ok kB fr) (s.newF kB fr okB rfl ⟨a, xs, rfl, List.mem_cons_self, fun l0 z => by
    obtain ⟨o, e, _, nt⟩ := s.ok.there a (s.ok.draw a l0 z).1
    exact fr o e nt, hB, rpAll_texts tx t⟩)
end
end Dd
/-! GSrc -/
namespace Dw
open PySem PySem.Spec PyProof.Rows L2
def topS (i : Nat) : Stmt := PySem.Challenge.pw_doubtwell_k12_required_items_by_bounds.main.body.getD i (.Pass ⟨0, 0, 0, 0⟩)
abbrev sSrc : Stmt := topS 51
abbrev sDraw : Stmt := topS 52
theorem scSrc : FnScope ["_law_script"] ["_law_script"] (defScope sSrc) := ⟨rfl, rfl, rfl, by decide +kernel, rfl, by decide +kernel, by decide +kernel⟩
theorem scDraw : FnScope ["_law_source_here", "_law_count", "_law_cell", "_law_rest", "_law_twice"] ["_law_source_here", "_law_count"] (defScope sDraw) := ⟨rfl, rfl, rfl, by decide +kernel, rfl, by decide +kernel, by decide +kernel⟩
section
variable {P : Program} {w : World} {K : PySem.W.Frag} {mg : Str → Option Value} {base : Heap}
/-! ### _law_source -/
theorem ok_src {f : Addr} {fd : FuncData} {k : Nat} (F : Fun K "_law_source" "_law_source" sSrc f fd) (mL : mg "list" = none) : FnOk P w K mg base CX0 (k + 1) f fd ["_law_script"] (spSrc K) := by
  refine F.ok scSrc (fun vs H Q E h => ?_) (fun cdv A outer s H vs Q E hr h => ?_)
  · obtain ⟨a, ns, rfl, _⟩ := h
    rfl
  · obtain ⟨a, ns, rfl, hS, q⟩ := h
    refine ⟨_, pss_one (ps_ret (pe_lst (pa_cons (pe_callTy call_list_of (by rfl) mL (by decide +kernel) (pa_cons (pe_slice sl_list (pv 0) po_none (po_some pe_int)) pa_nil)) (pa_cons pe_int (pa_cons pe_int (pa_cons pe_int pa_nil)))))), ?_⟩
    obtain ⟨ms, hms⟩ := cut_ints ns none (some 63)
    refine ⟨_, rfl, 63, rfl, a, _, rfl, hS, fun c nc => ⟨c, _, rfl, .inl (.inl (.inl upd_same)), fun l nl => ⟨Nat.le_of_ble_eq_true rfl, fun p np => ?_⟩⟩⟩
    rw [hms] at nl np ⊢
    have s1 : Same H (upd H c (.lst (ms.map V.int))) := same_new nc
    have s2 : Same (upd H c (.lst (ms.map V.int))) (upd (upd H c (.lst (ms.map V.int))) l (.lst (ms.map V.int))) := same_new nl
    have s3 := same_new (o := .lst [.ref l, .int 0, .int 0, .int 4711]) np
    have nlp : l ≠ p := fun z => by
      rw [z, upd_same] at np
      cases np
    refine q _ p l ((s1.trans s2).trans s3) ((s1.trans s2).free np) (s1.free nl) ⟨ms, 0, 0, 4711, nlp, upd_same, ?_, by decide, by decide, by decide, by decide⟩
    rw [upd_ne nlp, upd_same]
/-! ### _law_draw -/
theorem ok_draw {f : Addr} {fd : FuncData} {k : Nat} (F : Fun K "_law_draw" "_law_draw" sDraw f fd) (mL : mg "len" = none) (mA : mg "abs" = none) : FnOk P w K mg base CX0 (k + 1) f fd ["_law_source_here", "_law_count"] spDraw := by
  refine F.ok scDraw (fun vs H Q E h => ?_) (fun cdv A outer s H vs Q E hr h => ?_)
  · obtain ⟨a, l, c, rfl, _⟩ := h
    rfl
  · obtain ⟨a, l, c, rfl, ⟨ms, i, r, sd, S⟩, hc, hc2, q⟩ := h
    refine ⟨_, C8.pss_cut (ps_if (PW.pt (pw_and (pt_cmpR op_eq (pe_ix ix_list (pv 0) pe_int (fun _ _ => rfl)) pe_int (nomark _))
          (pw_and1 (pt_cmpR op_lt (pe_ix ix_list (pv 0) pe_int (fun _ _ => rfl)) (pe_callB call_len_seq (by rfl) mL PySem.boot_len (pa_cons (pe_ix ix_list (pv 0) pe_int (fun _ _ => rfl)) pa_nil)) (nomark _)))))
        (pss_cons (ps_set (i := 2) scDraw.nd rfl (.inl rfl) (pe_ix ix_list (pe_ix ix_list (pv 0) pe_int (fun _ _ => rfl)) (pe_ix ix_list (pv 0) pe_int (fun _ _ => rfl)) (fun _ _ => rfl)))
        (pss_cons (ps_augS (pv 0) pe_int get_list pe_int ip_add set_list)
        (pss_one (ps_if (pt_cmpR op_ge (pe_callB call_abs (by rfl) mA (by decide +kernel) (pa_cons (pv 2) pa_nil)) (pe_op op_pow pe_int pe_int) (nomark _))
          (pss_one (ps_asg (pe_callB call_abs (by rfl) mA (by decide +kernel) (pa_cons (pv 2) pa_nil)) (pg_sub (pv 0) pe_int set_list)))
          (pss_one (ps_asg (pe_op op_mod (pe_op op_add (pe_op op_add (pe_op op_mul (pe_ix ix_list (pv 0) pe_int (fun _ _ => rfl)) pe_int) (pe_op op_mul (pe_op op_mod (pv 2) pe_int) pe_int)) pe_int) pe_int) (pg_sub (pv 0) pe_int set_list)))))))
        pss_nil)
      (C8.pss_cut (ps_if (pt_cmpR op_gt (pe_ix ix_list (pv 0) pe_int (fun _ _ => rfl)) pe_int (nomark _))
        (pss_cons (ps_set (i := 3) scDraw.nd rfl (.inl rfl) (pe_ix ix_list (pv 0) pe_int (fun _ _ => rfl)))
        (pss_cons (ps_asg (pe_op op_fdivW (pv 3) (pv 1)) (pg_sub (pv 0) pe_int set_list))
        (pss_one (ps_ret (pe_op op_mod (pv 3) (pv 1)))))) pss_nil)
      (pss_cons (ps_set (i := 4) scDraw.nd rfl (.inl rfl) (pe_op op_mod (pe_op op_mul (pe_ix ix_list (pv 0) pe_int (fun _ _ => rfl)) (pe_ix ix_list (pv 0) pe_int (fun _ _ => rfl))) pe_int))
      (pss_cons (ps_asg (pe_op op_mod (pe_op op_add (pe_op op_add (pe_op op_mul (pv 4) pe_int) (pe_op op_mul (pe_ix ix_list (pv 0) pe_int (fun _ _ => rfl)) pe_int)) pe_int) pe_int) (pg_sub (pv 0) pe_int set_list))
      (pss_one (ps_ret (pe_op op_mod (pe_op op_fdiv (pe_ix ix_list (pv 0) pe_int (fun _ _ => rfl)) pe_int) (pv 1))))))), ?_⟩
    refine ⟨fun σ' H' => ∃ y2 i' r' s', σ' = [some (.ref a), some (.int c), y2, none, none] ∧ But a H H' ∧ SrcIs H' a l ms i' r' s', ?_, ?_⟩
    · refine ⟨_, rfl, a, _, _, _, rfl, rfl, SqL.of S.at_, rfl, rfl, _, rfl, ite2 (fun e => ?_) (fun e => iteF ⟨none, i, r, sd, rfl, But.refl a H, S⟩)⟩
      refine ⟨_, rfl, a, _, _, _, rfl, rfl, SqL.of S.at_, rfl, _, rfl, a, _, _, _, rfl, rfl, SqL.of S.at_, rfl, l, _, rfl, .inl (SqL.of S.cells), _, _, rfl, rfl, _, rfl, ite2 (fun e2 => ?_) (fun e2 => ⟨none, i, r, sd, rfl, But.refl a H, S⟩)⟩
      have hi : i < ((ms.map V.int).length : Int) := of_decide_eq_true e2
      have i0 := S.i0
      rw [List.length_map] at hi
      obtain ⟨j, rfl⟩ : ∃ j : Nat, i = (j : Int) := ⟨i.toNat, by omega⟩
      have hj : j < ms.length := by omega
      have gx : (ms.map V.int)[j]? = some (.int ms[j]) := by
        rw [List.getElem?_map, List.getElem?_eq_getElem hj]
        rfl
      -- cell = src[0][src[1]]
      refine ⟨_, rfl, a, _, _, _, rfl, rfl, SqL.of S.at_, rfl, _, rfl, a, _, _, _, rfl, rfl, SqL.of S.at_, rfl, l, _, _, _, rfl, rfl, SqL.of S.cells, atI_nat gx, ?_⟩
      -- src[1] += 1
      refine ⟨_, rfl, a, _, 1, _, rfl, rfl, SqL.of S.at_, rfl, _, _, rfl, rfl, a, _, _, 1, rfl, rfl, S.at_, rfl, ?_⟩
      have S1 : SrcIs (upd H a (.lst [.ref l, .int ((j : Int) + 1), .int r, .int sd])) a l ms ((j : Int) + 1) r sd := ⟨S.ne, upd_same, by rw [upd_ne S.ne]; exact S.cells, by omega, S.r0, S.s0, S.s1⟩
      have B1 : But a H (upd H a (.lst [.ref l, .int ((j : Int) + 1), .int r, .int sd])) := (But.refl a H).upd
      -- if abs(cell) >= 10 ** 18
      refine ⟨_, rfl, _, rfl, 10, 18, rfl, rfl, ⟨by decide, by decide, by decide⟩, _, _, rfl, rfl, _, rfl, ite2 (fun e3 => ?_) (fun e3 => ?_)⟩
      · refine ⟨_, rfl, _, rfl, _, rfl, a, _, _, 2, rfl, rfl, S1.at_, rfl, _, _, _, _, rfl, B1.upd, S.ne, upd_same, ?_, ?_, ?_, S.s0, S.s1⟩
        · rw [upd_ne S.ne]; exact S1.cells
        · exact S1.i0
        · rw [abs_if]; omega
      · refine ⟨_, rfl, a, _, _, _, rfl, rfl, SqL.of S1.at_, rfl, _, _, rfl, rfl, .inr ⟨by decide, by decide⟩, _, rfl, _, _, rfl, rfl, (by show (0 : Int) < 1000033; decide), _, _, rfl, rfl, .inr ⟨by decide, by decide⟩, _, _, rfl, rfl, _, _, rfl, rfl, _, _, rfl, rfl, (by show (0 : Int) < 2147483587; decide), _, rfl, a, _, _, 3, rfl, rfl, S1.at_, rfl, _, _, _, _, rfl, B1.upd, S.ne, upd_same, ?_, ?_, ?_, ?_, ?_⟩
        · rw [upd_ne S.ne]; exact S1.cells
        · exact S1.i0
        · exact S.r0
        · exact Int.emod_nonneg _ (by decide)
        · exact Int.emod_lt_of_pos _ (by decide)
    · rintro σ' H' ⟨y2, i', r', s', rfl, B, S'⟩
      refine ⟨fun σ'' H'' => σ'' = [some (.ref a), some (.int c), y2, none, none] ∧ H'' = H', ?_, ?_⟩
      · refine ⟨_, rfl, a, _, _, _, rfl, rfl, SqL.of S'.at_, rfl, _, _, rfl, rfl, _, rfl, ite2 (fun e => ?_) (fun e => ⟨rfl, rfl⟩)⟩
        have hr0 : 0 < r' := of_decide_eq_true e
        refine ⟨_, rfl, a, _, _, _, rfl, rfl, SqL.of S'.at_, rfl, _, rfl, _, rfl, r', c, rfl, rfl, wide_div (b := 8000) hc hc2 (by decide) (by decide), _, rfl, a, _, _, 2, rfl, rfl, S'.at_, rfl, _, rfl, _, rfl, r', c, rfl, rfl, hc, ?_⟩
        refine q _ _ B.upd ⟨ms, i', r' / c, s', S.ne, upd_same, ?_, S'.i0, Int.ediv_nonneg S'.r0 (by omega), S'.s0, S'.s1⟩ (Int.emod_nonneg _ (by omega)) (Int.emod_lt_of_pos _ hc)
        rw [upd_ne S.ne]; exact S'.cells
      · rintro σ'' H'' ⟨rfl, rfl⟩
        have h0 := S'.s0
        have h1 := S'.s1
        refine ⟨_, rfl, a, _, _, _, rfl, rfl, SqL.of S'.at_, rfl, _, rfl, a, _, _, _, rfl, rfl, SqL.of S'.at_, rfl, _, _, rfl, rfl, .inl ⟨by omega, by omega⟩, _, _, rfl, rfl, (by show (0 : Int) < 2147483587; decide), ?_⟩
        refine ⟨_, rfl, _, _, rfl, rfl, .inr ⟨by decide, by decide⟩, _, rfl, a, _, _, _, rfl, rfl, SqL.of S'.at_, rfl, _, _, rfl, rfl, .inr ⟨by decide, by decide⟩, _, _, rfl, rfl, _, _, rfl, rfl, _, _, rfl, rfl, (by show (0 : Int) < 2147483587; decide), _, rfl, a, _, _, 3, rfl, rfl, S'.at_, rfl, ?_⟩
        refine ⟨_, rfl, a, _, _, _, rfl, rfl, SqL.of upd_same, rfl, _, _, rfl, rfl, ⟨by decide, by decide⟩, _, rfl, _, c, rfl, rfl, hc, ?_⟩
        refine q _ _ B.upd ⟨ms, i', r', _, S.ne, upd_same, ?_, S'.i0, S'.r0, Int.emod_nonneg _ (by decide), Int.emod_lt_of_pos _ (by decide)⟩ (Int.emod_nonneg _ (by omega)) (Int.emod_lt_of_pos _ hc)
        rw [upd_ne S.ne]; exact S'.cells
end
end Dw
/-! GSame -/
namespace Dw
open PySem PySem.Spec PyProof.Rows L2
abbrev sSame : Stmt := topS 55
abbrev nSame : List Str := ["_law_found", "_law_expected", "_law_x", "_law_y"]
theorem scSame : FnScope nSame ["_law_found", "_law_expected"] (defScope sSame) := ⟨rfl, rfl, rfl, by decide +kernel, rfl, by decide +kernel, by decide +kernel⟩
structure BltS (mg : Str → Option Value) : Prop where
  isi : mg "isinstance" = none
  lst : mg "list" = none
  tup : mg "tuple" = none
  len : mg "len" = none
  all : mg "all" = none
  zip : mg "zip" = none
  bl : mg "bool" = none
  int : mg "int" = none
  dict : mg "dict" = none
  str : mg "str" = none
section
variable {P : Program} {w : World} {K : PySem.W.Frag} {mg : Str → Option Value} {base : Heap}
def spPrev (K : PySem.W.Frag) : Nat → Sp
  | 0 => fun _ _ _ _ => False
  | n + 1 => spSame K n
theorem kitLT {K : PySem.W.Frag} (d : PyData) : PySem.W.kitAny K (.type (tyName d)) [.type "list", .type "tuple"] = some (isL d || isT d) := by
  refine kitAny_cons (kit_ty (kitL d)) (fun h => kitAny_cons (kit_ty (kitT d)) (fun h2 => ?_) (fun h2 => ?_)) (fun h => ?_)
  · rw [h, h2]
    exact kitAny_nil
  · rw [h2, Bool.or_true]
  · rw [h, Bool.true_or]
theorem same_tags {n : Nat} {d e : PyData} (h : sameD n d e = true) : isL d = isL e ∧ isT d = isT e ∧ isN d = isN e ∧ isB d = isB e ∧ isI d = isI e ∧ isM d = isM e ∧ isS d = isS e := by
  cases n <;> cases d <;> cases e <;> first | exact ⟨rfl, rfl, rfl, rfl, rfl, rfl, rfl⟩ | (exact absurd h (by simp [sameD, sameS]))
theorem same_scal {n : Nat} {d e : PyData} (nL : isL e = false) (nT : isT e = false) : sameD n d e = sameS d e := by
  cases n <;> cases e <;> first | rfl | (cases d <;> rfl) | exact Bool.noConfusion (show true = false from nL) | exact Bool.noConfusion (show true = false from nT)
theorem tag_ne {n : Nat} {d e : PyData} {a b : Bool} (hp : sameD n d e = true → a = b) (c : (!decide (V.bl a = V.bl b)) = true) : sameD n d e = false := by
  cases z : sameD n d e with
  | false => rfl
  | true =>
    rw [hp z, decide_eq_true rfl] at c
    cases c
theorem tag_eq {a b : Bool} (c : ¬ (!decide (V.bl a = V.bl b)) = true) : a = b := by
  cases a <;> cases b <;> first | rfl | exact absurd rfl c
theorem zip_get {α β γ : Type} {f : α → β → γ} {as : List α} {bs : List β} {i : Nat} {a : α} {b : β} (h1 : as[i]? = some a) (h2 : bs[i]? = some b) : (List.zipWith f as bs)[i]? = some (f a b) := by
  rw [List.getElem?_zipWith, h1, h2]
theorem same_turns {J : It} {n : Nat} {xs ys : List V} {ds es : List PyData} {H H1 : Hp} {D : Addr} {Qd : Hp → Prop} {σ : L2.St} (h1 : Same H H1) (hx : DpAll K H xs ds) (hy : DpAll K H ys es) (hl : ds.length = es.length) (sh : ds.length ≤ 1000) (fit : ∀ e ∈ es, fits n e) (nD : H1 D = none)
    (sσ : σ.length = 4)
    (go : ∀ i H', Same H1 H' → i < xs.length → J.go i H') (stop : ∀ H', Same H1 H' → J.stop xs.length H')
    (yl : ∀ i H' v H'', Same H1 H' → J.yld i H' v H'' → ∃ T x y, v = .ref T ∧ H' T = none ∧ H'' = upd H' T (.tup [x, y]) ∧ xs[i]? = some x ∧ ys[i]? = some y)
    (hd : ∀ H', Same H1 H' → H' D = some (.lst ((List.zipWith (sameD n) ds es).map V.bl)) → Qd H') :
    ∃ W : Nat → Nat → Hp → Prop, (∃ m, W 0 m (upd H1 D (.lst []))) ∧ ∀ i m H, W i m H →
      (J.stop i H ∧ Qd H) ∨ (J.go i H ∧ ∃ Nx : Hp → Prop, (∀ H', Nx H' → ∃ m', m' < m ∧ W (i + 1) m' H') ∧ ∀ x H', J.yld i H x H' → gTup K 2 (gCons (gName 2) (gCons (gName 3) gNil)) x (wipe σ [2, 3]) H' fun σ2 H2 => wipe σ2 [2, 3] = wipe σ [2, 3] ∧ tYes σ2 H2 fun b H3 =>
        if b = true then tCall (spSame K n) [] E0 (tCons (tVar 2) (tCons (tVar 3) tNil)) σ2 H3 fun y H4 => ∃ acc, H4 D = some (.lst acc) ∧ acc.length < sizeLine ∧ Nx (upd H4 D (.lst (acc ++ [y]))) else Nx H3) := by
  have lx := dps_len hx
  have ly := dps_len hy
  obtain ⟨s0, s1, s2, s3, rfl⟩ : ∃ s0 s1 s2 s3, σ = [s0, s1, s2, s3] := by
    match σ, sσ with
    | [a, b, c, d], _ => exact ⟨a, b, c, d, rfl⟩
  refine lc_pairs (xs := xs) (ys := ys) (by omega) (fun i H' => Same H1 H' ∧ H' D = some (.lst (((List.zipWith (sameD n) ds es).take i).map V.bl))) ⟨same_new nD, upd_same⟩ (fun i H' p => go i H' p.1) (fun H' p => stop H' p.1) (fun i H' v H'' p y => yl i H' v H'' p.1 y) ?_ ?_
  · rintro i x y T H' ex ey ⟨sm, eD⟩ nT
    have sT : Same H' (upd H' T (.tup [x, y])) := same_new nT
    have sA : Same H (upd H' T (.tup [x, y])) := (h1.trans sm).trans sT
    obtain ⟨d, ed, dd⟩ := dps_get hx ex
    obtain ⟨e, ee, de⟩ := dps_get hy ey
    refine ⟨T, [x, y], rfl, SqT.of upd_same, rfl, x, [y], rfl, y, [], rfl, rfl, rfl, ?_⟩
    refine ⟨x, rfl, y, rfl, x, y, d, e, rfl, dp_same sA dd, dp_same sA de, fit e (List.mem_of_getElem? ee), fun H4 s4 => ?_⟩
    have zg : (List.zipWith (sameD n) ds es)[i]? = some (sameD n d e) := zip_get ed ee
    refine ⟨_, s4 _ _ (sT _ _ eD), ?_, same_upd ((sm.trans sT).trans s4) nD, ?_⟩
    · rw [List.length_map, List.length_take, List.length_zipWith]
      exact small1000 (by omega)
    · rw [upd_same, List.take_add_one, zg, List.map_append]
      rfl
  · rintro H' ⟨sm, eD⟩
    rw [List.take_of_length_le (by rw [List.length_zipWith]; omega)] at eD
    exact hd H' sm eD
theorem same_step {f : Addr} {fd : FuncData} {n : Nat} (F : Fun K "_law_same" "_law_same" sSame f fd) (g : mg "_law_same" = some (.ref f)) (bn : L2.Binds K fd ["_law_found", "_law_expected"] []) (B : BltS mg)
    (ih : FnOk P w K mg base CX0 (n + 1) f fd ["_law_found", "_law_expected"] (spPrev K n)) : FnOk P w K mg base CX0 (n + 2) f fd ["_law_found", "_law_expected"] (spSame K n) := by
  refine F.ok scSame (fun vs H Q E h => ?_) (fun cdv A outer s H vs Q E hr h => ?_)
  · obtain ⟨x, y, d, e, rfl, _⟩ := h
    rfl
  · obtain ⟨x, y, d, e, rfl, hd, he, hf, q⟩ := h
    refine ⟨_, pss_cons (ps_if (pt_val (pe_callB call_isiT (by rfl) B.isi (by decide +kernel) (pa_cons (pv 1) (pa_cons (pe_tup (pa_cons (pe_bltn (v := .ty "list") (by rfl) B.lst (by decide +kernel) rfl) (pa_cons (pe_bltn (v := .ty "tuple") (by rfl) B.tup (by decide +kernel) rfl) pa_nil))) pa_nil))))
        (pss_cons (ps_if (PW.pt (pw_or (pt_cmpR op_ne (pe_callB call_isi (by rfl) B.isi (by decide +kernel) (pa_cons (pv 0) (pa_cons (pe_bltn (v := .ty "list") (by rfl) B.lst (by decide +kernel) rfl) pa_nil)))
              (pe_callB call_isi (by rfl) B.isi (by decide +kernel) (pa_cons (pv 1) (pa_cons (pe_bltn (v := .ty "list") (by rfl) B.lst (by decide +kernel) rfl) pa_nil))) (nomark _))
            (pw_or1 (pt_cmpR op_ne (pe_callB call_isi (by rfl) B.isi (by decide +kernel) (pa_cons (pv 0) (pa_cons (pe_bltn (v := .ty "tuple") (by rfl) B.tup (by decide +kernel) rfl) pa_nil)))
              (pe_callB call_isi (by rfl) B.isi (by decide +kernel) (pa_cons (pv 1) (pa_cons (pe_bltn (v := .ty "tuple") (by rfl) B.tup (by decide +kernel) rfl) pa_nil))) (nomark _)))))
            (pss_one (ps_ret pe_bl)) pss_nil)
          (pss_one (ps_ret (pe_and (pe_cmpR op_eq (pe_callB call_len_seq (by rfl) B.len PySem.boot_len (pa_cons (pv 0) pa_nil)) (pe_callB call_len_seq (by rfl) B.len PySem.boot_len (pa_cons (pv 1) pa_nil)) (nomark _))
            (pe_one (pe_callB (cr_all rfl) (by rfl) B.all (by decide +kernel) (pa_cons (pe_lc (own := [("_law_x", 2), ("_law_y", 3)]) (g := gTup K 2 (gCons (gName 2) (gCons (gName 3) gNil))) (tt := tYes) (te := tCall (spPrev K n) [] E0 (tCons (tVar 2) (tCons (tVar 3) tNil))) rfl scSame.nd
                (RZ.pi_zipA (by rfl) B.zip (pa_cons (pv 0) (pa_cons (pv 1) pa_nil))) (blkOk_by (N := nSame) (sc := defScope sSame) (by decide +kernel))
                (fun _ _ _ _ _ => pg_tup rfl (pgs_cons (pg_name (i := 2) scSame.nd rfl (Or.inl rfl)) (pgs_cons (pg_name (i := 3) scSame.nd rfl (Or.inl rfl)) pgs_nil))) (fun _ _ _ _ _ => pts_nil)
                (fun _ _ _ _ _ => pe_call ih hr (by rfl) g F.kp bn .nil pass0 (pa_cons (pv 2) (pa_cons (pv 3) pa_nil)))) pa_nil)))))))
        pss_nil)
      (pss_cons (ps_if (PW.pt (pw_or (pt_cmpR op_ne (pe_cmp (pc_isN (pv 0))) (pe_cmp (pc_isN (pv 1))) (nomark _))
            (pw_or1 (pt_cmpR op_ne (pe_callB call_isi (by rfl) B.isi (by decide +kernel) (pa_cons (pv 0) (pa_cons (pe_bltn (v := .ty "bool") (by rfl) B.bl (by decide +kernel) rfl) pa_nil)))
              (pe_callB call_isi (by rfl) B.isi (by decide +kernel) (pa_cons (pv 1) (pa_cons (pe_bltn (v := .ty "bool") (by rfl) B.bl (by decide +kernel) rfl) pa_nil))) (nomark _)))))
            (pss_one (ps_ret pe_bl)) pss_nil)
      (pss_cons (ps_if (PW.pt (pw_or (pt_cmpR op_ne (pe_callB call_isi (by rfl) B.isi (by decide +kernel) (pa_cons (pv 0) (pa_cons (pe_bltn (v := .ty "int") (by rfl) B.int (by decide +kernel) rfl) pa_nil)))
              (pe_callB call_isi (by rfl) B.isi (by decide +kernel) (pa_cons (pv 1) (pa_cons (pe_bltn (v := .ty "int") (by rfl) B.int (by decide +kernel) rfl) pa_nil))) (nomark _))
            (pw_or1 (pt_cmpR op_ne (pe_callB call_isi (by rfl) B.isi (by decide +kernel) (pa_cons (pv 0) (pa_cons (pe_bltn (v := .ty "dict") (by rfl) B.dict (by decide +kernel) rfl) pa_nil)))
              (pe_callB call_isi (by rfl) B.isi (by decide +kernel) (pa_cons (pv 1) (pa_cons (pe_bltn (v := .ty "dict") (by rfl) B.dict (by decide +kernel) rfl) pa_nil))) (nomark _)))))
            (pss_one (ps_ret pe_bl)) pss_nil)
      (pss_one (ps_ret (pe_and (pe_cmpR op_eq (pe_callB call_isi (by rfl) B.isi (by decide +kernel) (pa_cons (pv 0) (pa_cons (pe_bltn (v := .ty "str") (by rfl) B.str (by decide +kernel) rfl) pa_nil)))
              (pe_callB call_isi (by rfl) B.isi (by decide +kernel) (pa_cons (pv 1) (pa_cons (pe_bltn (v := .ty "str") (by rfl) B.str (by decide +kernel) rfl) pa_nil))) (nomark _))
            (pe_one (pe_cmpR op_eq (pv 0) (pv 1) (nomark _)))))))), ?_⟩
    refine ⟨y, rfl, Nat.le_of_ble_eq_true rfl, fun tp ntp => ?_⟩
    have s1 : Same H (upd H tp (.tup [.ty "list", .ty "tuple"])) := same_new ntp
    have tpe : (upd H tp (.tup [.ty "list", .ty "tuple"])) tp = some (.tup [.ty "list", .ty "tuple"]) := upd_same
    generalize (upd H tp (.tup [.ty "list", .ty "tuple"])) = H1 at s1 tpe
    have hd1 := dp_same s1 hd
    have he1 := dp_same s1 he
    have tags := @same_tags n d e
    refine ⟨y, tp, _, _, _, isL e || isT e, rfl, tpe, .cons (.ty "list") (.cons (.ty "tuple") .nil), dp_ty he1, kitLT e, _, rfl, ite2 (fun c => ?_) (fun c => ?_)⟩
    · refine ⟨x, rfl, _, _, _, _, isL d, rfl, .ty "list", dp_ty hd1, kit_ty (kitL d), y, rfl, _, _, _, _, isL e, rfl, .ty "list", dp_ty he1, kit_ty (kitL e), rfl, _, rfl, ite2 (fun c1 => ?_) (fun c1 => ?_)⟩
      · have z := q _ s1
        rw [tag_ne (fun t => (tags t).1) c1] at z
        exact z
      · refine ⟨x, rfl, _, _, _, _, isT d, rfl, .ty "tuple", dp_ty hd1, kit_ty (kitT d), y, rfl, _, _, _, _, isT e, rfl, .ty "tuple", dp_ty he1, kit_ty (kitT e), rfl, _, rfl, ite2 (fun c2 => ?_) (fun c2 => ?_)⟩
        · have z := q _ s1
          rw [tag_ne (fun t => (tags t).2.1) c2] at z
          exact z
        · have eL := tag_eq c1
          have eT := tag_eq c2
          cases he1 with
          | @lst b ys es hb hes =>
            cases hd1 with
            | @lst a xs ds ha hds =>
              cases n with
              | zero => exact absurd hf.1 (by simp [isL])
              | succ m =>
                obtain ⟨f1, f2⟩ := hf
                have lx := dps_len hds
                have ly := dps_len hes
                refine ⟨_, rfl, a, xs, rfl, .inl ha, _, rfl, b, ys, rfl, .inl hb, rfl, _, rfl, ite2 (fun c3 => ?_) (fun c3 => ?_)⟩
                · have l3 : ds.length = es.length := by
                    have := V.int.inj (of_decide_eq_true c3)
                    omega
                  refine ⟨_, rfl, _, rfl, a, b, xs, ys, rfl, .inl ⟨ha, hb, fun D nD => same_turns (Same.refl H1) hds hes l3 (by omega) f2 nD rfl (fun i H' sm lt => ⟨xs, ys, xs[i], ys[i]'(by omega), sm.seq ha, sm.seq hb, List.getElem?_eq_getElem lt, List.getElem?_eq_getElem (by omega)⟩)
                    (fun H' sm => ⟨xs, ys, sm.seq ha, sm.seq hb, .inl (Nat.le_refl _)⟩) (fun i H' v H'' sm y => ?_) (fun H' sm eD => ?_)⟩⟩
                  · obtain ⟨T, x', y', e1, e2, e3, g1, g2⟩ := y
                    exact ⟨T, x', y', e1, e2, e3, g1 _ (sm.seq ha), g2 _ (sm.seq hb)⟩
                  · refine ⟨D, _, rfl, SqL.of eD, ?_⟩
                    have z := q _ (s1.trans sm)
                    have e4 : sameD (m + 1) (.list ds) (.list es) = (List.zipWith (sameD m) ds es).all id := by
                      show (decide (ds.length = es.length) && _) = _
                      rw [decide_eq_true l3, Bool.true_and]
                    rw [e4] at z
                    exact z
                · have z := q _ s1
                  have e4 : sameD (m + 1) (.list ds) (.list es) = false := by
                    show (decide (ds.length = es.length) && _) = false
                    rw [decide_eq_false (fun l3 => c3 (decide_eq_true (by rw [lx, ly, l3]))), Bool.false_and]
                  rw [e4] at z
                  exact z
            | _ => exact absurd eL (by simp [isL])
          | @tup b ys es hb hes =>
            cases hd1 with
            | @tup a xs ds ha hds =>
              cases n with
              | zero => exact absurd hf.2.1 (by simp [isT])
              | succ m =>
                obtain ⟨f1, f2⟩ := hf
                have lx := dps_len hds
                have ly := dps_len hes
                refine ⟨_, rfl, a, xs, rfl, .inr ha, _, rfl, b, ys, rfl, .inr hb, rfl, _, rfl, ite2 (fun c3 => ?_) (fun c3 => ?_)⟩
                · have l3 : ds.length = es.length := by
                    have := V.int.inj (of_decide_eq_true c3)
                    omega
                  refine ⟨_, rfl, _, rfl, a, b, xs, ys, rfl, .inr ⟨ha, hb, fun D nD => same_turns (Same.refl H1) hds hes l3 (by omega) f2 nD rfl (fun i H' sm lt => ⟨xs, ys, xs[i], ys[i]'(by omega), SqT.same sm ha, SqT.same sm hb, List.getElem?_eq_getElem lt, List.getElem?_eq_getElem (by omega)⟩)
                    (fun H' sm => ⟨xs, ys, SqT.same sm ha, SqT.same sm hb, .inl (Nat.le_refl _)⟩) (fun i H' v H'' sm y => ?_) (fun H' sm eD => ?_)⟩⟩
                  · obtain ⟨T, x', y', e1, e2, e3, g1, g2⟩ := y
                    exact ⟨T, x', y', e1, e2, e3, g1 _ (SqT.same sm ha), g2 _ (SqT.same sm hb)⟩
                  · refine ⟨D, _, rfl, SqL.of eD, ?_⟩
                    have z := q _ (s1.trans sm)
                    have e4 : sameD (m + 1) (.tuple ds) (.tuple es) = (List.zipWith (sameD m) ds es).all id := by
                      show (decide (ds.length = es.length) && _) = _
                      rw [decide_eq_true l3, Bool.true_and]
                    rw [e4] at z
                    exact z
                · have z := q _ s1
                  have e4 : sameD (m + 1) (.tuple ds) (.tuple es) = false := by
                    show (decide (ds.length = es.length) && _) = false
                    rw [decide_eq_false (fun l3 => c3 (decide_eq_true (by rw [lx, ly, l3]))), Bool.false_and]
                  rw [e4] at z
                  exact z
            | _ => exact absurd eT (by simp [isT])
          | _ => exact absurd c (by simp [isL, isT])
    · have nL : isL e = false := by
        cases z : isL e with
        | false => rfl
        | true => exact absurd (by rw [z, Bool.true_or]) c
      have nT : isT e = false := by
        cases z : isT e with
        | false => rfl
        | true => exact absurd (by rw [z, Bool.or_true]) c
      refine ⟨x, rfl, y, rfl, rfl, _, rfl, ite2 (fun c1 => ?_) (fun c1 => ?_)⟩
      · rw [dp_non hd1, dp_non he1] at c1
        have z := q _ s1
        rw [tag_ne (fun t => (tags t).2.2.1) c1] at z
        exact z
      rw [dp_non hd1, dp_non he1] at c1
      refine ⟨x, rfl, _, _, _, _, isB d, rfl, .ty "bool", dp_ty hd1, kit_ty (kitBo d), y, rfl, _, _, _, _, isB e, rfl, .ty "bool", dp_ty he1, kit_ty (kitBo e), rfl, _, rfl, ite2 (fun c2 => ?_) (fun c2 => ?_)⟩
      · have z := q _ s1
        rw [tag_ne (fun t => (tags t).2.2.2.1) c2] at z
        exact z
      refine ⟨x, rfl, _, _, _, _, isI d, rfl, .ty "int", dp_ty hd1, kit_ty (kitI d), y, rfl, _, _, _, _, isI e, rfl, .ty "int", dp_ty he1, kit_ty (kitI e), rfl, _, rfl, ite2 (fun c3 => ?_) (fun c3 => ?_)⟩
      · have z := q _ s1
        rw [tag_ne (fun t => (tags t).2.2.2.2.1) c3] at z
        exact z
      refine ⟨x, rfl, _, _, _, _, isM d, rfl, .ty "dict", dp_ty hd1, kit_ty (kitM d), y, rfl, _, _, _, _, isM e, rfl, .ty "dict", dp_ty he1, kit_ty (kitM e), rfl, _, rfl, ite2 (fun c4 => ?_) (fun c4 => ?_)⟩
      · have z := q _ s1
        rw [tag_ne (fun t => (tags t).2.2.2.2.2.1) c4] at z
        exact z
      refine ⟨x, rfl, _, _, _, _, isS d, rfl, .ty "str", dp_ty hd1, kit_ty (kitS d), y, rfl, _, _, _, _, isS e, rfl, .ty "str", dp_ty he1, kit_ty (kitS e), rfl, _, rfl, ite2 (fun c5 => ?_) (fun c5 => ?_)⟩
      · have eN := tag_eq c1
        have eB := tag_eq c2
        have eI := tag_eq c3
        have eS : isS d = isS e := V.bl.inj (of_decide_eq_true c5)
        have z := q _ s1
        have e0 : sameD n d e = sameS d e := same_scal nL nT
        rw [e0] at z
        cases he1 with
        | non =>
          cases hd1 with
          | non => exact ⟨_, rfl, _, rfl, rfl, z⟩
          | _ => exact absurd eN (by simp [isN])
        | bl b =>
          cases hd1 with
          | bl a => exact ⟨_, rfl, _, rfl, rfl, by rw [dec_bl]; exact z⟩
          | _ => exact absurd eB (by simp [isB])
        | int b =>
          cases hd1 with
          | int a => exact ⟨_, rfl, _, rfl, rfl, by rw [dec_int]; exact z⟩
          | bl a => exact absurd eB (by simp [isB])
          | _ => exact absurd eI (by simp [isI])
        | str b =>
          cases hd1 with
          | str a => exact ⟨_, rfl, _, rfl, rfl, by rw [dec_str]; exact z⟩
          | _ => exact absurd eS (by simp [isS])
        | lst _ _ => exact absurd nL (by simp [isL])
        | tup _ _ => exact absurd nT (by simp [isT])
      · have z := q _ s1
        have c5' : (!decide (V.bl (isS d) = V.bl (isS e))) = true := by
          cases zz : decide (V.bl (isS d) = V.bl (isS e)) with
          | false => rfl
          | true => exact absurd zz c5
        rw [tag_ne (fun t => (tags t).2.2.2.2.2.2) c5'] at z
        exact z
theorem ok_same {f : Addr} {fd : FuncData} (F : Fun K "_law_same" "_law_same" sSame f fd) (g : mg "_law_same" = some (.ref f)) (bn : L2.Binds K fd ["_law_found", "_law_expected"] []) (B : BltS mg) :
    ∀ n, FnOk P w K mg base CX0 (n + 2) f fd ["_law_found", "_law_expected"] (spSame K n)
  | 0 => same_step F g bn B ⟨fun _ _ _ _ h => h.elim, fun _ _ _ _ _ _ _ _ _ _ _ _ _ h => h.elim⟩
  | n + 1 => same_step F g bn B (ok_same F g bn B n)
end
end Dw
/-! GPre -/
namespace Dd
open PySem PySem.Spec PyProof.Rows L2
structure Blt (mg : Str → Option Value) : Prop where
  abs_ : mg "abs" = none
  all_ : mg "all" = none
  any_ : mg "any" = none
  dict_ : mg "dict" = none
  enumerate_ : mg "enumerate" = none
  int_ : mg "int" = none
  isinstance_ : mg "isinstance" = none
  len_ : mg "len" = none
  list_ : mg "list" = none
  range_ : mg "range" = none
  set_ : mg "set" = none
  sorted_ : mg "sorted" = none
  str_ : mg "str" = none
  tuple_ : mg "tuple" = none
def tb_QUERY_LENGTHS : List (Str × PyData) := [("sort", .int 2), ("min", .int 2), ("max", .int 2), ("above", .int 3), ("compare", .int 3)]
structure Cst (K : PySem.W.Frag) (w : World) (mg : Str → Option Value) : Prop where
  CAPACITY_ : ∃ t, mg "CAPACITY" = some (.int 24 t)
  MAX_LETTERS_ : ∃ t, mg "MAX_LETTERS" = some (.int 6 t)
  MAX_PRICE_ : ∃ t, mg "MAX_PRICE" = some (.int 1000 t)
  MAX_QUERIES_ : ∃ t, mg "MAX_QUERIES" = some (.int 8 t)
  QUERY_LENGTHS_ : ∃ d, GetK K w d tb_QUERY_LENGTHS ∧ mg "QUERY_LENGTHS" = some (.ref d)
section
variable {P : Program} {w : World} {K : PySem.W.Frag} {mg : Str → Option Value} {base : Heap}
abbrev s__law_shuffled : Stmt := Dw.topS 54
theorem sc__law_shuffled : FnScope ["_law_source_here", "_law_chosen", "_law_found", "_law_one"] ["_law_source_here", "_law_chosen"] (defScope s__law_shuffled) := ⟨rfl, rfl, rfl, by decide +kernel, rfl, by decide +kernel, by decide +kernel⟩
def u__law_shuffled (ρ : List SD) : M Out := seqM ((do let vs ← pure []; let ds ← M.lift (allD vs); M.when (szOk ds.length) (pure (.nx (ρ.set 2 (.own ds)))))) (fun ρ => seqM ((do let its ← (do let x ← M.lift (getS ρ 1); M.lift (itemsD x)); forM (.nm 3) (fun ρ => (do let ds ← M.lift (ownL ρ 2); let w ← (do let xs ← (do let x ← M.lift (getS ρ 0); let xs ← (do let x ← (do let x ← (do let xs ← (do let x ← M.lift (getS ρ 2); let xs ← pure []; pure (x :: xs)); bLen xs); let y ← pure (.d (PyData.int 1)); M.lift (gAdd x y)); let xs ← pure []; pure (x :: xs)); pure (x :: xs)); callM 2 drawD xs); let j ← M.lift (asI w); let y ← M.lift (getS ρ 3); let z ← M.lift (asD y); M.when (szOk (ds.length + 1) && decide (0 ≤ j) && bigI j) (pure (.nx (ρ.set 2 (.own (ds.take j.toNat ++ [z] ++ ds.drop j.toNat))))))) its ρ)) (fun ρ => (do let x ← M.lift (getS ρ 2); pure (.rt (frzS x)))))
def d__law_shuffled : List SD → M SD := defM 4 u__law_shuffled
abbrev s__law_gcd : Stmt := Dw.topS 56
theorem sc__law_gcd : FnScope ["_law_one", "_law_two", "_law_rest"] ["_law_one", "_law_two"] (defScope s__law_gcd) := ⟨rfl, rfl, rfl, by decide +kernel, rfl, by decide +kernel, by decide +kernel⟩
def u__law_gcd (ρ : List SD) : M Out := seqM (whileM (fun ρ => (do let x ← M.lift (getS ρ 1); let y ← pure (.d (PyData.int 0)); let z ← M.lift (gNe x y); M.lift (asB z))) (fun ρ => seqM ((do let v ← (do let x ← M.lift (getS ρ 0); let y ← M.lift (getS ρ 1); M.lift (gMod x y)); let y ← M.lift (plain v); pure (.nx (ρ.set 2 y)))) (fun ρ => seqM ((do let v ← M.lift (getS ρ 1); let y ← M.lift (plain v); pure (.nx (ρ.set 0 y)))) (fun ρ => (do let v ← M.lift (getS ρ 2); let y ← M.lift (plain v); pure (.nx (ρ.set 1 y)))))) ρ) (fun ρ => (do let x ← (do let xs ← (do let x ← M.lift (getS ρ 0); let xs ← pure []; pure (x :: xs)); bAbs xs); let y ← M.lift (plain x); pure (.rt y)))
def d__law_gcd : List SD → M SD := defM 3 u__law_gcd
abbrev s__law_reduced : Stmt := Dw.topS 57
theorem sc__law_reduced : FnScope ["_law_numerator", "_law_denominator", "_law_divisor"] ["_law_numerator", "_law_denominator"] (defScope s__law_reduced) := ⟨rfl, rfl, rfl, by decide +kernel, rfl, by decide +kernel, by decide +kernel⟩
def u__law_reduced (ρ : List SD) : M Out := seqM ((do let v ← (do let xs ← (do let x ← M.lift (getS ρ 0); let xs ← (do let x ← M.lift (getS ρ 1); let xs ← pure []; pure (x :: xs)); pure (x :: xs)); callM 2 d__law_gcd xs); let y ← M.lift (plain v); pure (.nx (ρ.set 2 y)))) (fun ρ => seqM ((do if ← (do let x ← M.lift (getS ρ 1); let y ← pure (.d (PyData.int 0)); let z ← M.lift (gLt x y); M.lift (asB z)) then ((do let v ← (do let x ← pure (.d (PyData.int 0)); let y ← M.lift (getS ρ 2); M.lift (gSub x y)); let y ← M.lift (plain v); pure (.nx (ρ.set 2 y)))) else (pure (.nx ρ)))) (fun ρ => (do let x ← (do let xs ← (do let x ← (do let x ← M.lift (getS ρ 0); let y ← M.lift (getS ρ 2); M.lift (gDiv x y)); let xs ← (do let x ← (do let x ← M.lift (getS ρ 1); let y ← M.lift (getS ρ 2); M.lift (gDiv x y)); let xs ← pure []; pure (x :: xs)); pure (x :: xs)); M.lift (gTup xs)); let y ← M.lift (plain x); pure (.rt y))))
def d__law_reduced : List SD → M SD := defM 3 u__law_reduced
abbrev s__law_bound : Stmt := Dw.topS 61
theorem sc__law_bound : FnScope ["_law_source_here", "_law_spread"] ["_law_source_here", "_law_spread"] (defScope s__law_bound) := ⟨rfl, rfl, rfl, by decide +kernel, rfl, by decide +kernel, by decide +kernel⟩
def u__law_bound (ρ : List SD) : M Out := seqM ((do if ← (do let x ← (do let xs ← (do let x ← M.lift (getS ρ 0); let xs ← (do let x ← pure (.d (PyData.int 4)); let xs ← pure []; pure (x :: xs)); pure (x :: xs)); callM 2 drawD xs); let y ← pure (.d (PyData.int 0)); let z ← M.lift (gEq x y); M.lift (asB z)) then ((do let x ← (do let xs ← (do let x ← (do let x ← (do let xs ← (do let x ← M.lift (getS ρ 0); let xs ← (do let x ← (do let x ← (do let x ← pure (.d (PyData.int 4)); let y ← M.lift (getS ρ 1); M.lift (gMul x y)); let y ← pure (.d (PyData.int 1)); M.lift (gAdd x y)); let xs ← pure []; pure (x :: xs)); pure (x :: xs)); callM 2 drawD xs); let y ← (do let x ← pure (.d (PyData.int 2)); let y ← M.lift (getS ρ 1); M.lift (gMul x y)); M.lift (gSub x y)); let xs ← (do let x ← (do let x ← pure (.d (PyData.int 2)); let y ← (do let xs ← (do let x ← M.lift (getS ρ 0); let xs ← (do let x ← pure (.d (PyData.int 3)); let xs ← pure []; pure (x :: xs)); pure (x :: xs)); callM 2 drawD xs); M.lift (gAdd x y)); let xs ← pure []; pure (x :: xs)); pure (x :: xs)); callM 2 d__law_reduced xs); let y ← M.lift (plain x); pure (.rt y))) else (pure (.nx ρ)))) (fun ρ => (do let x ← (do let xs ← (do let x ← (do let x ← (do let xs ← (do let x ← M.lift (getS ρ 0); let xs ← (do let x ← (do let x ← M.lift (getS ρ 1); let y ← pure (.d (PyData.int 1)); M.lift (gAdd x y)); let xs ← pure []; pure (x :: xs)); pure (x :: xs)); callM 2 drawD xs); let y ← (do let x ← M.lift (getS ρ 1); let y ← pure (.d (PyData.int 2)); M.lift (gDiv x y)); M.lift (gSub x y)); let xs ← (do let x ← pure (.d (PyData.int 1)); let xs ← pure []; pure (x :: xs)); pure (x :: xs)); M.lift (gTup xs)); let y ← M.lift (plain x); pure (.rt y)))
def d__law_bound : List SD → M SD := defM 2 u__law_bound
abbrev s__law_less : Stmt := Dw.topS 58
theorem sc__law_less : FnScope ["_law_one", "_law_two"] ["_law_one", "_law_two"] (defScope s__law_less) := ⟨rfl, rfl, rfl, by decide +kernel, rfl, by decide +kernel, by decide +kernel⟩
def u__law_less (ρ : List SD) : M Out := (do let x ← (do let x ← (do let x ← (do let x ← M.lift (getS ρ 0); let y ← pure (.d (PyData.int 0)); M.lift (gIx x y)); let y ← (do let x ← M.lift (getS ρ 1); let y ← pure (.d (PyData.int 1)); M.lift (gIx x y)); M.lift (gMul x y)); let y ← (do let x ← (do let x ← M.lift (getS ρ 1); let y ← pure (.d (PyData.int 0)); M.lift (gIx x y)); let y ← (do let x ← M.lift (getS ρ 0); let y ← pure (.d (PyData.int 1)); M.lift (gIx x y)); M.lift (gMul x y)); M.lift (gLt x y)); let y ← M.lift (plain x); pure (.rt y))
def d__law_less : List SD → M SD := defM 2 u__law_less
abbrev s__law_choice : Stmt := Dw.topS 53
theorem sc__law_choice : FnScope ["_law_source_here", "_law_chosen"] ["_law_source_here", "_law_chosen"] (defScope s__law_choice) := ⟨rfl, rfl, rfl, by decide +kernel, rfl, by decide +kernel, by decide +kernel⟩
def u__law_choice (ρ : List SD) : M Out := (do let x ← (do let x ← M.lift (getS ρ 1); let y ← (do let xs ← (do let x ← M.lift (getS ρ 0); let xs ← (do let x ← (do let xs ← (do let x ← M.lift (getS ρ 1); let xs ← pure []; pure (x :: xs)); bLen xs); let xs ← pure []; pure (x :: xs)); pure (x :: xs)); callM 2 drawD xs); M.lift (gIx x y)); let y ← M.lift (plain x); pure (.rt y))
def d__law_choice : List SD → M SD := defM 2 u__law_choice
abbrev s__law_interval : Stmt := Dw.topS 62
theorem sc__law_interval : FnScope ["_law_source_here", "_law_spread", "_law_previous", "_law_low", "_law_high", "_law_way"] ["_law_source_here", "_law_spread", "_law_previous"] (defScope s__law_interval) := ⟨rfl, rfl, rfl, by decide +kernel, rfl, by decide +kernel, by decide +kernel⟩
def u__law_interval (ρ : List SD) : M Out := seqM ((do let v ← (do let xs ← (do let x ← M.lift (getS ρ 0); let xs ← (do let x ← M.lift (getS ρ 1); let xs ← pure []; pure (x :: xs)); pure (x :: xs)); callM 2 d__law_bound xs); let y ← M.lift (plain v); pure (.nx (ρ.set 3 y)))) (fun ρ => seqM ((do let v ← (do let xs ← (do let x ← M.lift (getS ρ 0); let xs ← (do let x ← M.lift (getS ρ 1); let xs ← pure []; pure (x :: xs)); pure (x :: xs)); callM 2 d__law_bound xs); let y ← M.lift (plain v); pure (.nx (ρ.set 4 y)))) (fun ρ => seqM ((do let v ← (do let xs ← (do let x ← M.lift (getS ρ 0); let xs ← (do let x ← pure (.d (PyData.int 6)); let xs ← pure []; pure (x :: xs)); pure (x :: xs)); callM 2 drawD xs); let y ← M.lift (plain v); pure (.nx (ρ.set 5 y)))) (fun ρ => seqM ((do if ← (do if ← (do let x ← M.lift (getS ρ 2); let y ← (do let xs ← pure []; M.lift (gLst xs)); let z ← M.lift (gNe x y); M.lift (asB z)) then (do let x ← M.lift (getS ρ 5); let y ← pure (.d (PyData.int 0)); let z ← M.lift (gEq x y); M.lift (asB z)) else pure false) then ((do let x ← (do let xs ← (do let x ← M.lift (getS ρ 0); let xs ← (do let x ← M.lift (getS ρ 2); let xs ← pure []; pure (x :: xs)); pure (x :: xs)); callM 2 d__law_choice xs); let y ← M.lift (plain x); pure (.rt y))) else (pure (.nx ρ)))) (fun ρ => seqM ((do if ← (do if ← (do let x ← M.lift (getS ρ 2); let y ← (do let xs ← pure []; M.lift (gLst xs)); let z ← M.lift (gNe x y); M.lift (asB z)) then (do let x ← M.lift (getS ρ 5); let y ← pure (.d (PyData.int 1)); let z ← M.lift (gEq x y); M.lift (asB z)) else pure false) then ((do let v ← (do let x ← (do let xs ← (do let x ← M.lift (getS ρ 0); let xs ← (do let x ← M.lift (getS ρ 2); let xs ← pure []; pure (x :: xs)); pure (x :: xs)); callM 2 d__law_choice xs); let y ← (do let xs ← (do let x ← M.lift (getS ρ 0); let xs ← (do let x ← pure (.d (PyData.int 2)); let xs ← pure []; pure (x :: xs)); pure (x :: xs)); callM 2 drawD xs); M.lift (gIx x y)); let y ← M.lift (plain v); pure (.nx (ρ.set 3 y)))) else (pure (.nx ρ)))) (fun ρ => seqM ((do if ← (do let x ← (do let xs ← (do let x ← M.lift (getS ρ 4); let xs ← (do let x ← M.lift (getS ρ 3); let xs ← pure []; pure (x :: xs)); pure (x :: xs)); callM 2 d__law_less xs); M.lift (truD x)) then ((do let x ← (do let xs ← (do let x ← M.lift (getS ρ 4); let xs ← (do let x ← M.lift (getS ρ 3); let xs ← pure []; pure (x :: xs)); pure (x :: xs)); M.lift (gTup xs)); let y ← M.lift (plain x); pure (.rt y))) else (pure (.nx ρ)))) (fun ρ => seqM ((do if ← (do if ← (do let x ← M.lift (getS ρ 4); let y ← M.lift (getS ρ 3); let z ← M.lift (gEq x y); M.lift (asB z)) then (do let x ← M.lift (getS ρ 5); let y ← pure (.d (PyData.int 2)); let z ← M.lift (gGt x y); M.lift (asB z)) else pure false) then ((do let x ← (do let xs ← (do let x ← M.lift (getS ρ 3); let xs ← (do let x ← (do let xs ← (do let x ← (do let x ← (do let x ← M.lift (getS ρ 3); let y ← pure (.d (PyData.int 0)); M.lift (gIx x y)); let y ← (do let x ← M.lift (getS ρ 3); let y ← pure (.d (PyData.int 1)); M.lift (gIx x y)); M.lift (gAdd x y)); let xs ← (do let x ← (do let x ← M.lift (getS ρ 3); let y ← pure (.d (PyData.int 1)); M.lift (gIx x y)); let xs ← pure []; pure (x :: xs)); pure (x :: xs)); M.lift (gTup xs)); let xs ← pure []; pure (x :: xs)); pure (x :: xs)); M.lift (gTup xs)); let y ← M.lift (plain x); pure (.rt y))) else (pure (.nx ρ)))) (fun ρ => (do let x ← (do let xs ← (do let x ← M.lift (getS ρ 3); let xs ← (do let x ← M.lift (getS ρ 4); let xs ← pure []; pure (x :: xs)); pure (x :: xs)); M.lift (gTup xs)); let y ← M.lift (plain x); pure (.rt y)))))))))
def d__law_interval : List SD → M SD := defM 6 u__law_interval
abbrev s__law_intervals : Stmt := Dw.topS 63
theorem sc__law_intervals : FnScope ["_law_source_here", "_law_most", "_law_spread", "_law_names_here", "_law_many", "_law_chosen", "_law_previous", "_law_name", "_law_at"] ["_law_source_here", "_law_most", "_law_spread"] (defScope s__law_intervals) := ⟨rfl, rfl, rfl, by decide +kernel, rfl, by decide +kernel, by decide +kernel⟩
def u__law_intervals (ρ : List SD) : M Out := seqM ((do let v ← (do let xs ← (do let x ← pure (.d (PyData.str "a")); let xs ← (do let x ← pure (.d (PyData.str "b")); let xs ← (do let x ← pure (.d (PyData.str "bb")); let xs ← (do let x ← pure (.d (PyData.str "item")); let xs ← (do let x ← pure (.d (PyData.str "d")); let xs ← (do let x ← pure (.d (PyData.str "xyzxyz")); let xs ← (do let x ← pure (.d (PyData.str "z")); let xs ← pure []; pure (x :: xs)); pure (x :: xs)); pure (x :: xs)); pure (x :: xs)); pure (x :: xs)); pure (x :: xs)); pure (x :: xs)); M.lift (gLst xs)); let y ← M.lift (plain v); pure (.nx (ρ.set 3 y)))) (fun ρ => seqM ((do let v ← (do let x ← pure (.d (PyData.int 1)); let y ← (do let xs ← (do let x ← M.lift (getS ρ 0); let xs ← (do let x ← M.lift (getS ρ 1); let xs ← pure []; pure (x :: xs)); pure (x :: xs)); callM 2 drawD xs); M.lift (gAdd x y)); let y ← M.lift (plain v); pure (.nx (ρ.set 4 y)))) (fun ρ => seqM ((do let v ← (do let x ← (do let xs ← (do let x ← M.lift (getS ρ 0); let xs ← (do let x ← M.lift (getS ρ 3); let xs ← pure []; pure (x :: xs)); pure (x :: xs)); callM 2 d__law_shuffled xs); let l ← pure none; let h ← (do let x ← M.lift (getS ρ 4); let i ← M.lift (asI x); pure (some i)); M.lift (gSl x l h)); let y ← M.lift (plain v); pure (.nx (ρ.set 5 y)))) (fun ρ => seqM ((do let vs ← pure []; let ds ← M.lift (allD vs); M.when (szOk ds.length) (pure (.nx (ρ.set 6 (.own ds)))))) (fun ρ => seqM ((do let its ← (do let x ← M.lift (getS ρ 5); M.lift (itemsD x)); forM (.nm 7) (fun ρ => (do let ds ← M.lift (ownL ρ 6); let y ← (do let xs ← (do let x ← M.lift (getS ρ 0); let xs ← (do let x ← M.lift (getS ρ 2); let xs ← (do let x ← M.lift (getS ρ 6); let xs ← pure []; pure (x :: xs)); pure (x :: xs)); pure (x :: xs)); callM 3 d__law_interval xs); let z ← M.lift (asD y); M.when (szOk (ds.length + 1)) (pure (.nx (ρ.set 6 (.own (ds ++ [z]))))))) its ρ)) (fun ρ => (do let x ← (fun ρ => (do let xs ← (do let x ← (do let its ← (do let x ← M.lift (getS ρ 4); let j ← M.lift (asI x); M.when (bigI j) (pure (rangeD 0 j.toNat))); let ds ← lcM (.nm 8) (fun ρ => pure true) (fun ρ => (do let xs ← (do let x ← (do let x ← M.lift (getS ρ 5); let y ← M.lift (getS ρ 8); M.lift (gIx x y)); let xs ← (do let x ← (do let x ← (do let x ← M.lift (getS ρ 6); let y ← M.lift (getS ρ 8); M.lift (gIx x y)); let y ← pure (.d (PyData.int 0)); M.lift (gIx x y)); let xs ← (do let x ← (do let x ← (do let x ← M.lift (getS ρ 6); let y ← M.lift (getS ρ 8); M.lift (gIx x y)); let y ← pure (.d (PyData.int 1)); M.lift (gIx x y)); let xs ← pure []; pure (x :: xs)); pure (x :: xs)); pure (x :: xs)); M.lift (gTup xs))) (wipeD ρ [8]) its []; pure (.d (.list ds))); let xs ← pure []; pure (x :: xs)); bSorted2 xs)) (ρ.map frzS); let y ← M.lift (plain x); pure (.rt y)))))))
def d__law_intervals : List SD → M SD := defM 9 u__law_intervals
abbrev s__law_names : Stmt := Dw.topS 67
theorem sc__law_names : FnScope ["_law_source_here", "_law_intervals_here", "_law_names_here", "_law_chosen", "_law_name", "_law_low", "_law_high"] ["_law_source_here", "_law_intervals_here"] (defScope s__law_names) := ⟨rfl, rfl, rfl, by decide +kernel, rfl, by decide +kernel, by decide +kernel⟩
def u__law_names (ρ : List SD) : M Out := seqM ((do let its ← (do let x ← M.lift (getS ρ 1); M.lift (itemsD x)); let ds ← lcM (.tp [4, 5, 6]) (fun ρ => pure true) (fun ρ => M.lift (getS ρ 4)) (wipeD ρ [4, 5, 6]) its []; pure (.nx (ρ.set 2 (.d (.list ds)))))) (fun ρ => seqM ((do let its ← (do let x ← (do let xs ← (do let x ← M.lift (getS ρ 0); let xs ← (do let x ← M.lift (getS ρ 2); let xs ← pure []; pure (x :: xs)); pure (x :: xs)); callM 2 d__law_shuffled xs); M.lift (itemsD x)); let ds ← lcM (.nm 4) (fun ρ => (do let x ← (do let xs ← (do let x ← M.lift (getS ρ 0); let xs ← (do let x ← pure (.d (PyData.int 4)); let xs ← pure []; pure (x :: xs)); pure (x :: xs)); callM 2 (fun xs => M.calm (drawD xs)) xs); let y ← pure (.d (PyData.int 0)); let z ← M.lift (gGt x y); M.lift (asB z))) (fun ρ => M.lift (getS ρ 4)) (wipeD ρ [4]) its []; pure (.nx (ρ.set 3 (.d (.list ds)))))) (fun ρ => (do let x ← (do let xs ← (do let x ← (do if ← (do let x ← M.lift (getS ρ 3); let y ← (do let xs ← pure []; M.lift (gLst xs)); let z ← M.lift (gNe x y); M.lift (asB z)) then M.lift (getS ρ 3) else (do let x ← M.lift (getS ρ 2); let l ← pure none; let h ← (do let x ← pure (.d (PyData.int 1)); let i ← M.lift (asI x); pure (some i)); M.lift (gSl x l h))); let xs ← pure []; pure (x :: xs)); bTuple xs); let y ← M.lift (plain x); pure (.rt y))))
def d__law_names : List SD → M SD := defM 7 u__law_names
abbrev s__law_all_bounds : Stmt := Dw.topS 66
theorem sc__law_all_bounds : FnScope ["_law_intervals_here", "_law_name", "_law_low", "_law_high"] ["_law_intervals_here"] (defScope s__law_all_bounds) := ⟨rfl, rfl, rfl, by decide +kernel, rfl, by decide +kernel, by decide +kernel⟩
def u__law_all_bounds (ρ : List SD) : M Out := (do let x ← (do let x ← (do let its ← (do let x ← M.lift (getS ρ 0); M.lift (itemsD x)); let ds ← lcM (.tp [1, 2, 3]) (fun ρ => pure true) (fun ρ => M.lift (getS ρ 2)) (wipeD ρ [1, 2, 3]) its []; pure (.d (.list ds))); let y ← (do let its ← (do let x ← M.lift (getS ρ 0); M.lift (itemsD x)); let ds ← lcM (.tp [1, 2, 3]) (fun ρ => pure true) (fun ρ => M.lift (getS ρ 3)) (wipeD ρ [1, 2, 3]) its []; pure (.d (.list ds))); M.lift (gAdd x y)); let y ← M.lift (plain x); pure (.rt y))
def d__law_all_bounds : List SD → M SD := defM 4 u__law_all_bounds
abbrev s__law_query : Stmt := Dw.topS 68
theorem sc__law_query : FnScope ["_law_source_here", "_law_intervals_here", "_law_code", "_law_names_here", "_law_pair", "_law_name", "_law_low", "_law_high"] ["_law_source_here", "_law_intervals_here"] (defScope s__law_query) := ⟨rfl, rfl, rfl, by decide +kernel, rfl, by decide +kernel, by decide +kernel⟩
def u__law_query (ρ : List SD) : M Out := seqM ((do let v ← (do let xs ← (do let x ← M.lift (getS ρ 0); let xs ← (do let x ← (do let xs ← (do let x ← pure (.d (PyData.str "sort")); let xs ← (do let x ← pure (.d (PyData.str "min")); let xs ← (do let x ← pure (.d (PyData.str "max")); let xs ← (do let x ← pure (.d (PyData.str "above")); let xs ← (do let x ← pure (.d (PyData.str "compare")); let xs ← (do let x ← pure (.d (PyData.str "sort")); let xs ← (do let x ← pure (.d (PyData.str "min")); let xs ← pure []; pure (x :: xs)); pure (x :: xs)); pure (x :: xs)); pure (x :: xs)); pure (x :: xs)); pure (x :: xs)); pure (x :: xs)); M.lift (gLst xs)); let xs ← pure []; pure (x :: xs)); pure (x :: xs)); callM 2 d__law_choice xs); let y ← M.lift (plain v); pure (.nx (ρ.set 2 y)))) (fun ρ => seqM ((do let v ← (do let xs ← (do let x ← M.lift (getS ρ 0); let xs ← (do let x ← M.lift (getS ρ 1); let xs ← pure []; pure (x :: xs)); pure (x :: xs)); callM 2 d__law_names xs); let y ← M.lift (plain v); pure (.nx (ρ.set 3 y)))) (fun ρ => seqM ((do if ← (do if ← (do let x ← M.lift (getS ρ 2); let y ← pure (.d (PyData.str "compare")); let z ← M.lift (gEq x y); M.lift (asB z)) then (do let x ← (do let xs ← (do let x ← M.lift (getS ρ 1); let xs ← pure []; pure (x :: xs)); bLen xs); let y ← pure (.d (PyData.int 1)); let z ← M.lift (gGt x y); M.lift (asB z)) else pure false) then (seqM ((do let v ← (do let x ← (do let xs ← (do let x ← M.lift (getS ρ 0); let xs ← (do let x ← (do let its ← (do let x ← M.lift (getS ρ 1); M.lift (itemsD x)); let ds ← lcM (.tp [5, 6, 7]) (fun ρ => pure true) (fun ρ => M.lift (getS ρ 5)) (wipeD ρ [5, 6, 7]) its []; pure (.d (.list ds))); let xs ← pure []; pure (x :: xs)); pure (x :: xs)); callM 2 d__law_shuffled xs); let l ← pure none; let h ← (do let x ← pure (.d (PyData.int 2)); let i ← M.lift (asI x); pure (some i)); M.lift (gSl x l h)); let y ← M.lift (plain v); pure (.nx (ρ.set 4 y)))) (fun ρ => (do let x ← (do let xs ← (do let x ← pure (.d (PyData.str "compare")); let xs ← (do let x ← (do let x ← M.lift (getS ρ 4); let y ← pure (.d (PyData.int 0)); M.lift (gIx x y)); let xs ← (do let x ← (do let x ← M.lift (getS ρ 4); let y ← pure (.d (PyData.int 1)); M.lift (gIx x y)); let xs ← pure []; pure (x :: xs)); pure (x :: xs)); pure (x :: xs)); M.lift (gTup xs)); let y ← M.lift (plain x); pure (.rt y)))) else (pure (.nx ρ)))) (fun ρ => seqM ((do if ← (do let x ← M.lift (getS ρ 2); let y ← pure (.d (PyData.str "above")); let z ← M.lift (gEq x y); M.lift (asB z)) then ((do let x ← (do let xs ← (do let x ← pure (.d (PyData.str "above")); let xs ← (do let x ← M.lift (getS ρ 3); let xs ← (do let x ← (do let xs ← (do let x ← M.lift (getS ρ 0); let xs ← (do let x ← (do let x ← (do let xs ← (do let x ← M.lift (getS ρ 1); let xs ← pure []; pure (x :: xs)); callM 1 d__law_all_bounds xs); let y ← (do let xs ← (do let x ← (do let xs ← (do let x ← M.lift (getS ρ 0); let xs ← (do let x ← pure (.d (PyData.int 8)); let xs ← pure []; pure (x :: xs)); pure (x :: xs)); callM 2 d__law_bound xs); let xs ← pure []; pure (x :: xs)); M.lift (gLst xs)); M.lift (gAdd x y)); let xs ← pure []; pure (x :: xs)); pure (x :: xs)); callM 2 d__law_choice xs); let xs ← pure []; pure (x :: xs)); pure (x :: xs)); pure (x :: xs)); M.lift (gTup xs)); let y ← M.lift (plain x); pure (.rt y))) else (pure (.nx ρ)))) (fun ρ => (do let x ← (do let xs ← (do let x ← (do if ← (do let x ← M.lift (getS ρ 2); let y ← pure (.d (PyData.str "compare")); let z ← M.lift (gEq x y); M.lift (asB z)) then pure (.d (PyData.str "sort")) else M.lift (getS ρ 2)); let xs ← (do let x ← M.lift (getS ρ 3); let xs ← pure []; pure (x :: xs)); pure (x :: xs)); M.lift (gTup xs)); let y ← M.lift (plain x); pure (.rt y))))))
def d__law_query : List SD → M SD := defM 8 u__law_query
abbrev s_greatest_divisor : Stmt := Dw.topS 9
theorem sc_greatest_divisor : FnScope ["first", "second"] ["first", "second"] (defScope s_greatest_divisor) := ⟨rfl, rfl, rfl, by decide +kernel, rfl, by decide +kernel, by decide +kernel⟩
def u_greatest_divisor (ρ : List SD) : M Out := seqM ((do let v ← (do let xs ← (do let x ← M.lift (getS ρ 0); let xs ← pure []; pure (x :: xs)); bAbs xs); let v ← M.lift (plain v); let w ← (do let xs ← (do let x ← M.lift (getS ρ 1); let xs ← pure []; pure (x :: xs)); bAbs xs); let w ← M.lift (plain w); pure (.nx ((ρ.set 0 v).set 1 w)))) (fun ρ => seqM (whileM (fun ρ => (do let x ← M.lift (getS ρ 1); M.lift (truD x))) (fun ρ => (do let v ← M.lift (getS ρ 1); let v ← M.lift (plain v); let w ← (do let x ← M.lift (getS ρ 0); let y ← M.lift (getS ρ 1); M.lift (gMod x y)); let w ← M.lift (plain w); pure (.nx ((ρ.set 0 v).set 1 w)))) ρ) (fun ρ => (do let x ← M.lift (getS ρ 0); let y ← M.lift (plain x); pure (.rt y))))
def d_greatest_divisor : List SD → M SD := defM 2 u_greatest_divisor
abbrev s_is_fraction : Stmt := Dw.topS 13
theorem sc_is_fraction : FnScope ["value", "numerator", "denominator"] ["value"] (defScope s_is_fraction) := ⟨rfl, rfl, rfl, by decide +kernel, rfl, by decide +kernel, by decide +kernel⟩
def u_is_fraction (ρ : List SD) : M Out := seqM ((do if ← (do if ← (do let b ← (do let x ← (do let xs ← (do let x ← M.lift (getS ρ 0); let xs ← (do let x ← pure (.ty "tuple"); let xs ← pure []; pure (x :: xs)); pure (x :: xs)); bIsi xs); M.lift (truD x)); pure (!b)) then pure true else (do let x ← (do let xs ← (do let x ← M.lift (getS ρ 0); let xs ← pure []; pure (x :: xs)); bLen xs); let y ← pure (.d (PyData.int 2)); let z ← M.lift (gNe x y); M.lift (asB z))) then ((do let x ← pure (.d (PyData.bool false)); let y ← M.lift (plain x); pure (.rt y))) else (pure (.nx ρ)))) (fun ρ => seqM ((do let v ← M.lift (getS ρ 0); let ρ' ← M.lift (kOf (.tp [1, 2]) v ρ); pure (.nx ρ'))) (fun ρ => seqM ((do if ← (do if ← (do let b ← (do let x ← (do let xs ← (do let x ← M.lift (getS ρ 1); let xs ← (do let x ← pure (.ty "int"); let xs ← pure []; pure (x :: xs)); pure (x :: xs)); bIsi xs); M.lift (truD x)); pure (!b)) then pure true else (do let b ← (do let x ← (do let xs ← (do let x ← M.lift (getS ρ 2); let xs ← (do let x ← pure (.ty "int"); let xs ← pure []; pure (x :: xs)); pure (x :: xs)); bIsi xs); M.lift (truD x)); pure (!b))) then ((do let x ← pure (.d (PyData.bool false)); let y ← M.lift (plain x); pure (.rt y))) else (pure (.nx ρ)))) (fun ρ => (do let x ← (do let x ← (do let x ← M.lift (getS ρ 2); let y ← pure (.d (PyData.int 1)); M.lift (gGe x y)); let k ← M.lift (asB x); if k then (do let x ← (do let xs ← (do let x ← M.lift (getS ρ 1); let xs ← (do let x ← M.lift (getS ρ 2); let xs ← pure []; pure (x :: xs)); pure (x :: xs)); callM 2 d_greatest_divisor xs); let y ← pure (.d (PyData.int 1)); M.lift (gEq x y)) else pure (dB false)); let y ← M.lift (plain x); pure (.rt y)))))
def d_is_fraction : List SD → M SD := defM 3 u_is_fraction
abbrev s_check_fraction : Stmt := Dw.topS 14
theorem sc_check_fraction : FnScope ["value"] ["value"] (defScope s_check_fraction) := ⟨rfl, rfl, rfl, by decide +kernel, rfl, by decide +kernel, by decide +kernel⟩
def u_check_fraction (ρ : List SD) : M Out := (do if ← (do let b ← (do let x ← (do let xs ← (do let x ← M.lift (getS ρ 0); let xs ← pure []; pure (x :: xs)); callM 1 d_is_fraction xs); M.lift (truD x)); pure (!b)) then ((do let v ← (do let _ ← ((do let x ← M.lift (getS ρ 0); M.when (reprOk x) (pure ())) : M Unit); let x ← M.anyS; pure (dS x)); let d ← M.lift (argD ⟨"fraction", none, false⟩ v); (M.throw ⟨"InvalidFraction", fldD ⟨"fraction", none, false⟩ d⟩ : M Out))) else (pure (.nx ρ)))
def d_check_fraction : List SD → M SD := defM 1 u_check_fraction
abbrev s_less : Stmt := Dw.topS 10
theorem sc_less : FnScope ["first", "second"] ["first", "second"] (defScope s_less) := ⟨rfl, rfl, rfl, by decide +kernel, rfl, by decide +kernel, by decide +kernel⟩
def u_less (ρ : List SD) : M Out := (do let x ← (do let x ← (do let x ← (do let x ← M.lift (getS ρ 0); let y ← pure (.d (PyData.int 0)); M.lift (gIx x y)); let y ← (do let x ← M.lift (getS ρ 1); let y ← pure (.d (PyData.int 1)); M.lift (gIx x y)); M.lift (gMul x y)); let y ← (do let x ← (do let x ← M.lift (getS ρ 1); let y ← pure (.d (PyData.int 0)); M.lift (gIx x y)); let y ← (do let x ← M.lift (getS ρ 0); let y ← pure (.d (PyData.int 1)); M.lift (gIx x y)); M.lift (gMul x y)); M.lift (gLt x y)); let y ← M.lift (plain x); pure (.rt y))
def d_less : List SD → M SD := defM 2 u_less
abbrev s_is_name : Stmt := Dw.topS 19
theorem sc_is_name : FnScope ["name", "letter"] ["name"] (defScope s_is_name) := ⟨rfl, rfl, rfl, by decide +kernel, rfl, by decide +kernel, by decide +kernel⟩
def u_is_name (ρ : List SD) : M Out := seqM ((do if ← (do if ← (do let b ← (do let x ← (do let xs ← (do let x ← M.lift (getS ρ 0); let xs ← (do let x ← pure (.ty "str"); let xs ← pure []; pure (x :: xs)); pure (x :: xs)); bIsi xs); M.lift (truD x)); pure (!b)) then pure true else (do let b ← (do let x ← (do let x ← pure (.d (PyData.int 1)); let y ← (do let xs ← (do let x ← M.lift (getS ρ 0); let xs ← pure []; pure (x :: xs)); bLen xs); let z ← M.lift (gLe x y); let k ← M.lift (asB z); if k then (do let w ← pure (.d (.int 6)); M.lift (gLe y w)) else pure (dB false)); M.lift (asB x)); pure (!b))) then ((do let x ← pure (.d (PyData.bool false)); let y ← M.lift (plain x); pure (.rt y))) else (pure (.nx ρ)))) (fun ρ => (do let x ← (do let xs ← (do let x ← (do let its ← (do let x ← M.lift (getS ρ 0); M.lift (itemsD x)); let ds ← lcM (.nm 1) (fun ρ => pure true) (fun ρ => (do let x ← pure (.d (PyData.str "a")); let y ← M.lift (getS ρ 1); let z ← M.lift (gLe x y); let k ← M.lift (asB z); if k then (do let w ← pure (.d (PyData.str "z")); M.lift (gLe y w)) else pure (dB false))) (wipeD ρ [1]) its []; pure (.d (.list ds))); let xs ← pure []; pure (x :: xs)); bAll xs); let y ← M.lift (plain x); pure (.rt y)))
def d_is_name : List SD → M SD := defM 2 u_is_name
abbrev s_check_intervals : Stmt := Dw.topS 20
theorem sc_check_intervals : FnScope ["intervals", "previous", "name", "low", "high"] ["intervals"] (defScope s_check_intervals) := ⟨rfl, rfl, rfl, by decide +kernel, rfl, by decide +kernel, by decide +kernel⟩
def u_check_intervals (ρ : List SD) : M Out := seqM ((do if ← (do let x ← (do let xs ← (do let x ← M.lift (getS ρ 0); let xs ← pure []; pure (x :: xs)); bLen xs); let y ← pure (.d (.int 24)); let z ← M.lift (gGt x y); M.lift (asB z)) then ((do let v ← (do let _ ← ((do let x ← pure (.d (.int 24)); M.when (fmtOk x) (pure ())) : M Unit); let x ← M.anyS; pure (dS x)); let d ← M.lift (argD ⟨"intervals", none, false⟩ v); (M.throw ⟨"InvalidIntervals", fldD ⟨"intervals", none, false⟩ d⟩ : M Out))) else (pure (.nx ρ)))) (fun ρ => seqM ((do let v ← pure (.d (PyData.str "")); let y ← M.lift (plain v); pure (.nx (ρ.set 1 y)))) (fun ρ => (do let its ← (do let x ← M.lift (getS ρ 0); M.lift (itemsD x)); forM (.tp [2, 3, 4]) (fun ρ => seqM ((do let _ ← (do let xs ← (do let x ← M.lift (getS ρ 3); let xs ← pure []; pure (x :: xs)); callM 1 d_check_fraction xs); pure (.nx ρ))) (fun ρ => seqM ((do let _ ← (do let xs ← (do let x ← M.lift (getS ρ 4); let xs ← pure []; pure (x :: xs)); callM 1 d_check_fraction xs); pure (.nx ρ))) (fun ρ => seqM ((do if ← (do let b ← (do let x ← (do let xs ← (do let x ← M.lift (getS ρ 2); let xs ← pure []; pure (x :: xs)); callM 1 d_is_name xs); M.lift (truD x)); pure (!b)) then ((do let v ← (do let _ ← ((do let x ← M.lift (getS ρ 2); M.when (reprOk x) (pure ())) : M Unit); let x ← M.anyS; pure (dS x)); let d ← M.lift (argD ⟨"intervals", none, false⟩ v); (M.throw ⟨"InvalidIntervals", fldD ⟨"intervals", none, false⟩ d⟩ : M Out))) else (pure (.nx ρ)))) (fun ρ => seqM ((do if ← (do let x ← M.lift (getS ρ 2); let y ← M.lift (getS ρ 1); let z ← M.lift (gLe x y); M.lift (asB z)) then ((do let v ← (do let _ ← ((do let x ← M.lift (getS ρ 2); M.when (reprOk x) (pure ())) : M Unit); let x ← M.anyS; pure (dS x)); let d ← M.lift (argD ⟨"intervals", none, false⟩ v); (M.throw ⟨"InvalidIntervals", fldD ⟨"intervals", none, false⟩ d⟩ : M Out))) else (pure (.nx ρ)))) (fun ρ => seqM ((do if ← (do let x ← (do let xs ← (do let x ← M.lift (getS ρ 4); let xs ← (do let x ← M.lift (getS ρ 3); let xs ← pure []; pure (x :: xs)); pure (x :: xs)); callM 2 d_less xs); M.lift (truD x)) then ((do let v ← (do let _ ← ((do let x ← M.lift (getS ρ 2); M.when (reprOk x) (pure ())) : M Unit); let x ← M.anyS; pure (dS x)); let d ← M.lift (argD ⟨"intervals", none, false⟩ v); (M.throw ⟨"InvalidIntervals", fldD ⟨"intervals", none, false⟩ d⟩ : M Out))) else (pure (.nx ρ)))) (fun ρ => (do let v ← M.lift (getS ρ 2); let y ← M.lift (plain v); pure (.nx (ρ.set 1 y))))))))) its ρ)))
def d_check_intervals : List SD → M SD := defM 5 u_check_intervals
abbrev s_item_names : Stmt := Dw.topS 24
theorem sc_item_names : FnScope ["intervals", "name", "low", "high"] ["intervals"] (defScope s_item_names) := ⟨rfl, rfl, rfl, by decide +kernel, rfl, by decide +kernel, by decide +kernel⟩
def u_item_names (ρ : List SD) : M Out := (do let x ← (do let its ← (do let x ← M.lift (getS ρ 0); M.lift (itemsD x)); let ds ← lcM (.tp [1, 2, 3]) (fun ρ => pure true) (fun ρ => M.lift (getS ρ 1)) (wipeD ρ [1, 2, 3]) its []; pure (.d (.list ds))); let y ← M.lift (plain x); pure (.rt y))
def d_item_names : List SD → M SD := defM 4 u_item_names
abbrev s_has_query_form : Stmt := Dw.topS 31
theorem sc_has_query_form : FnScope ["query"] ["query"] (defScope s_has_query_form) := ⟨rfl, rfl, rfl, by decide +kernel, rfl, by decide +kernel, by decide +kernel⟩
def u_has_query_form (ρ : List SD) : M Out := seqM ((do if ← (do if ← (do let b ← (do let x ← (do let xs ← (do let x ← M.lift (getS ρ 0); let xs ← (do let x ← pure (.ty "tuple"); let xs ← pure []; pure (x :: xs)); pure (x :: xs)); bIsi xs); M.lift (truD x)); pure (!b)) then pure true else (do if ← (do let x ← (do let xs ← (do let x ← M.lift (getS ρ 0); let xs ← pure []; pure (x :: xs)); bLen xs); let y ← pure (.d (PyData.int 0)); let z ← M.lift (gEq x y); M.lift (asB z)) then pure true else (do let b ← (do let x ← (do let xs ← (do let x ← (do let x ← M.lift (getS ρ 0); let y ← pure (.d (PyData.int 0)); M.lift (gIx x y)); let xs ← (do let x ← pure (.ty "str"); let xs ← pure []; pure (x :: xs)); pure (x :: xs)); bIsi xs); M.lift (truD x)); pure (!b)))) then ((do let x ← pure (.d (PyData.bool false)); let y ← M.lift (plain x); pure (.rt y))) else (pure (.nx ρ)))) (fun ρ => (do let x ← (do let x ← (do let y ← (do let x ← M.lift (getS ρ 0); let y ← pure (.d (PyData.int 0)); M.lift (gIx x y)); M.lift (getKD tb_QUERY_LENGTHS y)); let y ← (do let xs ← (do let x ← M.lift (getS ρ 0); let xs ← pure []; pure (x :: xs)); bLen xs); M.lift (gEq x y)); let y ← M.lift (plain x); pure (.rt y)))
def d_has_query_form : List SD → M SD := defM 1 u_has_query_form
abbrev s_are_query_names : Stmt := Dw.topS 33
theorem sc_are_query_names : FnScope ["names", "existing", "name"] ["names", "existing"] (defScope s_are_query_names) := ⟨rfl, rfl, rfl, by decide +kernel, rfl, by decide +kernel, by decide +kernel⟩
def u_are_query_names (ρ : List SD) : M Out := seqM ((do if ← (do if ← (do let b ← (do let x ← (do let xs ← (do let x ← M.lift (getS ρ 0); let xs ← (do let x ← pure (.ty "tuple"); let xs ← pure []; pure (x :: xs)); pure (x :: xs)); bIsi xs); M.lift (truD x)); pure (!b)) then pure true else (do let x ← (do let xs ← (do let x ← M.lift (getS ρ 0); let xs ← pure []; pure (x :: xs)); bLen xs); let y ← pure (.d (PyData.int 0)); let z ← M.lift (gEq x y); M.lift (asB z))) then ((do let x ← pure (.d (PyData.bool false)); let y ← M.lift (plain x); pure (.rt y))) else (pure (.nx ρ)))) (fun ρ => seqM ((do if ← (do let b ← (do let x ← (do let xs ← (do let x ← (do let its ← (do let x ← M.lift (getS ρ 0); M.lift (itemsD x)); let ds ← lcM (.nm 2) (fun ρ => pure true) (fun ρ => (do let x ← (do let xs ← (do let x ← M.lift (getS ρ 2); let xs ← (do let x ← pure (.ty "str"); let xs ← pure []; pure (x :: xs)); pure (x :: xs)); bIsi xs); let k ← M.lift (asB x); if k then (do let x ← M.lift (getS ρ 2); let y ← M.lift (getS ρ 1); M.lift (gIn x y)) else pure (dB false))) (wipeD ρ [2]) its []; pure (.d (.list ds))); let xs ← pure []; pure (x :: xs)); bAll xs); M.lift (truD x)); pure (!b)) then ((do let x ← pure (.d (PyData.bool false)); let y ← M.lift (plain x); pure (.rt y))) else (pure (.nx ρ)))) (fun ρ => (do let x ← (do let x ← (do let x ← M.lift (getS ρ 0); let n ← M.lift (lenSetN x); pure (dI n)); let y ← (do let xs ← (do let x ← M.lift (getS ρ 0); let xs ← pure []; pure (x :: xs)); bLen xs); M.lift (gEq x y)); let y ← M.lift (plain x); pure (.rt y))))
def d_are_query_names : List SD → M SD := defM 3 u_are_query_names
abbrev s_names_of : Stmt := Dw.topS 32
theorem sc_names_of : FnScope ["query"] ["query"] (defScope s_names_of) := ⟨rfl, rfl, rfl, by decide +kernel, rfl, by decide +kernel, by decide +kernel⟩
def u_names_of (ρ : List SD) : M Out := (do let x ← (do if ← (do let x ← (do let x ← M.lift (getS ρ 0); let y ← pure (.d (PyData.int 0)); M.lift (gIx x y)); let y ← pure (.d (PyData.str "compare")); let z ← M.lift (gEq x y); M.lift (asB z)) then (do let x ← M.lift (getS ρ 0); let l ← (do let x ← pure (.d (PyData.int 1)); let i ← M.lift (asI x); pure (some i)); let h ← pure none; M.lift (gSl x l h)) else (do let x ← M.lift (getS ρ 0); let y ← pure (.d (PyData.int 1)); M.lift (gIx x y))); let y ← M.lift (plain x); pure (.rt y))
def d_names_of : List SD → M SD := defM 1 u_names_of
abbrev s_check_query : Stmt := Dw.topS 34
theorem sc_check_query : FnScope ["query", "index", "existing"] ["query", "index", "existing"] (defScope s_check_query) := ⟨rfl, rfl, rfl, by decide +kernel, rfl, by decide +kernel, by decide +kernel⟩
def u_check_query (ρ : List SD) : M Out := seqM ((do if ← (do if ← (do let b ← (do let x ← (do let xs ← (do let x ← M.lift (getS ρ 0); let xs ← pure []; pure (x :: xs)); callM 1 d_has_query_form xs); M.lift (truD x)); pure (!b)) then pure true else (do let b ← (do let x ← (do let xs ← (do let x ← (do let xs ← (do let x ← M.lift (getS ρ 0); let xs ← pure []; pure (x :: xs)); callM 1 d_names_of xs); let xs ← (do let x ← M.lift (getS ρ 2); let xs ← pure []; pure (x :: xs)); pure (x :: xs)); callM 2 d_are_query_names xs); M.lift (truD x)); pure (!b))) then ((do let v ← M.lift (getS ρ 1); let d ← M.lift (argD ⟨"query", some "index", true⟩ v); (M.throw ⟨"InvalidQuery", fldD ⟨"query", some "index", true⟩ d⟩ : M Out))) else (pure (.nx ρ)))) (fun ρ => (do if ← (do let x ← (do let x ← M.lift (getS ρ 0); let y ← pure (.d (PyData.int 0)); M.lift (gIx x y)); let y ← pure (.d (PyData.str "above")); let z ← M.lift (gEq x y); M.lift (asB z)) then ((do let _ ← (do let xs ← (do let x ← (do let x ← M.lift (getS ρ 0); let y ← pure (.d (PyData.int 2)); M.lift (gIx x y)); let xs ← pure []; pure (x :: xs)); callM 1 d_check_fraction xs); pure (.nx ρ))) else (pure (.nx ρ))))
def d_check_query : List SD → M SD := defM 3 u_check_query
abbrev s_check_queries : Stmt := Dw.topS 35
theorem sc_check_queries : FnScope ["intervals", "queries", "existing", "index", "query"] ["intervals", "queries"] (defScope s_check_queries) := ⟨rfl, rfl, rfl, by decide +kernel, rfl, by decide +kernel, by decide +kernel⟩
def u_check_queries (ρ : List SD) : M Out := seqM ((do if ← (do let x ← (do let xs ← (do let x ← M.lift (getS ρ 1); let xs ← pure []; pure (x :: xs)); bLen xs); let y ← pure (.d (.int 8)); let z ← M.lift (gGt x y); M.lift (asB z)) then ((do let v ← pure (.d (.int 8)); let d ← M.lift (argD ⟨"query", some "index", true⟩ v); (M.throw ⟨"InvalidQuery", fldD ⟨"query", some "index", true⟩ d⟩ : M Out))) else (pure (.nx ρ)))) (fun ρ => seqM ((do let v ← (do let xs ← (do let x ← M.lift (getS ρ 0); let xs ← pure []; pure (x :: xs)); callM 1 d_item_names xs); let y ← M.lift (plain v); pure (.nx (ρ.set 2 y)))) (fun ρ => (do let its ← (do let x ← M.lift (getS ρ 1); M.lift (enumS x)); forM (.tp [3, 4]) (fun ρ => (do let _ ← (do let xs ← (do let x ← M.lift (getS ρ 4); let xs ← (do let x ← M.lift (getS ρ 3); let xs ← (do let x ← M.lift (getS ρ 2); let xs ← pure []; pure (x :: xs)); pure (x :: xs)); pure (x :: xs)); callM 3 d_check_query xs); pure (.nx ρ))) its ρ)))
def d_check_queries : List SD → M SD := defM 5 u_check_queries
abbrev s_check_price : Stmt := Dw.topS 26
theorem sc_check_price : FnScope ["name", "price"] ["name", "price"] (defScope s_check_price) := ⟨rfl, rfl, rfl, by decide +kernel, rfl, by decide +kernel, by decide +kernel⟩
def u_check_price (ρ : List SD) : M Out := (do if ← (do let b ← (do let x ← (do let x ← pure (.d (PyData.int 1)); let y ← M.lift (getS ρ 1); let z ← M.lift (gLe x y); let k ← M.lift (asB z); if k then (do let w ← pure (.d (.int 1000)); M.lift (gLe y w)) else pure (dB false)); M.lift (asB x)); pure (!b)) then ((do let v ← M.lift (getS ρ 0); let d ← M.lift (argD ⟨"price", some "name", false⟩ v); (M.throw ⟨"InvalidPrice", fldD ⟨"price", some "name", false⟩ d⟩ : M Out))) else (pure (.nx ρ)))
def d_check_price : List SD → M SD := defM 2 u_check_price
abbrev s_check_prices : Stmt := Dw.topS 27
theorem sc_check_prices : FnScope ["intervals", "prices", "existing", "name"] ["intervals", "prices"] (defScope s_check_prices) := ⟨rfl, rfl, rfl, by decide +kernel, rfl, by decide +kernel, by decide +kernel⟩
def u_check_prices (ρ : List SD) : M Out := seqM ((do if ← (do let x ← M.lift (getS ρ 1); let y ← pure (.d PyData.none); let z ← M.lift (gIsB x y); M.lift (asB z)) then (pure (.rt (.d .none))) else (pure (.nx ρ)))) (fun ρ => seqM ((do let v ← (do let xs ← (do let x ← M.lift (getS ρ 0); let xs ← pure []; pure (x :: xs)); callM 1 d_item_names xs); let y ← M.lift (plain v); pure (.nx (ρ.set 2 y)))) (fun ρ => (do let its ← (do let x ← (do let xs ← (do let x ← M.lift (getS ρ 1); let xs ← pure []; pure (x :: xs)); bSorted2 xs); M.lift (itemsD x)); forM (.nm 3) (fun ρ => seqM ((do if ← (do let x ← M.lift (getS ρ 3); let y ← M.lift (getS ρ 2); let z ← M.lift (gNotIn x y); M.lift (asB z)) then ((M.fail : M Out)) else (pure (.nx ρ)))) (fun ρ => (do let _ ← (do let xs ← (do let x ← M.lift (getS ρ 3); let xs ← (do let x ← (do let x ← M.lift (getS ρ 1); let y ← M.lift (getS ρ 3); M.lift (gIx x y)); let xs ← pure []; pure (x :: xs)); pure (x :: xs)); callM 2 d_check_price xs); pure (.nx ρ)))) its ρ)))
def d_check_prices : List SD → M SD := defM 4 u_check_prices
abbrev s_check_problem : Stmt := Dw.topS 39
theorem sc_check_problem : FnScope ["intervals", "queries", "prices"] ["intervals", "queries", "prices"] (defScope s_check_problem) := ⟨rfl, rfl, rfl, by decide +kernel, rfl, by decide +kernel, by decide +kernel⟩
def u_check_problem (ρ : List SD) : M Out := seqM ((do let _ ← (do let xs ← (do let x ← M.lift (getS ρ 0); let xs ← pure []; pure (x :: xs)); callM 1 d_check_intervals xs); pure (.nx ρ))) (fun ρ => seqM ((do let _ ← (do let xs ← (do let x ← M.lift (getS ρ 0); let xs ← (do let x ← M.lift (getS ρ 1); let xs ← pure []; pure (x :: xs)); pure (x :: xs)); callM 2 d_check_queries xs); pure (.nx ρ))) (fun ρ => (do let _ ← (do let xs ← (do let x ← M.lift (getS ρ 0); let xs ← (do let x ← M.lift (getS ρ 2); let xs ← pure []; pure (x :: xs)); pure (x :: xs)); callM 2 d_check_prices xs); pure (.nx ρ))))
def d_check_problem : List SD → M SD := defM 3 u_check_problem
abbrev s_asked_rows : Stmt := Dw.topS 36
theorem sc_asked_rows : FnScope ["intervals", "query", "names", "row"] ["intervals", "query"] (defScope s_asked_rows) := ⟨rfl, rfl, rfl, by decide +kernel, rfl, by decide +kernel, by decide +kernel⟩
def u_asked_rows (ρ : List SD) : M Out := seqM ((do let v ← (do let xs ← (do let x ← M.lift (getS ρ 1); let xs ← pure []; pure (x :: xs)); callM 1 d_names_of xs); let y ← M.lift (plain v); pure (.nx (ρ.set 2 y)))) (fun ρ => (do let x ← (do let its ← (do let x ← M.lift (getS ρ 0); M.lift (itemsD x)); let ds ← lcM (.nm 3) (fun ρ => (do let x ← (do let x ← M.lift (getS ρ 3); let y ← pure (.d (PyData.int 0)); M.lift (gIx x y)); let y ← M.lift (getS ρ 2); let z ← M.lift (gIn x y); M.lift (asB z))) (fun ρ => M.lift (getS ρ 3)) (wipeD ρ [3]) its []; pure (.d (.list ds))); let y ← M.lift (plain x); pure (.rt y)))
def d_asked_rows : List SD → M SD := defM 4 u_asked_rows
abbrev s_negated : Stmt := Dw.topS 12
theorem sc_negated : FnScope ["value"] ["value"] (defScope s_negated) := ⟨rfl, rfl, rfl, by decide +kernel, rfl, by decide +kernel, by decide +kernel⟩
def u_negated (ρ : List SD) : M Out := (do let x ← (do let xs ← (do let x ← (do let x ← (do let x ← M.lift (getS ρ 0); let y ← pure (.d (PyData.int 0)); M.lift (gIx x y)); M.lift (gNeg x)); let xs ← (do let x ← (do let x ← M.lift (getS ρ 0); let y ← pure (.d (PyData.int 1)); M.lift (gIx x y)); let xs ← pure []; pure (x :: xs)); pure (x :: xs)); M.lift (gTup xs)); let y ← M.lift (plain x); pure (.rt y))
def d_negated : List SD → M SD := defM 1 u_negated
abbrev s_mirrored : Stmt := Dw.topS 23
theorem sc_mirrored : FnScope ["row", "name", "low", "high"] ["row"] (defScope s_mirrored) := ⟨rfl, rfl, rfl, by decide +kernel, rfl, by decide +kernel, by decide +kernel⟩
def u_mirrored (ρ : List SD) : M Out := seqM ((do let v ← M.lift (getS ρ 0); let ρ' ← M.lift (kOf (.tp [1, 2, 3]) v ρ); pure (.nx ρ'))) (fun ρ => (do let x ← (do let xs ← (do let x ← M.lift (getS ρ 1); let xs ← (do let x ← (do let xs ← (do let x ← M.lift (getS ρ 3); let xs ← pure []; pure (x :: xs)); callM 1 d_negated xs); let xs ← (do let x ← (do let xs ← (do let x ← M.lift (getS ρ 2); let xs ← pure []; pure (x :: xs)); callM 1 d_negated xs); let xs ← pure []; pure (x :: xs)); pure (x :: xs)); pure (x :: xs)); M.lift (gTup xs)); let y ← M.lift (plain x); pure (.rt y)))
def d_mirrored : List SD → M SD := defM 4 u_mirrored
abbrev s_query_rows : Stmt := Dw.topS 37
theorem sc_query_rows : FnScope ["intervals", "query", "rows", "row"] ["intervals", "query"] (defScope s_query_rows) := ⟨rfl, rfl, rfl, by decide +kernel, rfl, by decide +kernel, by decide +kernel⟩
def u_query_rows (ρ : List SD) : M Out := seqM ((do let v ← (do let xs ← (do let x ← M.lift (getS ρ 0); let xs ← (do let x ← M.lift (getS ρ 1); let xs ← pure []; pure (x :: xs)); pure (x :: xs)); callM 2 d_asked_rows xs); let y ← M.lift (plain v); pure (.nx (ρ.set 2 y)))) (fun ρ => seqM ((do if ← (do let x ← (do let x ← M.lift (getS ρ 1); let y ← pure (.d (PyData.int 0)); M.lift (gIx x y)); let y ← pure (.d (PyData.str "max")); let z ← M.lift (gEq x y); M.lift (asB z)) then ((do let x ← (do let its ← (do let x ← M.lift (getS ρ 2); M.lift (itemsD x)); let ds ← lcM (.nm 3) (fun ρ => pure true) (fun ρ => (do let xs ← (do let x ← M.lift (getS ρ 3); let xs ← pure []; pure (x :: xs)); callM 1 (fun xs => M.calm (d_mirrored xs)) xs)) (wipeD ρ [3]) its []; pure (.d (.list ds))); let y ← M.lift (plain x); pure (.rt y))) else (pure (.nx ρ)))) (fun ρ => (do let x ← M.lift (getS ρ 2); let y ← M.lift (plain x); pure (.rt y))))
def d_query_rows : List SD → M SD := defM 4 u_query_rows
abbrev s_is_known : Stmt := Dw.topS 21
theorem sc_is_known : FnScope ["row"] ["row"] (defScope s_is_known) := ⟨rfl, rfl, rfl, by decide +kernel, rfl, by decide +kernel, by decide +kernel⟩
def u_is_known (ρ : List SD) : M Out := (do let x ← (do let x ← (do let x ← M.lift (getS ρ 0); let y ← pure (.d (PyData.int 1)); M.lift (gIx x y)); let y ← (do let x ← M.lift (getS ρ 0); let y ← pure (.d (PyData.int 2)); M.lift (gIx x y)); M.lift (gEq x y)); let y ← M.lift (plain x); pure (.rt y))
def d_is_known : List SD → M SD := defM 1 u_is_known
abbrev s_unknown_rows : Stmt := Dw.topS 41
theorem sc_unknown_rows : FnScope ["rows", "row"] ["rows"] (defScope s_unknown_rows) := ⟨rfl, rfl, rfl, by decide +kernel, rfl, by decide +kernel, by decide +kernel⟩
def u_unknown_rows (ρ : List SD) : M Out := (do let x ← (do let its ← (do let x ← M.lift (getS ρ 0); M.lift (itemsD x)); let ds ← lcM (.nm 1) (fun ρ => (do let b ← (do let x ← (do let xs ← (do let x ← M.lift (getS ρ 1); let xs ← pure []; pure (x :: xs)); callM 1 (fun xs => M.calm (d_is_known xs)) xs); M.lift (truD x)); pure (!b))) (fun ρ => M.lift (getS ρ 1)) (wipeD ρ [1]) its []; pure (.d (.list ds))); let y ← M.lift (plain x); pure (.rt y))
def d_unknown_rows : List SD → M SD := defM 2 u_unknown_rows
abbrev s_lies_inside : Stmt := Dw.topS 22
theorem sc_lies_inside : FnScope ["value", "row"] ["value", "row"] (defScope s_lies_inside) := ⟨rfl, rfl, rfl, by decide +kernel, rfl, by decide +kernel, by decide +kernel⟩
def u_lies_inside (ρ : List SD) : M Out := (do let x ← (do let x ← (do let xs ← (do let x ← (do let x ← M.lift (getS ρ 1); let y ← pure (.d (PyData.int 1)); M.lift (gIx x y)); let xs ← (do let x ← M.lift (getS ρ 0); let xs ← pure []; pure (x :: xs)); pure (x :: xs)); callM 2 d_less xs); let k ← M.lift (asB x); if k then (do let xs ← (do let x ← M.lift (getS ρ 0); let xs ← (do let x ← (do let x ← M.lift (getS ρ 1); let y ← pure (.d (PyData.int 2)); M.lift (gIx x y)); let xs ← pure []; pure (x :: xs)); pure (x :: xs)); callM 2 d_less xs) else pure (dB false)); let y ← M.lift (plain x); pure (.rt y))
def d_lies_inside : List SD → M SD := defM 2 u_lies_inside
abbrev s_at_most : Stmt := Dw.topS 11
theorem sc_at_most : FnScope ["first", "second"] ["first", "second"] (defScope s_at_most) := ⟨rfl, rfl, rfl, by decide +kernel, rfl, by decide +kernel, by decide +kernel⟩
def u_at_most (ρ : List SD) : M Out := (do let x ← (do let x ← (do let xs ← (do let x ← M.lift (getS ρ 1); let xs ← (do let x ← M.lift (getS ρ 0); let xs ← pure []; pure (x :: xs)); pure (x :: xs)); callM 2 d_less xs); let k ← M.lift (asB x); pure (dB (!k))); let y ← M.lift (plain x); pure (.rt y))
def d_at_most : List SD → M SD := defM 2 u_at_most
abbrev s_lies_within : Stmt := Dw.topS 42
theorem sc_lies_within : FnScope ["other", "row"] ["other", "row"] (defScope s_lies_within) := ⟨rfl, rfl, rfl, by decide +kernel, rfl, by decide +kernel, by decide +kernel⟩
def u_lies_within (ρ : List SD) : M Out := seqM ((do if ← (do let x ← (do let xs ← (do let x ← M.lift (getS ρ 0); let xs ← pure []; pure (x :: xs)); callM 1 d_is_known xs); M.lift (truD x)) then ((do let x ← (do let xs ← (do let x ← (do let x ← M.lift (getS ρ 0); let y ← pure (.d (PyData.int 1)); M.lift (gIx x y)); let xs ← (do let x ← M.lift (getS ρ 1); let xs ← pure []; pure (x :: xs)); pure (x :: xs)); callM 2 d_lies_inside xs); let y ← M.lift (plain x); pure (.rt y))) else (pure (.nx ρ)))) (fun ρ => (do let x ← (do let x ← (do let xs ← (do let x ← (do let x ← M.lift (getS ρ 1); let y ← pure (.d (PyData.int 1)); M.lift (gIx x y)); let xs ← (do let x ← (do let x ← M.lift (getS ρ 0); let y ← pure (.d (PyData.int 1)); M.lift (gIx x y)); let xs ← pure []; pure (x :: xs)); pure (x :: xs)); callM 2 d_at_most xs); let k ← M.lift (asB x); if k then (do let xs ← (do let x ← (do let x ← M.lift (getS ρ 0); let y ← pure (.d (PyData.int 2)); M.lift (gIx x y)); let xs ← (do let x ← (do let x ← M.lift (getS ρ 1); let y ← pure (.d (PyData.int 2)); M.lift (gIx x y)); let xs ← pure []; pure (x :: xs)); pure (x :: xs)); callM 2 d_at_most xs) else pure (dB false)); let y ← M.lift (plain x); pure (.rt y)))
def d_lies_within : List SD → M SD := defM 2 u_lies_within
abbrev s_sort_required : Stmt := Dw.topS 43
theorem sc_sort_required : FnScope ["rows", "row", "other"] ["rows"] (defScope s_sort_required) := ⟨rfl, rfl, rfl, by decide +kernel, rfl, by decide +kernel, by decide +kernel⟩
def u_sort_required (ρ : List SD) : M Out := (do let x ← (do let its ← (do let x ← (do let xs ← (do let x ← M.lift (getS ρ 0); let xs ← pure []; pure (x :: xs)); callM 1 d_unknown_rows xs); M.lift (itemsD x)); let ds ← lcM (.nm 1) (fun ρ => (do let x ← (do let xs ← (do let x ← (do let its ← (do let x ← M.lift (getS ρ 0); M.lift (itemsD x)); let ds ← lcM (.nm 2) (fun ρ => (do let x ← (do let x ← M.lift (getS ρ 2); let y ← pure (.d (PyData.int 0)); M.lift (gIx x y)); let y ← (do let x ← M.lift (getS ρ 1); let y ← pure (.d (PyData.int 0)); M.lift (gIx x y)); let z ← M.lift (gNe x y); M.lift (asB z))) (fun ρ => (do let xs ← (do let x ← M.lift (getS ρ 2); let xs ← (do let x ← M.lift (getS ρ 1); let xs ← pure []; pure (x :: xs)); pure (x :: xs)); callM 2 (fun xs => M.calm (d_lies_within xs)) xs)) (wipeD ρ [2]) its []; pure (.d (.list ds))); let xs ← pure []; pure (x :: xs)); bAny xs); M.lift (truD x))) (fun ρ => M.lift (getS ρ 1)) (wipeD ρ [1]) its []; pure (.d (.list ds))); let y ← M.lift (plain x); pure (.rt y))
def d_sort_required : List SD → M SD := defM 3 u_sort_required
abbrev s_keeps_from_frontier : Stmt := Dw.topS 44
theorem sc_keeps_from_frontier : FnScope ["other", "row"] ["other", "row"] (defScope s_keeps_from_frontier) := ⟨rfl, rfl, rfl, by decide +kernel, rfl, by decide +kernel, by decide +kernel⟩
def u_keeps_from_frontier (ρ : List SD) : M Out := seqM ((do if ← (do let x ← (do let xs ← (do let x ← M.lift (getS ρ 0); let xs ← pure []; pure (x :: xs)); callM 1 d_is_known xs); M.lift (truD x)) then ((do let x ← (do let xs ← (do let x ← (do let x ← M.lift (getS ρ 0); let y ← pure (.d (PyData.int 1)); M.lift (gIx x y)); let xs ← (do let x ← (do let x ← M.lift (getS ρ 1); let y ← pure (.d (PyData.int 1)); M.lift (gIx x y)); let xs ← pure []; pure (x :: xs)); pure (x :: xs)); callM 2 d_at_most xs); let y ← M.lift (plain x); pure (.rt y))) else (pure (.nx ρ)))) (fun ρ => (do let x ← (do let xs ← (do let x ← (do let x ← M.lift (getS ρ 0); let y ← pure (.d (PyData.int 1)); M.lift (gIx x y)); let xs ← (do let x ← (do let x ← M.lift (getS ρ 1); let y ← pure (.d (PyData.int 1)); M.lift (gIx x y)); let xs ← pure []; pure (x :: xs)); pure (x :: xs)); callM 2 d_less xs); let y ← M.lift (plain x); pure (.rt y)))
def d_keeps_from_frontier : List SD → M SD := defM 2 u_keeps_from_frontier
abbrev s_frontier : Stmt := Dw.topS 45
theorem sc_frontier : FnScope ["rows", "row", "other"] ["rows"] (defScope s_frontier) := ⟨rfl, rfl, rfl, by decide +kernel, rfl, by decide +kernel, by decide +kernel⟩
def u_frontier (ρ : List SD) : M Out := (do let x ← (do let its ← (do let x ← (do let xs ← (do let x ← M.lift (getS ρ 0); let xs ← pure []; pure (x :: xs)); callM 1 d_unknown_rows xs); M.lift (itemsD x)); let ds ← lcM (.nm 1) (fun ρ => (do let b ← (do let x ← (do let xs ← (do let x ← (do let its ← (do let x ← M.lift (getS ρ 0); M.lift (itemsD x)); let ds ← lcM (.nm 2) (fun ρ => pure true) (fun ρ => (do let xs ← (do let x ← M.lift (getS ρ 2); let xs ← (do let x ← M.lift (getS ρ 1); let xs ← pure []; pure (x :: xs)); pure (x :: xs)); callM 2 (fun xs => M.calm (d_keeps_from_frontier xs)) xs)) (wipeD ρ [2]) its []; pure (.d (.list ds))); let xs ← pure []; pure (x :: xs)); bAny xs); M.lift (truD x)); pure (!b))) (fun ρ => M.lift (getS ρ 1)) (wipeD ρ [1]) its []; pure (.d (.list ds))); let y ← M.lift (plain x); pure (.rt y))
def d_frontier : List SD → M SD := defM 3 u_frontier
abbrev s_ends_below : Stmt := Dw.topS 46
theorem sc_ends_below : FnScope ["other", "row"] ["other", "row"] (defScope s_ends_below) := ⟨rfl, rfl, rfl, by decide +kernel, rfl, by decide +kernel, by decide +kernel⟩
def u_ends_below (ρ : List SD) : M Out := seqM ((do if ← (do let x ← (do let xs ← (do let x ← M.lift (getS ρ 0); let xs ← pure []; pure (x :: xs)); callM 1 d_is_known xs); M.lift (truD x)) then ((do let x ← (do let xs ← (do let x ← (do let x ← M.lift (getS ρ 0); let y ← pure (.d (PyData.int 1)); M.lift (gIx x y)); let xs ← (do let x ← (do let x ← M.lift (getS ρ 1); let y ← pure (.d (PyData.int 2)); M.lift (gIx x y)); let xs ← pure []; pure (x :: xs)); pure (x :: xs)); callM 2 d_less xs); let y ← M.lift (plain x); pure (.rt y))) else (pure (.nx ρ)))) (fun ρ => (do let x ← (do let xs ← (do let x ← (do let x ← M.lift (getS ρ 0); let y ← pure (.d (PyData.int 2)); M.lift (gIx x y)); let xs ← (do let x ← (do let x ← M.lift (getS ρ 1); let y ← pure (.d (PyData.int 2)); M.lift (gIx x y)); let xs ← pure []; pure (x :: xs)); pure (x :: xs)); callM 2 d_at_most xs); let y ← M.lift (plain x); pure (.rt y)))
def d_ends_below : List SD → M SD := defM 2 u_ends_below
abbrev s_min_required : Stmt := Dw.topS 47
theorem sc_min_required : FnScope ["rows", "row", "other"] ["rows"] (defScope s_min_required) := ⟨rfl, rfl, rfl, by decide +kernel, rfl, by decide +kernel, by decide +kernel⟩
def u_min_required (ρ : List SD) : M Out := (do let x ← (do let its ← (do let x ← (do let xs ← (do let x ← M.lift (getS ρ 0); let xs ← pure []; pure (x :: xs)); callM 1 d_frontier xs); M.lift (itemsD x)); let ds ← lcM (.nm 1) (fun ρ => (do let x ← (do let xs ← (do let x ← (do let its ← (do let x ← M.lift (getS ρ 0); M.lift (itemsD x)); let ds ← lcM (.nm 2) (fun ρ => (do let x ← (do let x ← M.lift (getS ρ 2); let y ← pure (.d (PyData.int 0)); M.lift (gIx x y)); let y ← (do let x ← M.lift (getS ρ 1); let y ← pure (.d (PyData.int 0)); M.lift (gIx x y)); let z ← M.lift (gNe x y); M.lift (asB z))) (fun ρ => (do let xs ← (do let x ← M.lift (getS ρ 2); let xs ← (do let x ← M.lift (getS ρ 1); let xs ← pure []; pure (x :: xs)); pure (x :: xs)); callM 2 (fun xs => M.calm (d_ends_below xs)) xs)) (wipeD ρ [2]) its []; pure (.d (.list ds))); let xs ← pure []; pure (x :: xs)); bAny xs); M.lift (truD x))) (fun ρ => M.lift (getS ρ 1)) (wipeD ρ [1]) its []; pure (.d (.list ds))); let y ← M.lift (plain x); pure (.rt y))
def d_min_required : List SD → M SD := defM 3 u_min_required
abbrev s_required_names : Stmt := Dw.topS 48
theorem sc_required_names : FnScope ["intervals", "query", "rows", "row"] ["intervals", "query"] (defScope s_required_names) := ⟨rfl, rfl, rfl, by decide +kernel, rfl, by decide +kernel, by decide +kernel⟩
def u_required_names (ρ : List SD) : M Out := seqM ((do let v ← (do let xs ← (do let x ← M.lift (getS ρ 0); let xs ← (do let x ← M.lift (getS ρ 1); let xs ← pure []; pure (x :: xs)); pure (x :: xs)); callM 2 d_query_rows xs); let y ← M.lift (plain v); pure (.nx (ρ.set 2 y)))) (fun ρ => seqM ((do if ← (do let x ← (do let x ← M.lift (getS ρ 1); let y ← pure (.d (PyData.int 0)); M.lift (gIx x y)); let y ← pure (.d (PyData.str "above")); let z ← M.lift (gEq x y); M.lift (asB z)) then ((do let x ← (do let its ← (do let x ← M.lift (getS ρ 2); M.lift (itemsD x)); let ds ← lcM (.nm 3) (fun ρ => (do let x ← (do let xs ← (do let x ← (do let x ← M.lift (getS ρ 1); let y ← pure (.d (PyData.int 2)); M.lift (gIx x y)); let xs ← (do let x ← M.lift (getS ρ 3); let xs ← pure []; pure (x :: xs)); pure (x :: xs)); callM 2 (fun xs => M.calm (d_lies_inside xs)) xs); M.lift (truD x))) (fun ρ => (do let x ← M.lift (getS ρ 3); let y ← pure (.d (PyData.int 0)); M.lift (gIx x y))) (wipeD ρ [3]) its []; pure (.d (.list ds))); let y ← M.lift (plain x); pure (.rt y))) else (pure (.nx ρ)))) (fun ρ => seqM ((do if ← (do let x ← (do let x ← M.lift (getS ρ 1); let y ← pure (.d (PyData.int 0)); M.lift (gIx x y)); let y ← (do let xs ← (do let x ← pure (.d (PyData.str "min")); let xs ← (do let x ← pure (.d (PyData.str "max")); let xs ← pure []; pure (x :: xs)); pure (x :: xs)); M.lift (gTup xs)); let z ← M.lift (gIn x y); M.lift (asB z)) then ((do let x ← (do let its ← (do let x ← (do let xs ← (do let x ← M.lift (getS ρ 2); let xs ← pure []; pure (x :: xs)); callM 1 d_min_required xs); M.lift (itemsD x)); let ds ← lcM (.nm 3) (fun ρ => pure true) (fun ρ => (do let x ← M.lift (getS ρ 3); let y ← pure (.d (PyData.int 0)); M.lift (gIx x y))) (wipeD ρ [3]) its []; pure (.d (.list ds))); let y ← M.lift (plain x); pure (.rt y))) else (pure (.nx ρ)))) (fun ρ => (do let x ← (do let its ← (do let x ← (do let xs ← (do let x ← M.lift (getS ρ 2); let xs ← pure []; pure (x :: xs)); callM 1 d_sort_required xs); M.lift (itemsD x)); let ds ← lcM (.nm 3) (fun ρ => pure true) (fun ρ => (do let x ← M.lift (getS ρ 3); let y ← pure (.d (PyData.int 0)); M.lift (gIx x y))) (wipeD ρ [3]) its []; pure (.d (.list ds))); let y ← M.lift (plain x); pure (.rt y)))))
def d_required_names : List SD → M SD := defM 4 u_required_names
abbrev s_required_items : Stmt := Dw.topS 49
theorem sc_required_items : FnScope ["intervals", "query"] ["intervals", "query"] (defScope s_required_items) := ⟨rfl, rfl, rfl, by decide +kernel, rfl, by decide +kernel, by decide +kernel⟩
def u_required_items (ρ : List SD) : M Out := seqM ((do let _ ← (do let xs ← (do let x ← M.lift (getS ρ 0); let xs ← (do let x ← (do let xs ← (do let x ← M.lift (getS ρ 1); let xs ← pure []; pure (x :: xs)); M.lift (gLst xs)); let xs ← pure []; pure (x :: xs)); pure (x :: xs)); callM 3 d_check_problem (xs ++ List.map SD.d [PyData.none])); pure (.nx ρ))) (fun ρ => (do let x ← (do let xs ← (do let x ← M.lift (getS ρ 0); let xs ← (do let x ← M.lift (getS ρ 1); let xs ← pure []; pure (x :: xs)); pure (x :: xs)); callM 2 d_required_names xs); let y ← M.lift (plain x); pure (.rt y)))
def d_required_items : List SD → M SD := defM 2 u_required_items
abbrev s__law_items : Stmt := Dw.topS 69
theorem sc__law_items : FnScope ["_law_query_here"] ["_law_query_here"] (defScope s__law_items) := ⟨rfl, rfl, rfl, by decide +kernel, rfl, by decide +kernel, by decide +kernel⟩
def u__law_items (ρ : List SD) : M Out := (do let x ← (do if ← (do let x ← (do let x ← M.lift (getS ρ 0); let y ← pure (.d (PyData.int 0)); M.lift (gIx x y)); let y ← pure (.d (PyData.str "compare")); let z ← M.lift (gEq x y); M.lift (asB z)) then (do let xs ← (do let x ← (do let x ← M.lift (getS ρ 0); let y ← pure (.d (PyData.int 1)); M.lift (gIx x y)); let xs ← (do let x ← (do let x ← M.lift (getS ρ 0); let y ← pure (.d (PyData.int 2)); M.lift (gIx x y)); let xs ← pure []; pure (x :: xs)); pure (x :: xs)); M.lift (gLst xs)) else (do let xs ← (do let x ← (do let x ← M.lift (getS ρ 0); let y ← pure (.d (PyData.int 1)); M.lift (gIx x y)); let xs ← pure []; pure (x :: xs)); bList xs)); let y ← M.lift (plain x); pure (.rt y))
def d__law_items : List SD → M SD := defM 1 u__law_items
abbrev s__law_is_known : Stmt := Dw.topS 65
theorem sc__law_is_known : FnScope ["_law_bounds"] ["_law_bounds"] (defScope s__law_is_known) := ⟨rfl, rfl, rfl, by decide +kernel, rfl, by decide +kernel, by decide +kernel⟩
def u__law_is_known (ρ : List SD) : M Out := (do let x ← (do let x ← (do let x ← M.lift (getS ρ 0); let y ← pure (.d (PyData.int 0)); M.lift (gIx x y)); let y ← (do let x ← M.lift (getS ρ 0); let y ← pure (.d (PyData.int 1)); M.lift (gIx x y)); M.lift (gEq x y)); let y ← M.lift (plain x); pure (.rt y))
def d__law_is_known : List SD → M SD := defM 1 u__law_is_known
abbrev s__law_unknown : Stmt := Dw.topS 70
theorem sc__law_unknown : FnScope ["_law_table", "_law_names_here", "_law_name"] ["_law_table", "_law_names_here"] (defScope s__law_unknown) := ⟨rfl, rfl, rfl, by decide +kernel, rfl, by decide +kernel, by decide +kernel⟩
def u__law_unknown (ρ : List SD) : M Out := (do let x ← (do let its ← (do let x ← (do let xs ← (do let x ← M.lift (getS ρ 1); let xs ← pure []; pure (x :: xs)); bSorted2 xs); M.lift (itemsD x)); let ds ← lcM (.nm 2) (fun ρ => (do let b ← (do let x ← (do let xs ← (do let x ← (do let x ← M.lift (getS ρ 0); let y ← M.lift (getS ρ 2); M.lift (gIx x y)); let xs ← pure []; pure (x :: xs)); callM 1 (fun xs => M.calm (d__law_is_known xs)) xs); M.lift (truD x)); pure (!b))) (fun ρ => M.lift (getS ρ 2)) (wipeD ρ [2]) its []; pure (.d (.list ds))); let y ← M.lift (plain x); pure (.rt y))
def d__law_unknown : List SD → M SD := defM 3 u__law_unknown
abbrev s__law_at_most : Stmt := Dw.topS 59
theorem sc__law_at_most : FnScope ["_law_one", "_law_two"] ["_law_one", "_law_two"] (defScope s__law_at_most) := ⟨rfl, rfl, rfl, by decide +kernel, rfl, by decide +kernel, by decide +kernel⟩
def u__law_at_most (ρ : List SD) : M Out := (do let x ← (do let x ← (do let xs ← (do let x ← M.lift (getS ρ 1); let xs ← (do let x ← M.lift (getS ρ 0); let xs ← pure []; pure (x :: xs)); pure (x :: xs)); callM 2 d__law_less xs); let k ← M.lift (asB x); pure (dB (!k))); let y ← M.lift (plain x); pure (.rt y))
def d__law_at_most : List SD → M SD := defM 2 u__law_at_most
abbrev s__law_frontier : Stmt := Dw.topS 74
theorem sc__law_frontier : FnScope ["_law_table", "_law_names_here", "_law_chosen", "_law_found", "_law_name", "_law_low", "_law_paid_ones", "_law_other"] ["_law_table", "_law_names_here"] (defScope s__law_frontier) := ⟨rfl, rfl, rfl, by decide +kernel, rfl, by decide +kernel, by decide +kernel⟩
def u__law_frontier (ρ : List SD) : M Out := seqM ((do let v ← (do let xs ← (do let x ← M.lift (getS ρ 0); let xs ← (do let x ← M.lift (getS ρ 1); let xs ← pure []; pure (x :: xs)); pure (x :: xs)); callM 2 d__law_unknown xs); let y ← M.lift (plain v); pure (.nx (ρ.set 2 y)))) (fun ρ => seqM ((do let vs ← pure []; let ds ← M.lift (allD vs); M.when (szOk ds.length) (pure (.nx (ρ.set 3 (.own ds)))))) (fun ρ => seqM ((do let its ← (do let x ← M.lift (getS ρ 2); M.lift (itemsD x)); forM (.nm 4) (fun ρ => seqM ((do let v ← (do let x ← (do let x ← M.lift (getS ρ 0); let y ← M.lift (getS ρ 4); M.lift (gIx x y)); let y ← pure (.d (PyData.int 0)); M.lift (gIx x y)); let y ← M.lift (plain v); pure (.nx (ρ.set 5 y)))) (fun ρ => (do if ← (do let x ← (do let xs ← (do let x ← (do let its ← (do let x ← M.lift (getS ρ 2); M.lift (itemsD x)); let ds ← lcM (.nm 7) (fun ρ => pure true) (fun ρ => (do let xs ← (do let x ← M.lift (getS ρ 5); let xs ← (do let x ← (do let x ← (do let x ← M.lift (getS ρ 0); let y ← M.lift (getS ρ 7); M.lift (gIx x y)); let y ← pure (.d (PyData.int 0)); M.lift (gIx x y)); let xs ← pure []; pure (x :: xs)); pure (x :: xs)); callM 2 (fun xs => M.calm (d__law_at_most xs)) xs)) (wipeD ρ [7]) its []; pure (.d (.list ds))); let xs ← pure []; pure (x :: xs)); bAll xs); M.lift (truD x)) then (seqM ((do let its ← (do let x ← M.lift (getS ρ 1); M.lift (itemsD x)); let ds ← lcM (.nm 7) (fun ρ => (do let x ← (do let xs ← (do let x ← (do let x ← M.lift (getS ρ 0); let y ← M.lift (getS ρ 7); M.lift (gIx x y)); let xs ← pure []; pure (x :: xs)); callM 1 (fun xs => M.calm (d__law_is_known xs)) xs); M.lift (truD x))) (fun ρ => M.lift (getS ρ 7)) (wipeD ρ [7]) its []; pure (.nx (ρ.set 6 (.d (.list ds)))))) (fun ρ => (do if ← (do let b ← (do let x ← (do let xs ← (do let x ← (do let its ← (do let x ← M.lift (getS ρ 6); M.lift (itemsD x)); let ds ← lcM (.nm 7) (fun ρ => pure true) (fun ρ => (do let xs ← (do let x ← (do let x ← (do let x ← M.lift (getS ρ 0); let y ← M.lift (getS ρ 7); M.lift (gIx x y)); let y ← pure (.d (PyData.int 0)); M.lift (gIx x y)); let xs ← (do let x ← M.lift (getS ρ 5); let xs ← pure []; pure (x :: xs)); pure (x :: xs)); callM 2 (fun xs => M.calm (d__law_at_most xs)) xs)) (wipeD ρ [7]) its []; pure (.d (.list ds))); let xs ← pure []; pure (x :: xs)); bAny xs); M.lift (truD x)); pure (!b)) then ((do let ds ← M.lift (ownL ρ 3); let y ← M.lift (getS ρ 4); let z ← M.lift (asD y); M.when (szOk (ds.length + 1)) (pure (.nx (ρ.set 3 (.own (ds ++ [z]))))))) else (pure (.nx ρ))))) else (pure (.nx ρ))))) its ρ)) (fun ρ => (do let x ← M.lift (getS ρ 3); pure (.rt (frzS x))))))
def d__law_frontier : List SD → M SD := defM 8 u__law_frontier
abbrev s__law_negated : Stmt := Dw.topS 71
theorem sc__law_negated : FnScope ["_law_bounds"] ["_law_bounds"] (defScope s__law_negated) := ⟨rfl, rfl, rfl, by decide +kernel, rfl, by decide +kernel, by decide +kernel⟩
def u__law_negated (ρ : List SD) : M Out := (do let x ← (do let xs ← (do let x ← (do let xs ← (do let x ← (do let x ← pure (.d (PyData.int 0)); let y ← (do let x ← (do let x ← M.lift (getS ρ 0); let y ← pure (.d (PyData.int 1)); M.lift (gIx x y)); let y ← pure (.d (PyData.int 0)); M.lift (gIx x y)); M.lift (gSub x y)); let xs ← (do let x ← (do let x ← (do let x ← M.lift (getS ρ 0); let y ← pure (.d (PyData.int 1)); M.lift (gIx x y)); let y ← pure (.d (PyData.int 1)); M.lift (gIx x y)); let xs ← pure []; pure (x :: xs)); pure (x :: xs)); M.lift (gTup xs)); let xs ← (do let x ← (do let xs ← (do let x ← (do let x ← pure (.d (PyData.int 0)); let y ← (do let x ← (do let x ← M.lift (getS ρ 0); let y ← pure (.d (PyData.int 0)); M.lift (gIx x y)); let y ← pure (.d (PyData.int 0)); M.lift (gIx x y)); M.lift (gSub x y)); let xs ← (do let x ← (do let x ← (do let x ← M.lift (getS ρ 0); let y ← pure (.d (PyData.int 0)); M.lift (gIx x y)); let y ← pure (.d (PyData.int 1)); M.lift (gIx x y)); let xs ← pure []; pure (x :: xs)); pure (x :: xs)); M.lift (gTup xs)); let xs ← pure []; pure (x :: xs)); pure (x :: xs)); M.lift (gTup xs)); let y ← M.lift (plain x); pure (.rt y))
def d__law_negated : List SD → M SD := defM 1 u__law_negated
abbrev s__law_mirrored : Stmt := Dw.topS 72
theorem sc__law_mirrored : FnScope ["_law_table", "_law_name"] ["_law_table"] (defScope s__law_mirrored) := ⟨rfl, rfl, rfl, by decide +kernel, rfl, by decide +kernel, by decide +kernel⟩
def u__law_mirrored (ρ : List SD) : M Out := (do let x ← (do let xs ← (do let x ← (do let x ← M.lift (getS ρ 0); let its ← M.lift (keysIt x); let ds ← lcM (.nm 1) (fun ρ => pure true) (fun ρ => (do let xs ← (do let x ← M.lift (getS ρ 1); let xs ← (do let x ← (do let xs ← (do let x ← (do let x ← M.lift (getS ρ 0); let y ← M.lift (getS ρ 1); M.lift (gIx x y)); let xs ← pure []; pure (x :: xs)); callM 1 (fun xs => M.calm (d__law_negated xs)) xs); let xs ← pure []; pure (x :: xs)); pure (x :: xs)); M.lift (gTup xs))) (wipeD ρ [1]) its []; pure (.d (.list ds))); let xs ← pure []; pure (x :: xs)); bDict xs); let y ← M.lift (plain x); pure (.rt y))
def d__law_mirrored : List SD → M SD := defM 2 u__law_mirrored
abbrev s__law_inside : Stmt := Dw.topS 60
theorem sc__law_inside : FnScope ["_law_one", "_law_low", "_law_high"] ["_law_one", "_law_low", "_law_high"] (defScope s__law_inside) := ⟨rfl, rfl, rfl, by decide +kernel, rfl, by decide +kernel, by decide +kernel⟩
def u__law_inside (ρ : List SD) : M Out := (do let x ← (do let x ← (do let xs ← (do let x ← M.lift (getS ρ 1); let xs ← (do let x ← M.lift (getS ρ 0); let xs ← pure []; pure (x :: xs)); pure (x :: xs)); callM 2 d__law_less xs); let k ← M.lift (asB x); if k then (do let xs ← (do let x ← M.lift (getS ρ 0); let xs ← (do let x ← M.lift (getS ρ 2); let xs ← pure []; pure (x :: xs)); pure (x :: xs)); callM 2 d__law_less xs) else pure (dB false)); let y ← M.lift (plain x); pure (.rt y))
def d__law_inside : List SD → M SD := defM 3 u__law_inside
abbrev s__law_blocks : Stmt := Dw.topS 75
theorem sc__law_blocks : FnScope ["_law_one", "_law_two"] ["_law_one", "_law_two"] (defScope s__law_blocks) := ⟨rfl, rfl, rfl, by decide +kernel, rfl, by decide +kernel, by decide +kernel⟩
def u__law_blocks (ρ : List SD) : M Out := seqM ((do if ← (do let x ← (do let xs ← (do let x ← M.lift (getS ρ 1); let xs ← pure []; pure (x :: xs)); callM 1 d__law_is_known xs); M.lift (truD x)) then ((do let x ← (do let xs ← (do let x ← (do let x ← M.lift (getS ρ 1); let y ← pure (.d (PyData.int 0)); M.lift (gIx x y)); let xs ← (do let x ← (do let x ← M.lift (getS ρ 0); let y ← pure (.d (PyData.int 1)); M.lift (gIx x y)); let xs ← pure []; pure (x :: xs)); pure (x :: xs)); callM 2 d__law_less xs); let y ← M.lift (plain x); pure (.rt y))) else (pure (.nx ρ)))) (fun ρ => (do let x ← (do let xs ← (do let x ← (do let x ← M.lift (getS ρ 1); let y ← pure (.d (PyData.int 1)); M.lift (gIx x y)); let xs ← (do let x ← (do let x ← M.lift (getS ρ 0); let y ← pure (.d (PyData.int 1)); M.lift (gIx x y)); let xs ← pure []; pure (x :: xs)); pure (x :: xs)); callM 2 d__law_at_most xs); let y ← M.lift (plain x); pure (.rt y)))
def d__law_blocks : List SD → M SD := defM 2 u__law_blocks
abbrev s__law_contains : Stmt := Dw.topS 73
theorem sc__law_contains : FnScope ["_law_one", "_law_two"] ["_law_one", "_law_two"] (defScope s__law_contains) := ⟨rfl, rfl, rfl, by decide +kernel, rfl, by decide +kernel, by decide +kernel⟩
def u__law_contains (ρ : List SD) : M Out := seqM ((do if ← (do let x ← (do let xs ← (do let x ← M.lift (getS ρ 1); let xs ← pure []; pure (x :: xs)); callM 1 d__law_is_known xs); M.lift (truD x)) then ((do let x ← (do let xs ← (do let x ← (do let x ← M.lift (getS ρ 1); let y ← pure (.d (PyData.int 0)); M.lift (gIx x y)); let xs ← (do let x ← (do let x ← M.lift (getS ρ 0); let y ← pure (.d (PyData.int 0)); M.lift (gIx x y)); let xs ← (do let x ← (do let x ← M.lift (getS ρ 0); let y ← pure (.d (PyData.int 1)); M.lift (gIx x y)); let xs ← pure []; pure (x :: xs)); pure (x :: xs)); pure (x :: xs)); callM 3 d__law_inside xs); let y ← M.lift (plain x); pure (.rt y))) else (pure (.nx ρ)))) (fun ρ => (do let x ← (do let x ← (do let xs ← (do let x ← (do let x ← M.lift (getS ρ 0); let y ← pure (.d (PyData.int 0)); M.lift (gIx x y)); let xs ← (do let x ← (do let x ← M.lift (getS ρ 1); let y ← pure (.d (PyData.int 0)); M.lift (gIx x y)); let xs ← pure []; pure (x :: xs)); pure (x :: xs)); callM 2 d__law_at_most xs); let k ← M.lift (asB x); if k then (do let xs ← (do let x ← (do let x ← M.lift (getS ρ 1); let y ← pure (.d (PyData.int 1)); M.lift (gIx x y)); let xs ← (do let x ← (do let x ← M.lift (getS ρ 0); let y ← pure (.d (PyData.int 1)); M.lift (gIx x y)); let xs ← pure []; pure (x :: xs)); pure (x :: xs)); callM 2 d__law_at_most xs) else pure (dB false)); let y ← M.lift (plain x); pure (.rt y)))
def d__law_contains : List SD → M SD := defM 2 u__law_contains
abbrev s__law_required_r0 : Stmt := Dw.topS 76
theorem sc__law_required_r0 : FnScope ["_law_table", "_law_query_here", "_law_names_here", "_law_chosen", "_law_found", "_law_name", "_law_others", "_law_other"] ["_law_table", "_law_query_here"] (defScope s__law_required_r0) := ⟨rfl, rfl, rfl, by decide +kernel, rfl, by decide +kernel, by decide +kernel⟩
def u__law_required_r0 (ρ : List SD) : M Out := seqM ((do let v ← (do let xs ← (do let x ← M.lift (getS ρ 1); let xs ← pure []; pure (x :: xs)); callM 1 d__law_items xs); let y ← M.lift (plain v); pure (.nx (ρ.set 2 y)))) (fun ρ => seqM ((do let v ← (do let xs ← (do let x ← M.lift (getS ρ 0); let xs ← (do let x ← M.lift (getS ρ 2); let xs ← pure []; pure (x :: xs)); pure (x :: xs)); callM 2 d__law_unknown xs); let y ← M.lift (plain v); pure (.nx (ρ.set 3 y)))) (fun ρ => seqM ((do if ← (do let x ← (do let x ← M.lift (getS ρ 1); let y ← pure (.d (PyData.int 0)); M.lift (gIx x y)); let y ← pure (.d (PyData.str "max")); let z ← M.lift (gEq x y); M.lift (asB z)) then ((do let x ← (fun ρ => (M.fail : M SD)) (ρ.map frzS); let y ← M.lift (plain x); pure (.rt y))) else (pure (.nx ρ)))) (fun ρ => seqM ((do if ← (do let x ← (do let x ← M.lift (getS ρ 1); let y ← pure (.d (PyData.int 0)); M.lift (gIx x y)); let y ← pure (.d (PyData.str "above")); let z ← M.lift (gEq x y); M.lift (asB z)) then ((do let x ← (fun ρ => (do let its ← (do let x ← M.lift (getS ρ 3); M.lift (itemsD x)); let ds ← lcM (.nm 5) (fun ρ => (do let x ← (do let xs ← (do let x ← (do let x ← M.lift (getS ρ 1); let y ← pure (.d (PyData.int 2)); M.lift (gIx x y)); let xs ← (do let x ← (do let x ← (do let x ← M.lift (getS ρ 0); let y ← M.lift (getS ρ 5); M.lift (gIx x y)); let y ← pure (.d (PyData.int 0)); M.lift (gIx x y)); let xs ← (do let x ← (do let x ← (do let x ← M.lift (getS ρ 0); let y ← M.lift (getS ρ 5); M.lift (gIx x y)); let y ← pure (.d (PyData.int 1)); M.lift (gIx x y)); let xs ← pure []; pure (x :: xs)); pure (x :: xs)); pure (x :: xs)); callM 3 (fun xs => M.calm (d__law_inside xs)) xs); M.lift (truD x))) (fun ρ => M.lift (getS ρ 5)) (wipeD ρ [5]) its []; pure (.d (.list ds)))) (ρ.map frzS); let y ← M.lift (plain x); pure (.rt y))) else (pure (.nx ρ)))) (fun ρ => seqM ((do let vs ← pure []; let ds ← M.lift (allD vs); M.when (szOk ds.length) (pure (.nx (ρ.set 4 (.own ds)))))) (fun ρ => seqM ((do let its ← (do let x ← (do if ← (do let x ← (do let x ← M.lift (getS ρ 1); let y ← pure (.d (PyData.int 0)); M.lift (gIx x y)); let y ← pure (.d (PyData.str "min")); let z ← M.lift (gEq x y); M.lift (asB z)) then (do let xs ← (do let x ← M.lift (getS ρ 0); let xs ← (do let x ← M.lift (getS ρ 2); let xs ← pure []; pure (x :: xs)); pure (x :: xs)); callM 2 d__law_frontier xs) else M.lift (getS ρ 3)); M.lift (itemsD x)); forM (.nm 5) (fun ρ => seqM ((do let its ← (do let x ← M.lift (getS ρ 2); M.lift (itemsD x)); let ds ← lcM (.nm 7) (fun ρ => (do let x ← M.lift (getS ρ 7); let y ← M.lift (getS ρ 5); let z ← M.lift (gNe x y); M.lift (asB z))) (fun ρ => (do let x ← M.lift (getS ρ 0); let y ← M.lift (getS ρ 7); M.lift (gIx x y))) (wipeD ρ [7]) its []; pure (.nx (ρ.set 6 (.d (.list ds)))))) (fun ρ => seqM ((do if ← (do if ← (do let x ← (do let x ← M.lift (getS ρ 1); let y ← pure (.d (PyData.int 0)); M.lift (gIx x y)); let y ← pure (.d (PyData.str "min")); let z ← M.lift (gEq x y); M.lift (asB z)) then (do let x ← (do let xs ← (do let x ← (do let its ← (do let x ← M.lift (getS ρ 6); M.lift (itemsD x)); let ds ← lcM (.nm 7) (fun ρ => pure true) (fun ρ => (do let xs ← (do let x ← (do let x ← M.lift (getS ρ 0); let y ← M.lift (getS ρ 5); M.lift (gIx x y)); let xs ← (do let x ← M.lift (getS ρ 7); let xs ← pure []; pure (x :: xs)); pure (x :: xs)); callM 2 (fun xs => M.calm (d__law_blocks xs)) xs)) (wipeD ρ [7]) its []; pure (.d (.list ds))); let xs ← pure []; pure (x :: xs)); bAny xs); M.lift (truD x)) else pure false) then ((do let ds ← M.lift (ownL ρ 4); let y ← M.lift (getS ρ 5); let z ← M.lift (asD y); M.when (szOk (ds.length + 1)) (pure (.nx (ρ.set 4 (.own (ds ++ [z]))))))) else (pure (.nx ρ)))) (fun ρ => (do if ← (do if ← (do let x ← (do let x ← M.lift (getS ρ 1); let y ← pure (.d (PyData.int 0)); M.lift (gIx x y)); let y ← pure (.d (PyData.str "min")); let z ← M.lift (gNe x y); M.lift (asB z)) then (do let x ← (do let xs ← (do let x ← (do let its ← (do let x ← M.lift (getS ρ 6); M.lift (itemsD x)); let ds ← lcM (.nm 7) (fun ρ => pure true) (fun ρ => (do let xs ← (do let x ← (do let x ← M.lift (getS ρ 0); let y ← M.lift (getS ρ 5); M.lift (gIx x y)); let xs ← (do let x ← M.lift (getS ρ 7); let xs ← pure []; pure (x :: xs)); pure (x :: xs)); callM 2 (fun xs => M.calm (d__law_contains xs)) xs)) (wipeD ρ [7]) its []; pure (.d (.list ds))); let xs ← pure []; pure (x :: xs)); bAny xs); M.lift (truD x)) else pure false) then ((do let ds ← M.lift (ownL ρ 4); let y ← M.lift (getS ρ 5); let z ← M.lift (asD y); M.when (szOk (ds.length + 1)) (pure (.nx (ρ.set 4 (.own (ds ++ [z]))))))) else (pure (.nx ρ)))))) its ρ)) (fun ρ => (do let x ← M.lift (getS ρ 4); pure (.rt (frzS x)))))))))
def d__law_required_r0 : List SD → M SD := defM 8 u__law_required_r0
abbrev s__law_required : Stmt := Dw.topS 76
theorem sc__law_required : FnScope ["_law_table", "_law_query_here", "_law_names_here", "_law_chosen", "_law_found", "_law_name", "_law_others", "_law_other"] ["_law_table", "_law_query_here"] (defScope s__law_required) := ⟨rfl, rfl, rfl, by decide +kernel, rfl, by decide +kernel, by decide +kernel⟩
def u__law_required (ρ : List SD) : M Out := seqM ((do let v ← (do let xs ← (do let x ← M.lift (getS ρ 1); let xs ← pure []; pure (x :: xs)); callM 1 d__law_items xs); let y ← M.lift (plain v); pure (.nx (ρ.set 2 y)))) (fun ρ => seqM ((do let v ← (do let xs ← (do let x ← M.lift (getS ρ 0); let xs ← (do let x ← M.lift (getS ρ 2); let xs ← pure []; pure (x :: xs)); pure (x :: xs)); callM 2 d__law_unknown xs); let y ← M.lift (plain v); pure (.nx (ρ.set 3 y)))) (fun ρ => seqM ((do if ← (do let x ← (do let x ← M.lift (getS ρ 1); let y ← pure (.d (PyData.int 0)); M.lift (gIx x y)); let y ← pure (.d (PyData.str "max")); let z ← M.lift (gEq x y); M.lift (asB z)) then ((do let x ← (fun ρ => (do let xs ← (do let x ← (do let xs ← (do let x ← M.lift (getS ρ 0); let xs ← pure []; pure (x :: xs)); callM 1 d__law_mirrored xs); let xs ← (do let x ← (do let xs ← (do let x ← pure (.d (PyData.str "min")); let xs ← (do let x ← (do let x ← M.lift (getS ρ 1); let y ← pure (.d (PyData.int 1)); M.lift (gIx x y)); let xs ← pure []; pure (x :: xs)); pure (x :: xs)); M.lift (gTup xs)); let xs ← pure []; pure (x :: xs)); pure (x :: xs)); callM 2 d__law_required_r0 xs)) (ρ.map frzS); let y ← M.lift (plain x); pure (.rt y))) else (pure (.nx ρ)))) (fun ρ => seqM ((do if ← (do let x ← (do let x ← M.lift (getS ρ 1); let y ← pure (.d (PyData.int 0)); M.lift (gIx x y)); let y ← pure (.d (PyData.str "above")); let z ← M.lift (gEq x y); M.lift (asB z)) then ((do let x ← (fun ρ => (do let its ← (do let x ← M.lift (getS ρ 3); M.lift (itemsD x)); let ds ← lcM (.nm 5) (fun ρ => (do let x ← (do let xs ← (do let x ← (do let x ← M.lift (getS ρ 1); let y ← pure (.d (PyData.int 2)); M.lift (gIx x y)); let xs ← (do let x ← (do let x ← (do let x ← M.lift (getS ρ 0); let y ← M.lift (getS ρ 5); M.lift (gIx x y)); let y ← pure (.d (PyData.int 0)); M.lift (gIx x y)); let xs ← (do let x ← (do let x ← (do let x ← M.lift (getS ρ 0); let y ← M.lift (getS ρ 5); M.lift (gIx x y)); let y ← pure (.d (PyData.int 1)); M.lift (gIx x y)); let xs ← pure []; pure (x :: xs)); pure (x :: xs)); pure (x :: xs)); callM 3 (fun xs => M.calm (d__law_inside xs)) xs); M.lift (truD x))) (fun ρ => M.lift (getS ρ 5)) (wipeD ρ [5]) its []; pure (.d (.list ds)))) (ρ.map frzS); let y ← M.lift (plain x); pure (.rt y))) else (pure (.nx ρ)))) (fun ρ => seqM ((do let vs ← pure []; let ds ← M.lift (allD vs); M.when (szOk ds.length) (pure (.nx (ρ.set 4 (.own ds)))))) (fun ρ => seqM ((do let its ← (do let x ← (do if ← (do let x ← (do let x ← M.lift (getS ρ 1); let y ← pure (.d (PyData.int 0)); M.lift (gIx x y)); let y ← pure (.d (PyData.str "min")); let z ← M.lift (gEq x y); M.lift (asB z)) then (do let xs ← (do let x ← M.lift (getS ρ 0); let xs ← (do let x ← M.lift (getS ρ 2); let xs ← pure []; pure (x :: xs)); pure (x :: xs)); callM 2 d__law_frontier xs) else M.lift (getS ρ 3)); M.lift (itemsD x)); forM (.nm 5) (fun ρ => seqM ((do let its ← (do let x ← M.lift (getS ρ 2); M.lift (itemsD x)); let ds ← lcM (.nm 7) (fun ρ => (do let x ← M.lift (getS ρ 7); let y ← M.lift (getS ρ 5); let z ← M.lift (gNe x y); M.lift (asB z))) (fun ρ => (do let x ← M.lift (getS ρ 0); let y ← M.lift (getS ρ 7); M.lift (gIx x y))) (wipeD ρ [7]) its []; pure (.nx (ρ.set 6 (.d (.list ds)))))) (fun ρ => seqM ((do if ← (do if ← (do let x ← (do let x ← M.lift (getS ρ 1); let y ← pure (.d (PyData.int 0)); M.lift (gIx x y)); let y ← pure (.d (PyData.str "min")); let z ← M.lift (gEq x y); M.lift (asB z)) then (do let x ← (do let xs ← (do let x ← (do let its ← (do let x ← M.lift (getS ρ 6); M.lift (itemsD x)); let ds ← lcM (.nm 7) (fun ρ => pure true) (fun ρ => (do let xs ← (do let x ← (do let x ← M.lift (getS ρ 0); let y ← M.lift (getS ρ 5); M.lift (gIx x y)); let xs ← (do let x ← M.lift (getS ρ 7); let xs ← pure []; pure (x :: xs)); pure (x :: xs)); callM 2 (fun xs => M.calm (d__law_blocks xs)) xs)) (wipeD ρ [7]) its []; pure (.d (.list ds))); let xs ← pure []; pure (x :: xs)); bAny xs); M.lift (truD x)) else pure false) then ((do let ds ← M.lift (ownL ρ 4); let y ← M.lift (getS ρ 5); let z ← M.lift (asD y); M.when (szOk (ds.length + 1)) (pure (.nx (ρ.set 4 (.own (ds ++ [z]))))))) else (pure (.nx ρ)))) (fun ρ => (do if ← (do if ← (do let x ← (do let x ← M.lift (getS ρ 1); let y ← pure (.d (PyData.int 0)); M.lift (gIx x y)); let y ← pure (.d (PyData.str "min")); let z ← M.lift (gNe x y); M.lift (asB z)) then (do let x ← (do let xs ← (do let x ← (do let its ← (do let x ← M.lift (getS ρ 6); M.lift (itemsD x)); let ds ← lcM (.nm 7) (fun ρ => pure true) (fun ρ => (do let xs ← (do let x ← (do let x ← M.lift (getS ρ 0); let y ← M.lift (getS ρ 5); M.lift (gIx x y)); let xs ← (do let x ← M.lift (getS ρ 7); let xs ← pure []; pure (x :: xs)); pure (x :: xs)); callM 2 (fun xs => M.calm (d__law_contains xs)) xs)) (wipeD ρ [7]) its []; pure (.d (.list ds))); let xs ← pure []; pure (x :: xs)); bAny xs); M.lift (truD x)) else pure false) then ((do let ds ← M.lift (ownL ρ 4); let y ← M.lift (getS ρ 5); let z ← M.lift (asD y); M.when (szOk (ds.length + 1)) (pure (.nx (ρ.set 4 (.own (ds ++ [z]))))))) else (pure (.nx ρ)))))) its ρ)) (fun ρ => (do let x ← M.lift (getS ρ 4); pure (.rt (frzS x)))))))))
def d__law_required : List SD → M SD := defM 8 u__law_required
abbrev s__law_by_name : Stmt := Dw.topS 64
theorem sc__law_by_name : FnScope ["_law_intervals_here", "_law_name", "_law_low", "_law_high"] ["_law_intervals_here"] (defScope s__law_by_name) := ⟨rfl, rfl, rfl, by decide +kernel, rfl, by decide +kernel, by decide +kernel⟩
def u__law_by_name (ρ : List SD) : M Out := (do let x ← (do let xs ← (do let x ← (do let its ← (do let x ← M.lift (getS ρ 0); M.lift (itemsD x)); let ds ← lcM (.tp [1, 2, 3]) (fun ρ => pure true) (fun ρ => (do let xs ← (do let x ← M.lift (getS ρ 1); let xs ← (do let x ← (do let xs ← (do let x ← M.lift (getS ρ 2); let xs ← (do let x ← M.lift (getS ρ 3); let xs ← pure []; pure (x :: xs)); pure (x :: xs)); M.lift (gTup xs)); let xs ← pure []; pure (x :: xs)); pure (x :: xs)); M.lift (gTup xs))) (wipeD ρ [1, 2, 3]) its []; pure (.d (.list ds))); let xs ← pure []; pure (x :: xs)); bDict xs); let y ← M.lift (plain x); pure (.rt y))
def d__law_by_name : List SD → M SD := defM 4 u__law_by_name
abbrev s_law : Stmt := Dw.topS 77
theorem sc_law : FnScope ["_law_script", "_law_source_here", "_law_k", "_law_intervals_here", "_law_query_here", "_law_snapshot", "_law_found"] ["_law_script"] (defScope s_law) := ⟨rfl, rfl, rfl, by decide +kernel, rfl, by decide +kernel, by decide +kernel⟩
def u_law (ρ : List SD) : M Out := seqM ((do let its ← (do let x ← pure (.d (PyData.int 5)); let j ← M.lift (asI x); M.when (bigI j) (pure (rangeD 0 j.toNat))); forM (.nm 2) (fun ρ => seqM ((do let v ← (do let xs ← (do let x ← M.lift (getS ρ 1); let xs ← (do let x ← pure (.d (PyData.int 6)); let xs ← (do let x ← pure (.d (PyData.int 8)); let xs ← pure []; pure (x :: xs)); pure (x :: xs)); pure (x :: xs)); callM 3 d__law_intervals xs); let y ← M.lift (plain v); pure (.nx (ρ.set 3 y)))) (fun ρ => seqM ((do let v ← (do let xs ← (do let x ← M.lift (getS ρ 1); let xs ← (do let x ← M.lift (getS ρ 3); let xs ← pure []; pure (x :: xs)); pure (x :: xs)); callM 2 d__law_query xs); let y ← M.lift (plain v); pure (.nx (ρ.set 4 y)))) (fun ρ => seqM ((do let v ← (do let xs ← (do let x ← M.lift (getS ρ 3); let xs ← pure []; pure (x :: xs)); bList xs); let y ← M.lift (plain v); pure (.nx (ρ.set 5 y)))) (fun ρ => seqM ((do let ρ1 ← M.lift (keepS [3, 4] ρ); let v ← M.calm ((fun ρ => (do let xs ← (do let x ← M.lift (getS ρ 3); let xs ← (do let x ← M.lift (getS ρ 4); let xs ← pure []; pure (x :: xs)); pure (x :: xs)); callM 2 d_required_items xs)) ρ1); let ds ← M.lift (textsL v); pure (.nx (ρ.set 6 (.own ds))))) (fun ρ => seqM ((do if ← (do if ← (do let b ← (do let x ← (do let xs ← (do let x ← M.lift (getS ρ 6); let xs ← (do let x ← (do let xs ← (do let x ← (do let xs ← (do let x ← M.lift (getS ρ 3); let xs ← pure []; pure (x :: xs)); callM 1 d__law_by_name xs); let xs ← (do let x ← M.lift (getS ρ 4); let xs ← pure []; pure (x :: xs)); pure (x :: xs)); callM 2 d__law_required xs); let xs ← pure []; pure (x :: xs)); pure (x :: xs)); callM 2 (sameM 3) xs); M.lift (truD x)); pure (!b)) then pure true else (do let x ← M.lift (getS ρ 3); let y ← M.lift (getS ρ 5); let z ← M.lift (gNe x y); M.lift (asB z))) then ((do let x ← (fun ρ => pure (.d (PyData.bool false))) (ρ.map frzS); let y ← M.lift (plain x); pure (.rt y))) else (pure (.nx ρ)))) (fun ρ => seqM ((do let ds ← M.lift (ownL ρ 6); let y ← pure (.d (PyData.str "zzz")); let z ← M.lift (asD y); M.when (szOk (ds.length + 1)) (pure (.nx (ρ.set 6 (.own (ds ++ [z]))))))) (fun ρ => (do if ← (do let x ← pure (.d (PyData.str "zzz")); let y ← (do let xs ← (do let x ← M.lift (getS ρ 3); let xs ← (do let x ← M.lift (getS ρ 4); let xs ← pure []; pure (x :: xs)); pure (x :: xs)); callM 2 d_required_items xs); let z ← M.lift (gIn x y); M.lift (asB z)) then ((do let x ← (fun ρ => pure (.d (PyData.bool false))) (ρ.map frzS); let y ← M.lift (plain x); pure (.rt y))) else (pure (.nx ρ)))))))))) its ρ)) (fun ρ => (do let x ← (fun ρ => pure (.d (PyData.bool true))) (ρ.map frzS); let y ← M.lift (plain x); pure (.rt y)))
def d_law : List SD → M SD := defM 7 u_law
end
end Dd
/-! L00 -/
namespace Dd
open PySem PySem.Spec PyProof.Rows L2

/-! ### sizes -/

/-- at most n long -/
class Ln {α : Type} (n : outParam Nat) (xs : List α) : Prop where
  le : xs.length ≤ n

instance ln_nil {α : Type} : Ln 0 ([] : List α) := ⟨Nat.le_refl 0⟩

instance ln_cons {α : Type} {n : Nat} {x : α} {xs : List α} [h : Ln n xs] : Ln (n + 1) (x :: xs) := ⟨by have := h.le; simp only [List.length_cons]; omega⟩

instance ln_filter {α : Type} {n : Nat} {p : α → Bool} {xs : List α} [h : Ln n xs] : Ln n (xs.filter p) := ⟨Nat.le_trans (List.length_filter_le _ _) h.le⟩

instance ln_map {α β : Type} {n : Nat} {f : α → β} {xs : List α} [h : Ln n xs] : Ln n (xs.map f) := ⟨by rw [List.length_map]; exact h.le⟩

instance ln_app {α : Type} {n m : Nat} {xs ys : List α} [h : Ln n xs] [g : Ln m ys] : Ln (n + m) (xs ++ ys) := ⟨by have := h.le; have := g.le; rw [List.length_append]; omega⟩

instance ln_drop {α : Type} {n k : Nat} {xs : List α} [h : Ln n xs] : Ln n (xs.drop k) := ⟨by have := h.le; rw [List.length_drop]; omega⟩

instance ln_take {α : Type} {n k : Nat} {xs : List α} [h : Ln n xs] : Ln n (xs.take k) := ⟨by have := h.le; rw [List.length_take]; omega⟩

instance ln_sort {α : Type} {n : Nat} {le : α → α → Bool} {xs : List α} [h : Ln n xs] : Ln n (xs.mergeSort le) := ⟨by rw [List.length_mergeSort]; exact h.le⟩

instance ln_rev {α : Type} {n : Nat} {xs : List α} [h : Ln n xs] : Ln n xs.reverse := ⟨by rw [List.length_reverse]; exact h.le⟩

theorem ln_flat_le {α β : Type} {m : Nat} {f : α → List β} : ∀ {xs : List α}, (∀ x ∈ xs, (f x).length ≤ m) → (xs.flatMap f).length ≤ xs.length * m
  | [], _ => by simp
  | x :: r, h => by
    have h1 := h x List.mem_cons_self
    have h2 := ln_flat_le (f := f) (xs := r) fun y hy => h y (List.mem_cons_of_mem _ hy)
    rw [List.flatMap_cons, List.length_append, List.length_cons, Nat.succ_mul]
    omega

instance ln_flat {α β : Type} {n m : Nat} {f : α → List β} {xs : List α} [h : Ln n xs] [g : ∀ x, Ln m (f x)] : Ln (n * m) (xs.flatMap f) :=
  ⟨Nat.le_trans (ln_flat_le fun x _ => (g x).le) (Nat.mul_le_mul_right _ h.le)⟩

theorem szLn {α : Type} {n : Nat} (xs : List α) [h : Ln n xs] (hn : n ≤ 100000 := by decide) : szOk xs.length = true := decide_eq_true (Nat.le_trans h.le hn)

/-! ### more of what simp knows -/

@[simp] theorem sp_fail_bnd {α β : Type} (f : α → M β) : ((M.fail : M α) >>= f) = M.fail := rfl

@[simp] theorem sp_calm_fail {α : Type} : M.calm (M.fail : M α) = M.fail := rfl

@[simp] theorem sp_lift_none {α : Type} : (M.lift none : M α) = M.fail := rfl

@[simp] theorem sp_when_false {α : Type} (m : M α) : M.when false m = M.fail := rfl

@[simp] theorem sp_seq_fail (f : List SD → M Out) : seqM M.fail f = M.fail := rfl

@[simp] theorem sp_seq_bk (ρ : List SD) (f : List SD → M Out) : seqM (pure (.bk ρ)) f = pure (.bk ρ) := rfl

@[simp] theorem sp_seq_ct (ρ : List SD) (f : List SD → M Out) : seqM (pure (.ct ρ)) f = pure (.ct ρ) := rfl

@[simp] theorem sp_seq_if {c : Prop} [Decidable c] (a b : M Out) (f : List SD → M Out) : seqM (if c then a else b) f = if c then seqM a f else seqM b f := by split <;> rfl

theorem bnd_ite {α β : Type} {c : Prop} [Decidable c] (a b : M α) (f : α → M β) : ((if c then a else b) >>= f) = if c then a >>= f else b >>= f := by split <;> rfl

@[simp] theorem sp_calm_lift {α : Type} (o : Option α) : M.calm (M.lift o) = M.lift o := by cases o <;> rfl

@[simp] theorem sp_calm_if {α : Type} {c : Prop} [Decidable c] (a b : M α) : M.calm (if c then a else b) = if c then M.calm a else M.calm b := by split <;> rfl

@[simp] theorem sp_it_l (xs : List PyData) : itemsD (.d (.list xs)) = some (xs.map SD.d) := rfl

@[simp] theorem sp_it_t (xs : List PyData) : itemsD (.d (.tuple xs)) = some (xs.map SD.d) := rfl

@[simp] theorem sp_k_nm (i : Nat) (x : PyData) (ρ : List SD) : kOf (.nm i) (.d x) ρ = some (ρ.set i (.d x)) := rfl

@[simp] theorem sp_k_tp3 (i j l : Nat) (x y z : PyData) (ρ : List SD) : kOf (.tp [i, j, l]) (.d (.tuple [x, y, z])) ρ = some (((ρ.set i (.d x)).set j (.d y)).set l (.d z)) := rfl

@[simp] theorem sp_k_tp2 (i j : Nat) (x y : PyData) (ρ : List SD) : kOf (.tp [i, j]) (.d (.tuple [x, y])) ρ = some ((ρ.set i (.d x)).set j (.d y)) := rfl

@[simp] theorem sp_for_nil (tg : Tg) (U : List SD → M Out) (ρ : List SD) : forM tg U [] ρ = pure (.nx ρ) := rfl

theorem sp_for_cons (tg : Tg) (U : List SD → M Out) (x : SD) (r ρ : List SD) : forM tg U (x :: r) ρ = (M.lift (kOf tg x ρ) >>= fun ρ1 => U ρ1 >>= fun o => match o with
    | .nx ρ2 => forM tg U r ρ2
    | .ct ρ2 => forM tg U r ρ2
    | .bk ρ2 => pure (.nx ρ2)
    | .rt y => pure (.rt y)) := rfl

@[simp] theorem sp_wipe0 (ρ : List SD) : wipeD ρ [] = ρ := rfl

@[simp] theorem sp_wipe1 (ρ : List SD) (v : Nat) (vs : List Nat) : wipeD ρ (v :: vs) = (wipeD ρ vs).set v .no := rfl

@[simp] theorem sz0 : szOk 0 = true := rfl

@[simp] theorem sz1 : szOk 1 = true := rfl

@[simp] theorem sz2 : szOk 2 = true := rfl

@[simp] theorem sz3 : szOk 3 = true := rfl

@[simp] theorem sz4 : szOk 4 = true := rfl

@[simp] theorem sz5 : szOk 5 = true := rfl

@[simp] theorem sz6 : szOk 6 = true := rfl

@[simp] theorem sz7 : szOk 7 = true := rfl

@[simp] theorem gTup1 (a : PyData) : gTup [.d a] = some (.d (.tuple [a])) := rfl

@[simp] theorem gTup2 (a b : PyData) : gTup [.d a, .d b] = some (.d (.tuple [a, b])) := rfl

@[simp] theorem gTup3 (a b c : PyData) : gTup [.d a, .d b, .d c] = some (.d (.tuple [a, b, c])) := rfl

@[simp] theorem gTup4 (a b c d : PyData) : gTup [.d a, .d b, .d c, .d d] = some (.d (.tuple [a, b, c, d])) := rfl

@[simp] theorem gTup5 (a b c d e : PyData) : gTup [.d a, .d b, .d c, .d d, .d e] = some (.d (.tuple [a, b, c, d, e])) := rfl

@[simp] theorem gTup6 (a b c d e f : PyData) : gTup [.d a, .d b, .d c, .d d, .d e, .d f] = some (.d (.tuple [a, b, c, d, e, f])) := rfl

@[simp] theorem gLst0 : gLst [] = some (.d (.list [])) := rfl

@[simp] theorem gLst1 (a : PyData) : gLst [.d a] = some (.d (.list [a])) := rfl

@[simp] theorem gLst2 (a b : PyData) : gLst [.d a, .d b] = some (.d (.list [a, b])) := rfl

@[simp] theorem gLst3 (a b c : PyData) : gLst [.d a, .d b, .d c] = some (.d (.list [a, b, c])) := rfl

@[simp] theorem gLst7 (a b c d e f g : PyData) : gLst [.d a, .d b, .d c, .d d, .d e, .d f, .d g] = some (.d (.list [a, b, c, d, e, f, g])) := rfl

@[simp] theorem sp_isN : gIsNot (.d .none) (.d .none) = some (dB false) := rfl

/-! ### comprehensions over what is made of typed things -/

def lcF {α : Type} (B : α → M Bool) (T : α → M SD) : List α → List PyData → M (List PyData)
  | [], acc => pure acc
  | x :: r, acc => do
    let b ← B x
    if b then do
      let y ← T x
      let d ← M.lift (asD y)
      M.when (szOk (acc.length + 1)) (lcF B T r (acc ++ [d]))
    else lcF B T r acc

theorem lcM_map {α : Type} {tg : Tg} {B : List SD → M Bool} {T : List SD → M SD} {ρ : List SD} (g : α → SD) : ∀ (xs : List α) (acc : List PyData),
    lcM tg B T ρ (xs.map g) acc = lcF (fun x => M.lift (kOf tg (g x) ρ) >>= fun ρ1 => M.calm (B ρ1)) (fun x => M.lift (kOf tg (g x) ρ) >>= fun ρ1 => M.calm (T ρ1)) xs acc
  | [], acc => rfl
  | x :: r, acc => by
    have ih := lcM_map (tg := tg) (B := B) (T := T) (ρ := ρ) g r
    show (M.lift (kOf tg (g x) ρ) >>= fun ρ1 => M.calm (B ρ1) >>= fun b => if b = true then (M.calm (T ρ1) >>= fun y => M.lift (asD y) >>= fun d => M.when (szOk (acc.length + 1)) (lcM tg B T ρ (r.map g) (acc ++ [d]))) else lcM tg B T ρ (r.map g) acc) =
      ((M.lift (kOf tg (g x) ρ) >>= fun ρ1 => M.calm (B ρ1)) >>= fun b => if b = true then ((M.lift (kOf tg (g x) ρ) >>= fun ρ1 => M.calm (T ρ1)) >>= fun y => M.lift (asD y) >>= fun d => M.when (szOk (acc.length + 1)) (lcF _ _ r (acc ++ [d]))) else lcF _ _ r acc)
    cases e : kOf tg (g x) ρ with
    | none => rfl
    | some ρ1 => simp only [ih, e, sp_lift_some, sp_pure_bnd]

theorem lcF_pure {α : Type} {b : α → Bool} {f : α → PyData} : ∀ {xs : List α} {acc : List PyData}, acc.length + xs.length ≤ 100000 → lcF (fun x => pure (b x)) (fun x => pure (.d (f x))) xs acc = pure (acc ++ (xs.filter b).map f)
  | [], acc, _ => by rw [List.filter_nil, List.map_nil, List.append_nil]; rfl
  | x :: r, acc, h => by
    rw [List.length_cons] at h
    show (if b x = true then M.when (szOk (acc.length + 1)) (lcF _ _ r (acc ++ [f x])) else lcF _ _ r acc) = _
    cases e : b x with
    | true => rw [if_pos rfl, when_of _ (show szOk (acc.length + 1) = true from decide_eq_true (by omega)), lcF_pure (by simp; omega), List.filter_cons_of_pos e, List.map_cons, List.append_assoc]; rfl
    | false => rw [if_neg (by decide), lcF_pure (by omega), List.filter_cons_of_neg (by simp [e])]

@[simp] theorem sp_lcF {α : Type} {n : Nat} {b : α → Bool} {f : α → PyData} {xs : List α} [h : Ln n xs] (hn : n ≤ 100000 := by decide) : lcF (fun x => pure (b x)) (fun x => pure (.d (f x))) xs [] = pure ((xs.filter b).map f) := by
  rw [lcF_pure (by have := h.le; simp; omega), List.nil_append]

@[simp] theorem sp_lcT {α : Type} {n : Nat} {f : α → PyData} {xs : List α} [h : Ln n xs] (hn : n ≤ 100000 := by decide) : lcF (fun _ => pure true) (fun x => pure (.d (f x))) xs [] = pure (xs.map f) := by
  rw [sp_lcF (b := fun _ => true) (n := n) hn, List.filter_eq_self.mpr (fun _ _ => rfl)]

theorem lcF_congr {α : Type} {B B' : α → M Bool} {T T' : α → M SD} : ∀ {xs : List α} {acc : List PyData}, (∀ x ∈ xs, B x = B' x) → (∀ x ∈ xs, T x = T' x) → lcF B T xs acc = lcF B' T' xs acc
  | [], _, _, _ => rfl
  | x :: r, acc, h, g => by
    have ih := fun acc' => lcF_congr (B := B) (B' := B') (T := T) (T' := T') (xs := r) (acc := acc') (fun y hy => h y (List.mem_cons_of_mem _ hy)) (fun y hy => g y (List.mem_cons_of_mem _ hy))
    unfold lcF
    rw [h x List.mem_cons_self, g x List.mem_cons_self]
    simp only [ih]

@[simp] theorem lcF_map {α β : Type} {B : β → M Bool} {T : β → M SD} (f : α → β) : ∀ (xs : List α) (acc : List PyData), lcF B T (xs.map f) acc = lcF (fun x => B (f x)) (fun x => T (f x)) xs acc
  | [], acc => rfl
  | x :: r, acc => by
    rw [List.map_cons]
    unfold lcF
    simp only [lcF_map f r]

def lcF2 {α : Type} (B : α → M Bool) (T : α → List PyData → M (List PyData)) : List α → List PyData → M (List PyData)
  | [], acc => pure acc
  | x :: r, acc => do
    let b ← B x
    if b then do
      let acc' ← T x acc
      lcF2 B T r acc'
    else lcF2 B T r acc

theorem lcM2_map {α : Type} {tg tg1 : Tg} {B : List SD → M Bool} {Ti1 : List SD → M (List SD)} {B1 : List SD → M Bool} {T : List SD → M SD} {vs1 : List Nat} {ρ : List SD} (g : α → SD) : ∀ (xs : List α) (acc : List PyData),
    lcM2 tg tg1 B Ti1 B1 T vs1 ρ (xs.map g) acc = lcF2 (fun x => M.lift (kOf tg (g x) ρ) >>= fun ρ1 => M.calm (B ρ1)) (fun x acc => M.lift (kOf tg (g x) ρ) >>= fun ρ1 => M.calm (Ti1 ρ1) >>= fun its => lcM tg1 B1 T (wipeD ρ1 vs1) its acc) xs acc
  | [], acc => rfl
  | x :: r, acc => by
    have ih := lcM2_map (tg := tg) (tg1 := tg1) (B := B) (Ti1 := Ti1) (B1 := B1) (T := T) (vs1 := vs1) (ρ := ρ) g r
    show (M.lift (kOf tg (g x) ρ) >>= fun ρ1 => M.calm (B ρ1) >>= fun b => if b = true then (M.calm (Ti1 ρ1) >>= fun its => lcM tg1 B1 T (wipeD ρ1 vs1) its acc >>= fun acc' => lcM2 tg tg1 B Ti1 B1 T vs1 ρ (r.map g) acc') else lcM2 tg tg1 B Ti1 B1 T vs1 ρ (r.map g) acc) =
      ((M.lift (kOf tg (g x) ρ) >>= fun ρ1 => M.calm (B ρ1)) >>= fun b => if b = true then ((M.lift (kOf tg (g x) ρ) >>= fun ρ1 => M.calm (Ti1 ρ1) >>= fun its => lcM tg1 B1 T (wipeD ρ1 vs1) its acc) >>= fun acc' => lcF2 _ _ r acc') else lcF2 _ _ r acc)
    cases e : kOf tg (g x) ρ with
    | none => rfl
    | some ρ1 => simp only [ih, e, sp_lift_some, sp_pure_bnd, sp_bnd_assoc]

theorem lcF2_pure {α : Type} {m : Nat} {b : α → Bool} {f : α → List PyData} : ∀ {xs : List α} {acc : List PyData} {T : α → List PyData → M (List PyData)}, (∀ x acc, acc.length + m ≤ 100000 → T x acc = pure (acc ++ f x)) → (∀ x, (f x).length ≤ m) → acc.length + (xs.length + 1) * m ≤ 100000 → lcF2 (fun x => pure (b x)) T xs acc = pure (acc ++ (xs.filter b).flatMap f)
  | [], acc, T, _, _, _ => by rw [List.filter_nil, List.flatMap_nil, List.append_nil]; rfl
  | x :: r, acc, T, h, hm, hl => by
    rw [List.length_cons, Nat.succ_mul, Nat.succ_mul] at hl
    show (if b x = true then (T x acc >>= fun acc' => lcF2 _ T r acc') else lcF2 _ T r acc) = _
    cases e : b x with
    | true =>
      have := hm x
      rw [if_pos rfl, h x acc (by omega), sp_pure_bnd, lcF2_pure h hm (by rw [List.length_append, Nat.succ_mul]; omega), List.filter_cons_of_pos e, List.flatMap_cons, List.append_assoc]
    | false => rw [if_neg (by decide), lcF2_pure h hm (by rw [Nat.succ_mul]; omega), List.filter_cons_of_neg (by simp [e])]

@[simp] theorem sp_lcF2 {α β : Type} {n m : Nat} {b : α → Bool} {b1 : α → β → Bool} {g : α → List β} {f : α → β → PyData} {xs : List α} [h : Ln n xs] [h1 : ∀ x, Ln m (g x)] (hn : (n + 1) * m ≤ 100000 := by decide) :
    lcF2 (fun x => pure (b x)) (fun x acc => lcF (fun y => pure (b1 x y)) (fun y => pure (.d (f x y))) (g x) acc) xs [] = pure ((xs.filter b).flatMap fun x => ((g x).filter (b1 x)).map (f x)) := by
  rw [lcF2_pure (m := m) (f := fun x => ((g x).filter (b1 x)).map (f x)), List.nil_append]
  · intro x acc hl
    rw [lcF_pure (by have := (h1 x).le; omega)]
  · intro x
    rw [List.length_map]
    exact Nat.le_trans (List.length_filter_le _ _) (h1 x).le
  · have := Nat.mul_le_mul_right m (Nat.succ_le_succ h.le)
    rw [List.length_nil]
    simp only [Nat.succ_eq_add_one] at this
    omega

@[simp] theorem sp_lcF2T {α β : Type} {n m : Nat} {b : α → Bool} {g : α → List β} {f : α → β → PyData} {xs : List α} [h : Ln n xs] [h1 : ∀ x, Ln m (g x)] (hn : (n + 1) * m ≤ 100000 := by decide) :
    lcF2 (fun x => pure (b x)) (fun x acc => lcF (fun y => pure true) (fun y => pure (.d (f x y))) (g x) acc) xs [] = pure ((xs.filter b).flatMap fun x => (g x).map (f x)) := by
  have e := sp_lcF2 (b := b) (b1 := fun _ _ => true) (g := g) (f := f) (xs := xs) (n := n) (m := m) hn
  rw [e]
  refine congrArg pure (congrArg (fun h => List.flatMap h (xs.filter b)) (funext fun x => ?_))
  rw [List.filter_eq_self.mpr (fun _ _ => rfl)]

@[simp] theorem filter_tt {α : Type} (xs : List α) : xs.filter (fun _ => true) = xs := List.filter_eq_self.mpr fun _ _ => rfl

/-! ### all, any, sum -/

theorem bools_map {α : Type} (f : α → Bool) : ∀ xs : List α, bools (xs.map fun x => PyData.bool (f x)) = some (xs.map f)
  | [] => rfl
  | x :: r => by rw [List.map_cons, List.map_cons]; show (bools (r.map _)).map _ = _; rw [bools_map f r]; rfl

@[simp] theorem sp_all {α : Type} (f : α → Bool) (xs : List α) : bAll [.d (.list (xs.map fun x => .bool (f x)))] = pure (dB (xs.all f)) := by
  show (M.lift (bools _) >>= _) = _
  rw [bools_map, lift_some, pure_bnd]
  simp [List.all_map]
  rfl

@[simp] theorem sp_any {α : Type} (f : α → Bool) (xs : List α) : bAny [.d (.list (xs.map fun x => .bool (f x)))] = pure (dB (xs.any f)) := by
  show (M.lift (bools _) >>= _) = _
  rw [bools_map, lift_some, pure_bnd]
  simp [List.any_map]
  rfl

@[simp] theorem sp_all0 : bAll [.d (.list [])] = pure (dB true) := rfl

@[simp] theorem sp_any0 : bAny [.d (.list [])] = pure (dB false) := rfl

theorem intsD_map {α : Type} (f : α → Int) : ∀ xs : List α, intsD (xs.map fun x => PyData.int (f x)) = some (xs.map f)
  | [] => rfl
  | x :: r => by rw [List.map_cons, List.map_cons]; show (intsD (r.map _)).map _ = _; rw [intsD_map f r]; rfl

@[simp] theorem sp_sum {α : Type} (f : α → Int) (xs : List α) : bSum [.d (.list (xs.map fun x => .int (f x)))] = pure (dI (xs.map f).sum) := by
  show (M.lift (intsD _) >>= _) = _
  rw [intsD_map, lift_some, pure_bnd]

end Dd
/-! L01 -/
namespace Dd
open PySem PySem.Spec PyProof.Rows L2

/-! ### fractions -/

/-- a reduced fraction of no great size -/
def GF (k : Nat) (p : Fr) : Prop := p.1.natAbs < 2 ^ k ∧ p.2.natAbs < 2 ^ k ∧ 0 < p.2 ∧ isFr p = true

theorem GF.up {k m : Nat} {p : Fr} (h : GF k p) (hk : k ≤ m) : GF m p := ⟨Nat.lt_of_lt_of_le h.1 (Nat.pow_le_pow_right (by decide) hk), Nat.lt_of_lt_of_le h.2.1 (Nat.pow_le_pow_right (by decide) hk), h.2.2⟩

structure Fq where
  p : Fr
  ok : GF 1000 p

theorem Fq.ext {a b : Fq} (h : a.p = b.p) : a = b := by cases a; cases b; cases h; rfl

instance : DecidableEq Fq := fun a b => if h : a.p = b.p then isTrue (Fq.ext h) else isFalse fun e => h (e ▸ rfl)

theorem Fq.pos (a : Fq) : 0 < a.p.2 := a.ok.2.2.1

theorem Fq.cop (a : Fq) : Int.gcd a.p.1 a.p.2 = 1 := of_decide_eq_true (Bool.and_eq_true_iff.mp a.ok.2.2.2).2

/-- its worth -/
def R (a : Fq) : Rat where
  num := a.p.1
  den := a.p.2.toNat
  den_nz := by have := a.pos; omega
  reduced := by
    have h := a.cop
    have h2 : a.p.2.toNat = a.p.2.natAbs := by have := a.pos; omega
    rw [h2]
    exact h

theorem R_inj {a b : Fq} (h : R a = R b) : a = b := by
  have h1 : a.p.1 = b.p.1 := congrArg Rat.num h
  have h2 : a.p.2.toNat = b.p.2.toNat := congrArg Rat.den h
  have := a.pos
  have := b.pos
  exact Fq.ext (Prod.ext h1 (by omega))

theorem R_eq {a b : Fq} : R a = R b ↔ a = b := ⟨R_inj, fun h => h ▸ rfl⟩

theorem less_R (a b : Fq) : lessF a.p b.p = decide (R a < R b) := by
  unfold lessF
  refine decide_eq_decide.mpr ?_
  rw [Rat.lt_iff]
  have h1 : ((R b).den : Int) = b.p.2 := by show (b.p.2.toNat : Int) = _; have := b.pos; omega
  have h2 : ((R a).den : Int) = a.p.2 := by show (a.p.2.toNat : Int) = _; have := a.pos; omega
  rw [h1, h2]
  exact Iff.rfl

def fq (a : Fq) : PyData := fr a.p

@[simp] theorem ixq0 (a : Fq) : gIx (.d (fq a)) (.d (.int 0)) = some (dI a.p.1) := rfl

@[simp] theorem ixq1 (a : Fq) : gIx (.d (fq a)) (.d (.int 1)) = some (dI a.p.2) := sp_ixF1 a.p

theorem sm_q (a : Fq) : SmI a.p.1 ∧ SmI a.p.2 := ⟨Nat.lt_of_lt_of_le a.ok.1 (Nat.pow_le_pow_right (by decide) (by decide)), Nat.lt_of_lt_of_le a.ok.2.1 (Nat.pow_le_pow_right (by decide) (by decide))⟩

@[simp] theorem mulq (a b : Fq) : gMul (.d (.int a.p.1)) (.d (.int b.p.2)) = some (dI (a.p.1 * b.p.2)) := mul_ok (sm_q a).1 (sm_q b).2 (by decide)

theorem cross_R (a b : Fq) : decide (a.p.1 * b.p.2 < b.p.1 * a.p.2) = decide (R a < R b) := less_R a b

theorem lay_q (a : Fq) : (fq a).canLay0 = true := rfl

theorem depth_q (a : Fq) : (fq a).depth = 1 := by simp [fq, fr, PyData.depth, PyData.depthAll]

theorem shaped_q (a : Fq) : SeqAt.shaped (fq a) = true := by
  show ((fq a).canLay0 && decide ((fq a).depth ≤ 64)) = true
  rw [lay_q, depth_q]
  rfl

theorem eqv_q (a b : Fq) : PyData.eqv (fq a) (fq b) = decide (a = b) := by
  have e : PyData.eqv (fq a) (fq b) = (a.p.1 == b.p.1 && (a.p.2 == b.p.2 && true)) := rfl
  rw [e, Bool.eq_iff_iff]
  simp only [Bool.and_true, Bool.and_eq_true, beq_iff_eq, decide_eq_true_eq]
  exact ⟨fun h => Fq.ext (Prod.ext h.1 h.2), fun h => h ▸ ⟨rfl, rfl⟩⟩

@[simp] theorem eqq (a b : Fq) : gEq (.d (fq a)) (.d (fq b)) = some (dB (decide (a = b))) := by
  show (if (SeqAt.shaped (fq a) && SeqAt.shaped (fq b)) = true then some (dB (PyData.eqv (fq a) (fq b))) else none) = _
  rw [shaped_q, shaped_q, eqv_q]
  rfl

@[simp] theorem neq (a b : Fq) : gNe (.d (fq a)) (.d (fq b)) = some (dB (!decide (a = b))) := by
  show (if (SeqAt.shaped (fq a) && SeqAt.shaped (fq b)) = true then some (dB (!PyData.eqv (fq a) (fq b))) else none) = _
  rw [shaped_q, shaped_q, eqv_q]
  rfl

theorem d_less_eq (a b : Fq) : d_less [.d (fq a), .d (fq b)] = pure (dB (decide (R a < R b))) := by
  simp [d_less, u_less, cross_R]

theorem d__law_less_eq (a b : Fq) : d__law_less [.d (fq a), .d (fq b)] = pure (dB (decide (R a < R b))) := by
  simp [d__law_less, u__law_less, cross_R]

theorem d_at_most_eq (a b : Fq) : d_at_most [.d (fq a), .d (fq b)] = pure (dB (!decide (R b < R a))) := by
  simp [d_at_most, u_at_most, d_less_eq]

theorem d__law_at_most_eq (a b : Fq) : d__law_at_most [.d (fq a), .d (fq b)] = pure (dB (!decide (R b < R a))) := by
  simp [d__law_at_most, u__law_at_most, d__law_less_eq]

theorem isFr_neg {p : Fr} (h : isFr p = true) : isFr (-p.1, p.2) = true := by
  unfold isFr at h ⊢
  rw [Int.neg_gcd]
  exact h

/-- the other sign -/
def negq (a : Fq) : Fq := ⟨(-a.p.1, a.p.2), by have := a.ok.1; show (-a.p.1).natAbs < _; rw [Int.natAbs_neg]; exact this, a.ok.2.1, a.ok.2.2.1, isFr_neg a.ok.2.2.2⟩

theorem R_neg (a : Fq) : R (negq a) = - R a := Rat.ext rfl rfl

theorem negq_neg (a : Fq) : negq (negq a) = a := Fq.ext (by show (- -a.p.1, a.p.2) = a.p; rw [Int.neg_neg])

theorem negq_inj {a b : Fq} : negq a = negq b ↔ a = b := ⟨fun h => by rw [← negq_neg a, h, negq_neg], fun h => h ▸ rfl⟩

theorem d_negated_eq (a : Fq) : d_negated [.d (fq a)] = pure (.d (fq (negq a))) := by
  simp [d_negated, u_negated]
  rfl

/-! ### names -/

def nmOk (x : Str) : Bool := decide (1 ≤ x.length) && decide (x.length ≤ 6) && x.cps.toList.all fun c => decide (97 ≤ c) && decide (c ≤ 122)

structure Nm where
  s : Str
  ok : nmOk s = true

theorem Nm.ext {a b : Nm} (h : a.s = b.s) : a = b := by cases a; cases b; cases h; rfl

instance : DecidableEq Nm := fun a b => if h : a.s = b.s then isTrue (Nm.ext h) else isFalse fun e => h (e ▸ rfl)

instance : LT Nm := ⟨fun a b => a.s.cps.toList < b.s.cps.toList⟩

instance (a b : Nm) : Decidable (a < b) := inferInstanceAs (Decidable (a.s.cps.toList < b.s.cps.toList))

theorem nm_irrefl (a : Nm) : ¬ a < a := List.lt_irrefl a.s.cps.toList

theorem nm_trans {a b c : Nm} (h : a < b) (g : b < c) : a < c := List.lt_trans h g

theorem nm_asymm {a b : Nm} (h : a < b) : ¬ b < a := List.lt_asymm h

theorem nm_tri {a b : Nm} (h : ¬ a < b) (g : ¬ b < a) : a = b := by
  have e := List.le_antisymm (List.not_lt.mp g) (List.not_lt.mp h)
  refine Nm.ext ?_
  have : a.s.cps = b.s.cps := Array.toList_inj.mp e
  cases ha : a.s
  cases hb : b.s
  rw [ha, hb] at this
  cases this
  rfl

theorem str_ext {a b : Str} (h : a.cps.toList = b.cps.toList) : a = b := by
  have : a.cps = b.cps := Array.toList_inj.mp h
  cases a; cases b; cases this; rfl

abbrev nS (a : Nm) : PyData := .str a.s

theorem Nm.len (a : Nm) : 1 ≤ a.s.length ∧ a.s.length ≤ 6 := by
  have h := a.ok
  unfold nmOk at h
  simp only [Bool.and_eq_true, decide_eq_true_eq] at h
  exact h.1

theorem Nm.lay (a : Nm) : PyData.canLay0 (.str a.s) = true := by
  have h := a.ok
  unfold nmOk at h
  simp only [Bool.and_eq_true, List.all_eq_true] at h
  have h2 := h.2
  show a.s.cps.all (· < 0x110000) = true
  rw [← Array.all_toList, List.all_eq_true]
  intro c hc
  have := h2 c hc
  simp only [decide_eq_true_eq] at this ⊢
  omega

theorem shaped_n (a : Nm) : SeqAt.shaped (nS a) = true := by
  show (PyData.canLay0 (.str a.s) && decide (PyData.depth (.str a.s) ≤ 64)) = true
  rw [a.lay]
  rfl

theorem eqv_str (a b : Str) : PyData.eqv (.str a) (.str b) = decide (a = b) := by
  show (a == b) = _
  rw [Bool.eq_iff_iff]
  simp

theorem eqv_n (a b : Nm) : PyData.eqv (nS a) (nS b) = decide (a = b) := by
  rw [eqv_str]
  exact decide_eq_decide.mpr ⟨Nm.ext, fun h => h ▸ rfl⟩

@[simp] theorem eqn (a b : Nm) : gEq (.d (.str a.s)) (.d (.str b.s)) = some (dB (decide (a = b))) := by
  show (if (SeqAt.shaped (nS a) && SeqAt.shaped (nS b)) = true then some (dB (PyData.eqv (nS a) (nS b))) else none) = _
  rw [shaped_n, shaped_n, eqv_n]
  rfl

@[simp] theorem nen (a b : Nm) : gNe (.d (.str a.s)) (.d (.str b.s)) = some (dB (!decide (a = b))) := by
  show (if (SeqAt.shaped (nS a) && SeqAt.shaped (nS b)) = true then some (dB (!PyData.eqv (nS a) (nS b))) else none) = _
  rw [shaped_n, shaped_n, eqv_n]
  rfl

theorem inD_n (a : Nm) : ∀ ns : List Nm, inD (nS a) (ns.map nS) = decide (a ∈ ns)
  | [] => rfl
  | b :: r => by
    show (PyData.eqv (nS b) (nS a) || inD (nS a) (r.map nS)) = _
    rw [eqv_n, inD_n a r, Bool.eq_iff_iff, Bool.or_eq_true, decide_eq_true_eq, decide_eq_true_eq, decide_eq_true_eq, List.mem_cons]
    exact or_congr_left ⟨Eq.symm, Eq.symm⟩

theorem flat_n : ∀ ns : List Nm, (ns.map nS).all flatD = true
  | [] => rfl
  | _ :: r => flat_n r

@[simp] theorem inN (a : Nm) (ns : List Nm) : gIn (.d (.str a.s)) (.d (.list (ns.map nS))) = some (dB (decide (a ∈ ns))) := by
  show (if (flatD (nS a) && (ns.map nS).all flatD) = true then some (dB (inD (nS a) (ns.map nS))) else _) = _
  rw [flat_n, inD_n]
  rfl

@[simp] theorem inNT (a : Nm) (ns : List Nm) : gIn (.d (.str a.s)) (.d (.tuple (ns.map nS))) = some (dB (decide (a ∈ ns))) := by
  show (if (flatD (nS a) && (ns.map nS).all flatD) = true then some (dB (inD (nS a) (ns.map nS))) else _) = _
  rw [flat_n, inD_n]
  rfl

@[simp] theorem notInN (a : Nm) (ns : List Nm) : gNotIn (.d (.str a.s)) (.d (.list (ns.map nS))) = some (dB (!decide (a ∈ ns))) := by
  show (if (flatD (nS a) && (ns.map nS).all flatD) = true then some (dB (!inD (nS a) (ns.map nS))) else _) = _
  rw [flat_n, inD_n]
  rfl

@[simp] theorem inNT1 (a b : Nm) : gIn (.d (.str a.s)) (.d (.tuple [.str b.s])) = some (dB (decide (a = b))) := by
  have := inNT a [b]
  simpa using this

@[simp] theorem inNT2 (a b c : Nm) : gIn (.d (.str a.s)) (.d (.tuple [.str b.s, .str c.s])) = some (dB (decide (a = b ∨ a = c))) := by
  have := inNT a [b, c]
  simpa using this

/-! ### rows -/

structure Row where
  nm : Nm
  lo : Fq
  hi : Fq
  le : R lo ≤ R hi

theorem Row.ext {a b : Row} (h : a.nm = b.nm) (g : a.lo = b.lo) (l : a.hi = b.hi) : a = b := by cases a; cases b; cases h; cases g; cases l; rfl

instance : DecidableEq Row := fun a b => if h : a.nm = b.nm ∧ a.lo = b.lo ∧ a.hi = b.hi then isTrue (Row.ext h.1 h.2.1 h.2.2) else isFalse fun e => h (e ▸ ⟨rfl, rfl, rfl⟩)

def rw' (r : Row) : PyData := .tuple [nS r.nm, fq r.lo, fq r.hi]

@[simp] theorem ixr0 (r : Row) : gIx (.d (rw' r)) (.d (.int 0)) = some (.d (.str r.nm.s)) := by simp [rw']

@[simp] theorem ixr1 (r : Row) : gIx (.d (rw' r)) (.d (.int 1)) = some (.d (fq r.lo)) := by simp [rw']

@[simp] theorem ixr2 (r : Row) : gIx (.d (rw' r)) (.d (.int 2)) = some (.d (fq r.hi)) := by simp [rw']

@[simp] theorem kr3 (i j l : Nat) (r : Row) (ρ : List SD) : kOf (.tp [i, j, l]) (.d (rw' r)) ρ = some (((ρ.set i (.d (.str r.nm.s))).set j (.d (fq r.lo))).set l (.d (fq r.hi))) := rfl

theorem rw_mk (n : Nm) (a b : Fq) (h : R a ≤ R b) : PyData.tuple [.str n.s, fq a, fq b] = rw' ⟨n, a, b, h⟩ := rfl

end Dd
/-! L02 -/
namespace Dd
open PySem PySem.Spec PyProof.Rows L2

theorem enum_map {α : Type} (enc : α → PyData) (xs : List α) : enumS (.d (.list (xs.map enc))) = some (xs.zipIdx.map fun p => .d (.tuple [.int (p.2 : Int), enc p.1])) := by
  show some (enumD (xs.map enc)) = _
  refine congrArg some (List.ext_getElem? fun i => ?_)
  unfold enumD
  rw [List.length_map, List.getElem?_map, List.getElem?_map, List.getElem?_zipIdx]
  by_cases h : i < xs.length
  · rw [List.getElem?_range h, List.getElem?_eq_getElem h]
    simp [pairD, h]
  · rw [List.getElem?_eq_none (by rw [List.length_range]; omega), List.getElem?_eq_none (by omega)]
    rfl

theorem cut_from {α : Type} (xs : List α) (k : Nat) : cutD xs (some (k : Int)) none = xs.drop k := by
  unfold cutD
  rw [HT.sIx_nat, HT.sIx_none]
  by_cases h : k ≤ xs.length
  · rw [Nat.min_eq_left h, List.take_of_length_le (by rw [List.length_drop]; omega)]
  · rw [Nat.min_eq_right (by omega), List.drop_of_length_le (by omega), List.drop_of_length_le (by omega), List.take_nil]

@[simp] theorem sl_from {α : Type} (enc : α → PyData) (xs : List α) (k : Nat) : gSl (.d (.list (xs.map enc))) (some ((k : Int) + 1)) none = some (.d (.list ((xs.drop (k + 1)).map enc))) := by
  show some (SD.d (.list (cutD (xs.map enc) (some (((k + 1 : Nat) : Nat) : Int)) none))) = _
  rw [cut_from, List.map_drop]

theorem cut_to {α : Type} (xs : List α) (k : Nat) : cutD xs none (some (k : Int)) = xs.take k := by
  unfold cutD
  rw [HT.sIx_nat, HT.sIx_none, List.drop_zero, Nat.sub_zero]
  by_cases h : k ≤ xs.length
  · rw [Nat.min_eq_left h]
  · rw [Nat.min_eq_right (by omega), List.take_of_length_le (by omega), List.take_of_length_le (by omega)]

instance ln_zip {α : Type} {n k : Nat} {xs : List α} [h : Ln n xs] : Ln n (xs.zipIdx k) := ⟨by rw [List.length_zipIdx]; exact h.le⟩

/-- every two, in order -/
def prs {α : Type} : List α → List (α × α)
  | [] => []
  | x :: r => r.map (fun y => (x, y)) ++ prs r

theorem zip_prs {α β : Type} (f : α → α → β) (all : List α) : ∀ (xs : List α) (k : Nat), all.drop k = xs → ((xs.zipIdx k).flatMap fun p => (all.drop (p.2 + 1)).map (f p.1)) = (prs xs).map fun p => f p.1 p.2
  | [], _, _ => rfl
  | x :: r, k, h => by
    have h1 : all.drop (k + 1) = r := by rw [← List.tail_drop, h]; rfl
    rw [List.zipIdx_cons, List.flatMap_cons, zip_prs f all r (k + 1) h1, prs, List.map_append, List.map_map]
    congr 1
    simp only [h1]
    rfl

theorem mem_prs {α : Type} {p : α × α} : ∀ {xs : List α}, p ∈ prs xs → p.1 ∈ xs ∧ p.2 ∈ xs
  | x :: r, h => by
    rw [prs, List.mem_append] at h
    rcases h with h | h
    · obtain ⟨y, hy, rfl⟩ := List.mem_map.mp h
      exact ⟨List.mem_cons_self, List.mem_cons_of_mem _ hy⟩
    · obtain ⟨a, b⟩ := mem_prs h
      exact ⟨List.mem_cons_of_mem _ a, List.mem_cons_of_mem _ b⟩

theorem prs_all {α : Type} {f : α × α → Bool} : ∀ {xs : List α}, (prs xs).all f = true ↔ xs.Pairwise fun a b => f (a, b) = true
  | [] => by simp [prs]
  | x :: r => by
    rw [prs, List.all_append, Bool.and_eq_true, prs_all, List.pairwise_cons]
    simp

theorem ln_prs_le {α : Type} : ∀ (xs : List α) (n : Nat), xs.length ≤ n → (prs xs).length ≤ xs.length * n
  | [], n, _ => by simp [prs]
  | x :: r, n, h => by
    rw [List.length_cons] at h
    have := ln_prs_le r n (by omega)
    rw [prs, List.length_append, List.length_map, List.length_cons, Nat.succ_mul]
    omega

instance ln_prs {α : Type} {n : Nat} {xs : List α} [h : Ln n xs] : Ln (n * n) (prs xs) := ⟨Nat.le_trans (ln_prs_le xs n h.le) (Nat.mul_le_mul_right n h.le)⟩

theorem d_lies_inside_eq (v : Fq) (r : Row) : d_lies_inside [.d (fq v), .d (rw' r)] = pure (dB (decide (R r.lo < R v) && decide (R v < R r.hi))) := by
  by_cases h : R r.lo < R v <;> simp [d_lies_inside, u_lies_inside, d_less_eq, h]

theorem d_is_known_eq (r : Row) : d_is_known [.d (rw' r)] = pure (dB (decide (r.lo = r.hi))) := by
  simp [d_is_known, u_is_known]

def sepd (a b : Row) : Bool := !decide (R b.lo < R a.hi) || !decide (R a.lo < R b.hi)

/-- the row with all values negated -/
def mirr (r : Row) : Row := ⟨r.nm, negq r.hi, negq r.lo, by rw [R_neg, R_neg]; exact Rat.neg_le_neg r.le⟩

theorem d_mirrored_eq (r : Row) : d_mirrored [.d (rw' r)] = pure (.d (rw' (mirr r))) := by
  simp [d_mirrored, u_mirrored, d_negated_eq]
  rfl

theorem d_item_names_eq {n : Nat} (rs : List Row) [Ln n rs] (hn : n ≤ 100000 := by decide) : d_item_names [.d (.list (rs.map rw'))] = pure (.d (.list (rs.map fun r => nS r.nm))) := by
  simp [d_item_names, u_item_names, lcM_map]
  rw [sp_lcT (n := n) hn]
  rfl

/-- is a minimum whatever the values are -/
def least (r : Row) (rs : List Row) : Bool := (rs.filter fun o => !decide (o.nm = r.nm)).all fun o => !decide (R o.lo < R r.hi)

end Dd
/-! L03 -/
namespace Dd
open PySem PySem.Spec PyProof.Rows L2

theorem eqw {a b : Str} {k : Bool} (ha : PyData.canLay0 (.str a) = true) (hb : PyData.canLay0 (.str b) = true) (h : decide (a = b) = k) : gEq (.d (.str a)) (.d (.str b)) = some (dB k) := by
  have s : ∀ {z : Str}, PyData.canLay0 (.str z) = true → SeqAt.shaped (.str z) = true := fun {z} h => by
    show (PyData.canLay0 (.str z) && decide (PyData.depth (.str z) ≤ 64)) = true
    rw [h]
    rfl
  show (if (SeqAt.shaped (.str a) && SeqAt.shaped (.str b)) = true then some (dB (PyData.eqv (.str a) (.str b))) else none) = _
  rw [s ha, s hb, eqv_str, h]
  rfl

theorem inw {a : Str} {ds : List PyData} {k : Bool} (f : ds.all flatD = true) (h : inD (.str a) ds = k) : gIn (.d (.str a)) (.d (.tuple ds)) = some (dB k) := by
  show (if (flatD (.str a) && ds.all flatD) = true then some (dB (inD (.str a) ds)) else _) = _
  rw [f, h]
  rfl

@[simp] theorem w_sort_sort : gEq (.d (.str "sort")) (.d (.str "sort")) = some (dB true) := eqw (by decide +kernel) (by decide +kernel) (by decide +kernel)

@[simp] theorem w_sort_min : gEq (.d (.str "sort")) (.d (.str "min")) = some (dB false) := eqw (by decide +kernel) (by decide +kernel) (by decide +kernel)

@[simp] theorem w_sort_max : gEq (.d (.str "sort")) (.d (.str "max")) = some (dB false) := eqw (by decide +kernel) (by decide +kernel) (by decide +kernel)

@[simp] theorem w_sort_above : gEq (.d (.str "sort")) (.d (.str "above")) = some (dB false) := eqw (by decide +kernel) (by decide +kernel) (by decide +kernel)

@[simp] theorem w_sort_compare : gEq (.d (.str "sort")) (.d (.str "compare")) = some (dB false) := eqw (by decide +kernel) (by decide +kernel) (by decide +kernel)

@[simp] theorem w_min_sort : gEq (.d (.str "min")) (.d (.str "sort")) = some (dB false) := eqw (by decide +kernel) (by decide +kernel) (by decide +kernel)

@[simp] theorem w_min_min : gEq (.d (.str "min")) (.d (.str "min")) = some (dB true) := eqw (by decide +kernel) (by decide +kernel) (by decide +kernel)

@[simp] theorem w_min_max : gEq (.d (.str "min")) (.d (.str "max")) = some (dB false) := eqw (by decide +kernel) (by decide +kernel) (by decide +kernel)

@[simp] theorem w_min_above : gEq (.d (.str "min")) (.d (.str "above")) = some (dB false) := eqw (by decide +kernel) (by decide +kernel) (by decide +kernel)

@[simp] theorem w_min_compare : gEq (.d (.str "min")) (.d (.str "compare")) = some (dB false) := eqw (by decide +kernel) (by decide +kernel) (by decide +kernel)

@[simp] theorem w_max_sort : gEq (.d (.str "max")) (.d (.str "sort")) = some (dB false) := eqw (by decide +kernel) (by decide +kernel) (by decide +kernel)

@[simp] theorem w_max_min : gEq (.d (.str "max")) (.d (.str "min")) = some (dB false) := eqw (by decide +kernel) (by decide +kernel) (by decide +kernel)

@[simp] theorem w_max_max : gEq (.d (.str "max")) (.d (.str "max")) = some (dB true) := eqw (by decide +kernel) (by decide +kernel) (by decide +kernel)

@[simp] theorem w_max_above : gEq (.d (.str "max")) (.d (.str "above")) = some (dB false) := eqw (by decide +kernel) (by decide +kernel) (by decide +kernel)

@[simp] theorem w_max_compare : gEq (.d (.str "max")) (.d (.str "compare")) = some (dB false) := eqw (by decide +kernel) (by decide +kernel) (by decide +kernel)

@[simp] theorem w_above_sort : gEq (.d (.str "above")) (.d (.str "sort")) = some (dB false) := eqw (by decide +kernel) (by decide +kernel) (by decide +kernel)

@[simp] theorem w_above_min : gEq (.d (.str "above")) (.d (.str "min")) = some (dB false) := eqw (by decide +kernel) (by decide +kernel) (by decide +kernel)

@[simp] theorem w_above_max : gEq (.d (.str "above")) (.d (.str "max")) = some (dB false) := eqw (by decide +kernel) (by decide +kernel) (by decide +kernel)

@[simp] theorem w_above_above : gEq (.d (.str "above")) (.d (.str "above")) = some (dB true) := eqw (by decide +kernel) (by decide +kernel) (by decide +kernel)

@[simp] theorem w_above_compare : gEq (.d (.str "above")) (.d (.str "compare")) = some (dB false) := eqw (by decide +kernel) (by decide +kernel) (by decide +kernel)

@[simp] theorem w_compare_sort : gEq (.d (.str "compare")) (.d (.str "sort")) = some (dB false) := eqw (by decide +kernel) (by decide +kernel) (by decide +kernel)

@[simp] theorem w_compare_min : gEq (.d (.str "compare")) (.d (.str "min")) = some (dB false) := eqw (by decide +kernel) (by decide +kernel) (by decide +kernel)

@[simp] theorem w_compare_max : gEq (.d (.str "compare")) (.d (.str "max")) = some (dB false) := eqw (by decide +kernel) (by decide +kernel) (by decide +kernel)

@[simp] theorem w_compare_above : gEq (.d (.str "compare")) (.d (.str "above")) = some (dB false) := eqw (by decide +kernel) (by decide +kernel) (by decide +kernel)

@[simp] theorem w_compare_compare : gEq (.d (.str "compare")) (.d (.str "compare")) = some (dB true) := eqw (by decide +kernel) (by decide +kernel) (by decide +kernel)

@[simp] theorem wi_sort : gIn (.d (.str "sort")) (.d (.tuple [.str "min", .str "max"])) = some (dB false) := inw rfl (by decide +kernel)

@[simp] theorem wj_sort : gIn (.d (.str "sort")) (.d (.tuple [.str "sort", .str "compare"])) = some (dB true) := inw rfl (by decide +kernel)

@[simp] theorem wi_min : gIn (.d (.str "min")) (.d (.tuple [.str "min", .str "max"])) = some (dB true) := inw rfl (by decide +kernel)

@[simp] theorem wj_min : gIn (.d (.str "min")) (.d (.tuple [.str "sort", .str "compare"])) = some (dB false) := inw rfl (by decide +kernel)

@[simp] theorem wi_max : gIn (.d (.str "max")) (.d (.tuple [.str "min", .str "max"])) = some (dB true) := inw rfl (by decide +kernel)

@[simp] theorem wj_max : gIn (.d (.str "max")) (.d (.tuple [.str "sort", .str "compare"])) = some (dB false) := inw rfl (by decide +kernel)

@[simp] theorem wi_above : gIn (.d (.str "above")) (.d (.tuple [.str "min", .str "max"])) = some (dB false) := inw rfl (by decide +kernel)

@[simp] theorem wj_above : gIn (.d (.str "above")) (.d (.tuple [.str "sort", .str "compare"])) = some (dB false) := inw rfl (by decide +kernel)

@[simp] theorem wi_compare : gIn (.d (.str "compare")) (.d (.tuple [.str "min", .str "max"])) = some (dB false) := inw rfl (by decide +kernel)

@[simp] theorem wj_compare : gIn (.d (.str "compare")) (.d (.tuple [.str "sort", .str "compare"])) = some (dB true) := inw rfl (by decide +kernel)

@[simp] theorem wl_sort : getKD tb_QUERY_LENGTHS (.d (.str "sort")) = some (dI 2) := by
  show (tb_QUERY_LENGTHS.lookup ("sort" : Str)).map SD.d = _
  rw [show tb_QUERY_LENGTHS.lookup ("sort" : Str) = some (.int 2) from by with_unfolding_all rfl]
  rfl

@[simp] theorem wl_min : getKD tb_QUERY_LENGTHS (.d (.str "min")) = some (dI 2) := by
  show (tb_QUERY_LENGTHS.lookup ("min" : Str)).map SD.d = _
  rw [show tb_QUERY_LENGTHS.lookup ("min" : Str) = some (.int 2) from by with_unfolding_all rfl]
  rfl

@[simp] theorem wl_max : getKD tb_QUERY_LENGTHS (.d (.str "max")) = some (dI 2) := by
  show (tb_QUERY_LENGTHS.lookup ("max" : Str)).map SD.d = _
  rw [show tb_QUERY_LENGTHS.lookup ("max" : Str) = some (.int 2) from by with_unfolding_all rfl]
  rfl

@[simp] theorem wl_above : getKD tb_QUERY_LENGTHS (.d (.str "above")) = some (dI 3) := by
  show (tb_QUERY_LENGTHS.lookup ("above" : Str)).map SD.d = _
  rw [show tb_QUERY_LENGTHS.lookup ("above" : Str) = some (.int 3) from by with_unfolding_all rfl]
  rfl

@[simp] theorem wl_compare : getKD tb_QUERY_LENGTHS (.d (.str "compare")) = some (dI 3) := by
  show (tb_QUERY_LENGTHS.lookup ("compare" : Str)).map SD.d = _
  rw [show tb_QUERY_LENGTHS.lookup ("compare" : Str) = some (.int 3) from by with_unfolding_all rfl]
  rfl

/-! ### gcd, fractions, names -/

theorem mod_ok {a b : Int} (z : b ≠ 0) : gMod (dI a) (dI b) = some (dI (a.fmod b)) := by
  show (if (decide (b ≠ 0)) = true then some (dI (a.fmod b)) else none) = _
  rw [if_pos (decide_eq_true z)]

theorem div_ok {a b : Int} {n : Nat} (z : b ≠ 0) (h : b.natAbs < 2 ^ n) (hn : n < 9000) : gDiv (dI a) (dI b) = some (dI (a.fdiv b)) := by
  have := log_le h
  show (if (decide (b ≠ 0) && decide (b.natAbs.log2 < 9000)) = true then some (dI (a.fdiv b)) else none) = _
  rw [if_pos (by rw [Bool.and_eq_true]; exact ⟨decide_eq_true z, decide_eq_true (by omega)⟩)]

theorem gd_while : ∀ (n : Nat) (a b : Int), b.natAbs = n → 0 ≤ a → 0 ≤ b → whileM (fun ρ => (do let x ← M.lift (getS ρ 1); M.lift (truD x))) (fun ρ => (do let v ← M.lift (getS ρ 1); let v ← M.lift (plain v); let w ← (do let x ← M.lift (getS ρ 0); let y ← M.lift (getS ρ 1); M.lift (gMod x y)); let w ← M.lift (plain w); pure (.nx ((ρ.set 0 v).set 1 w)))) [dI a, dI b] = pure (.nx [dI (Int.gcd a b), dI 0]) := by
  intro n
  induction n using Nat.strongRecOn with
  | _ n ih =>
    intro a b hn ha hb
    by_cases z : b = 0
    · subst z
      rw [while_end (by simp)]
      have : (Int.gcd a 0 : Int) = a := by rw [Int.gcd_zero_right]; omega
      rw [this]
    · have hz : (b != 0) = true := by simpa using z
      rw [while_go (ρ' := [dI b, dI (a.fmod b)]) (by simp [hz]) (by simp [mod_ok z])]
      have e : a.fmod b = a % b := Int.fmod_eq_emod_of_nonneg a hb
      have h1 : 0 ≤ a % b := Int.emod_nonneg _ z
      have h2 : a % b < b := Int.emod_lt_of_pos _ (by omega)
      rw [ih (a.fmod b).natAbs (by rw [e]; omega) b (a.fmod b) rfl hb (by rw [e]; exact h1)]
      have e2 := Dw.gcd_fmod a b
      rw [e2]

theorem d_greatest_divisor_eq (a b : Int) : d_greatest_divisor [dI a, dI b] = pure (dI (Int.gcd a b)) := by
  simp only [d_greatest_divisor, sp_defM]
  show (u_greatest_divisor [dI a, dI b] >>= _) = _
  unfold u_greatest_divisor
  simp only [sp_get0, sp_get1, sp_lift_some, sp_pure_bnd, sp_abs, sp_plain, sp_seq_nx, List.set_cons_zero, List.set_cons_succ]
  rw [gd_while _ _ _ rfl (by split <;> omega) (by split <;> omega), Dw.abs_if, Dw.abs_if]
  rfl

theorem kit_tt : kitB "tuple" "tuple" = some true := by decide +kernel

theorem kit_ii : kitB "int" "int" = some true := by decide +kernel

theorem kit_ss : kitB "str" "str" = some true := by decide +kernel

@[simp] theorem isi_t (xs : List PyData) : bIsi [.d (.tuple xs), .ty "tuple"] = pure (dB true) := by
  show (M.lift (kitB "tuple" "tuple") >>= _) = _
  rw [kit_tt]; rfl

@[simp] theorem isi_q (a : Fq) : bIsi [.d (fq a), .ty "tuple"] = pure (dB true) := isi_t _

@[simp] theorem isi_i (i : Int) : bIsi [.d (.int i), .ty "int"] = pure (dB true) := by
  show (M.lift (kitB "int" "int") >>= _) = _
  rw [kit_ii]; rfl

@[simp] theorem isi_s (i : Str) : bIsi [.d (.str i), .ty "str"] = pure (dB true) := by
  show (M.lift (kitB "str" "str") >>= _) = _
  rw [kit_ss]; rfl

@[simp] theorem len_q (a : Fq) : bLen [.d (fq a)] = pure (dI 2) := rfl

@[simp] theorem k_q2 (i j : Nat) (a : Fq) (ρ : List SD) : kOf (.tp [i, j]) (.d (fq a)) ρ = some ((ρ.set i (dI a.p.1)).set j (dI a.p.2)) := rfl

theorem d_is_fraction_eq (a : Fq) : d_is_fraction [.d (fq a)] = pure (dB true) := by
  have h : 1 ≤ a.p.2 := a.pos
  have e : Int.gcd a.p.1 a.p.2 = 1 := a.cop
  simp [d_is_fraction, u_is_fraction, d_greatest_divisor_eq, h, e]

theorem d_check_fraction_eq (a : Fq) : d_check_fraction [.d (fq a)] = pure (.d .none) := by
  simp [d_check_fraction, u_check_fraction, d_is_fraction_eq]

@[simp] theorem it_s (x : Str) : itemsD (.d (.str x)) = some (x.cps.toList.map fun c => dS ⟨#[c]⟩) := rfl

theorem ltS_one (a b : Nat) : ltS ⟨#[a]⟩ ⟨#[b]⟩ = decide (a < b) := by
  unfold ltS
  exact decide_eq_decide.mpr (by simp [List.cons_lt_cons_iff])

theorem chr_a : ("a" : Str) = ⟨#[97]⟩ := by decide +kernel

theorem chr_z : ("z" : Str) = ⟨#[122]⟩ := by decide +kernel

@[simp] theorem len_s (x : Nm) : bLen [.d (.str x.s)] = pure (dI x.s.length) := by
  have h := x.len.2
  show M.lift (if szOk x.s.length = true then _ else _) >>= _ = _
  rw [if_pos (show szOk x.s.length = true from decide_eq_true (by omega))]
  rfl

theorem d_is_name_eq (x : Nm) : d_is_name [.d (.str x.s)] = pure (dB true) := by
  have h := x.len
  have hk := x.ok
  haveI : Ln 6 x.s.cps.toList := ⟨h.2⟩
  have h1 : (1 : Int) ≤ (x.s.length : Int) := by omega
  have h2 : (x.s.length : Int) ≤ 6 := by omega
  unfold nmOk at hk
  simp only [Bool.and_eq_true, List.all_eq_true, decide_eq_true_eq] at hk
  simp [d_is_name, u_is_name, h1, h2, lcM_map, chr_a, chr_z, ltS_one]
  rw [lcF_congr (B' := fun _ => pure true) (T' := fun _ => pure (dB true)) (fun _ _ => rfl) (fun c hc => ?_)]
  · have e : (x.s.cps.all fun _ => true) = true := by
      rw [← Array.all_toList]
      exact List.all_eq_true.mpr fun _ _ => rfl
    simp [e]
  · have := hk.2 c hc
    simp [show ¬ c < 97 by omega, show ¬ 122 < c by omega]

/-! ### queries -/

inductive Qy where
  | sort (ns : List Nm)
  | mn (ns : List Nm)
  | mx (ns : List Nm)
  | above (ns : List Nm) (t : Fq)
  | cmp (a b : Nm)

def Qy.ns : Qy → List Nm
  | .sort ns => ns
  | .mn ns => ns
  | .mx ns => ns
  | .above ns _ => ns
  | .cmp a b => [a, b]

def qD : Qy → PyData
  | .sort ns => .tuple [.str "sort", .tuple (ns.map nS)]
  | .mn ns => .tuple [.str "min", .tuple (ns.map nS)]
  | .mx ns => .tuple [.str "max", .tuple (ns.map nS)]
  | .above ns t => .tuple [.str "above", .tuple (ns.map nS), fq t]
  | .cmp a b => .tuple [.str "compare", .str a.s, .str b.s]

/-- well formed, over the items of these names -/
structure Qy.Ok (q : Qy) (all : List Nm) : Prop where
  ne : q.ns ≠ []
  nd : q.ns.Nodup
  inn : ∀ n ∈ q.ns, n ∈ all
  len : q.ns.length ≤ 24

@[simp] theorem sl_1 (x y z : PyData) : gSl (.d (.tuple [x, y, z])) (some 1) none = some (.d (.tuple [y, z])) := rfl

theorem d_has_query_form_eq (q : Qy) : d_has_query_form [.d (qD q)] = pure (dB true) := by
  cases q <;> simp [d_has_query_form, u_has_query_form, qD]

theorem d_names_of_eq (q : Qy) : d_names_of [.d (qD q)] = pure (.d (.tuple (q.ns.map nS))) := by
  cases q <;> simp [d_names_of, u_names_of, qD, Qy.ns]

theorem strsD_n : ∀ ns : List Nm, strsD (ns.map nS) = some (ns.map fun n => n.s)
  | [] => rfl
  | n :: r => by
    show (strsD (r.map nS)).map _ = _
    rw [strsD_n r]
    rfl

theorem nodup_s {ns : List Nm} (h : ns.Nodup) : (ns.map fun n => n.s).Nodup := by
  unfold List.Nodup at h ⊢
  rw [List.pairwise_map]
  exact h.imp fun hne e => hne (Nm.ext e)

theorem lenSet_n {ns : List Nm} (h : ns.Nodup) (hl : ns.length ≤ 24) : lenSetN (.d (.tuple (ns.map nS))) = some (ns.length : Int) := by
  show (strsD (ns.map nS)).bind _ = _
  rw [strsD_n]
  show (if (ns.map fun n => n.s).length < 4000 then _ else _) = _
  rw [if_pos (by rw [List.length_map]; omega), dst_nodup _ _ (nodup_s h) (by simp), List.length_map]

theorem d_are_query_names_eq {ns all : List Nm} (ne : ns ≠ []) (nd : ns.Nodup) (inn : ∀ n ∈ ns, n ∈ all) (hl : ns.length ≤ 24) : d_are_query_names [.d (.tuple (ns.map nS)), .d (.list (all.map nS))] = pure (dB true) := by
  haveI : Ln 24 ns := ⟨hl⟩
  have z : ¬ ((ns.length : Int) = 0) := fun e => ne (List.length_eq_zero_iff.mp (by omega))
  have ha : ns.all (fun n => decide (n ∈ all)) = true := by
    rw [List.all_eq_true]
    exact fun n hn => decide_eq_true (inn n hn)
  simp [d_are_query_names, u_are_query_names, z, lcM_map, lenSet_n nd hl, ne]
  rw [if_neg (by rintro ⟨x, h1, h2⟩; exact h2 (inn x h1))]
  rfl

theorem d_check_query_eq {q : Qy} {all : List Nm} (h : q.Ok all) (i : Int) : d_check_query [.d (qD q), .d (.int i), .d (.list (all.map nS))] = pure (.d .none) := by
  cases q <;> simp [d_check_query, u_check_query, d_has_query_form_eq, d_names_of_eq, d_are_query_names_eq h.ne h.nd h.inn h.len] <;> simp [qD, d_check_fraction_eq]

end Dd
/-! L04 -/
namespace Dd
open PySem PySem.Spec PyProof.Rows L2

/-! ### loops over typed things -/

theorem for_fold {σ α : Type} {tg : Tg} {U : List SD → M Out} (g : α → SD) (S : σ → List SD) (step : σ → α → σ) : ∀ (xs : List α) (s : σ), (∀ s, ∀ x ∈ xs, (M.lift (kOf tg (g x) (S s)) >>= U) = pure (.nx (S (step s x))) ∨ (M.lift (kOf tg (g x) (S s)) >>= U) = pure (.ct (S (step s x)))) → forM tg U (xs.map g) (S s) = pure (.nx (S (xs.foldl step s)))
  | [], s, _ => rfl
  | x :: r, s, h => by
    have ih := for_fold g S step (tg := tg) (U := U) r (step s x) fun s y hy => h s y (List.mem_cons_of_mem _ hy)
    rw [List.map_cons, sp_for_cons, ← sp_bnd_assoc]
    rcases h s x List.mem_cons_self with e | e
    · rw [e, sp_pure_bnd]
      exact ih
    · rw [e, sp_pure_bnd]
      exact ih

abbrev Asc (rs : List Row) : Prop := rs.Pairwise fun a b => a.nm < b.nm

/-- a valid interval list -/
structure IvOk (rs : List Row) : Prop where
  asc : Asc rs
  len : rs.length ≤ 24

abbrev nms (rs : List Row) : List Nm := rs.map fun r => r.nm

theorem IvOk.ln {rs : List Row} (h : IvOk rs) : Ln 24 rs := ⟨h.len⟩

theorem for_asc {tg : Tg} {U : List SD → M Out} (X : SD) : ∀ (rs : List Row) (p : Str) (a b c : SD), Asc rs → (∀ r ∈ rs, ltS p r.nm.s = true) →
    (∀ (r : Row) (p : Str) (a b c : SD), ltS p r.nm.s = true → (M.lift (kOf tg (.d (rw' r)) [X, .d (.str p), a, b, c]) >>= U) = pure (.nx [X, .d (.str r.nm.s), .d (.str r.nm.s), .d (fq r.lo), .d (fq r.hi)])) →
    ∃ ρ', forM tg U (rs.map fun r => .d (rw' r)) [X, .d (.str p), a, b, c] = pure (.nx ρ')
  | [], p, a, b, c, _, _, _ => ⟨_, rfl⟩
  | r :: rs, p, a, b, c, h, hp, hu => by
    have h := List.pairwise_cons.mp h
    obtain ⟨ρ', e⟩ := for_asc (tg := tg) (U := U) X rs r.nm.s (.d (.str r.nm.s)) (.d (fq r.lo)) (.d (fq r.hi)) h.2 (fun y hy => decide_eq_true (h.1 y hy)) hu
    refine ⟨ρ', ?_⟩
    rw [List.map_cons, sp_for_cons, ← sp_bnd_assoc, hu r p a b c (hp r List.mem_cons_self), sp_pure_bnd]
    exact e

theorem for_asc_end {tg : Tg} {U : List SD → M Out} (X : SD) (rs : List Row) (p : Str) (a b c : SD) (h : Asc rs) (hp : ∀ r ∈ rs, ltS p r.nm.s = true)
    (hu : ∀ (r : Row) (p : Str) (a b c : SD), ltS p r.nm.s = true → (M.lift (kOf tg (.d (rw' r)) [X, .d (.str p), a, b, c]) >>= U) = pure (.nx [X, .d (.str r.nm.s), .d (.str r.nm.s), .d (fq r.lo), .d (fq r.hi)])) :
    (forM tg U (rs.map fun r => .d (rw' r)) [X, .d (.str p), a, b, c] >>= fun o => match o with
      | .rt y => pure y
      | .nx _ => pure (.d .none)
      | _ => M.fail) = pure (.d .none) := by
  obtain ⟨ρ', e⟩ := for_asc X rs p a b c h hp hu
  rw [e]
  rfl

theorem nil_lt (n : Nm) : ltS "" n.s = true := by
  have h := n.len.1
  unfold ltS
  refine decide_eq_true ?_
  have e : ("" : Str).cps.toList = [] := by decide +kernel
  rw [e]
  cases l : n.s.cps.toList with
  | nil =>
    have : n.s.cps.size = 0 := by rw [← Array.length_toList, l]; rfl
    have h : 1 ≤ n.s.cps.size := h
    omega
  | cons x r => exact List.nil_lt_cons _ _

theorem d_check_intervals_eq {rs : List Row} (h : IvOk rs) : d_check_intervals [.d (.list (rs.map rw'))] = pure (.d .none) := by
  have l : ¬ (24 : Int) < (rs.length : Int) := by have := h.len; omega
  simp only [d_check_intervals, sp_defM]
  simp [u_check_intervals, l]
  refine for_asc_end _ rs _ _ _ _ h.asc (fun r _ => nil_lt r.nm) (fun r p a b c hlt => ?_)
  have hl : ¬ R r.hi < R r.lo := Rat.not_lt.mpr r.le
  simp [d_check_fraction_eq, d_is_name_eq, d_less_eq, hlt, hl]

theorem d_check_queries_eq {rs : List Row} (h : IvOk rs) {qs : List Qy} (hq : ∀ q ∈ qs, q.Ok (nms rs)) (hl : qs.length ≤ 8) : d_check_queries [.d (.list (rs.map rw')), .d (.list (qs.map qD))] = pure (.d .none) := by
  haveI := h.ln
  have l : ¬ (8 : Int) < (qs.length : Int) := by omega
  simp only [d_check_queries, sp_defM]
  simp [u_check_queries, l, d_item_names_eq, enum_map]
  have e := for_fold (tg := .tp [3, 4]) (U := fun ρ => (do let _ ← (do let xs ← (do let x ← M.lift (getS ρ 4); let xs ← (do let x ← M.lift (getS ρ 3); let xs ← (do let x ← M.lift (getS ρ 2); let xs ← pure []; pure (x :: xs)); pure (x :: xs)); pure (x :: xs)); callM 3 d_check_query xs); pure (.nx ρ)))
    (fun p : Qy × Nat => SD.d (.tuple [.int (p.2 : Int), qD p.1])) (fun s : SD × SD => [.d (.list (rs.map rw')), .d (.list (qs.map qD)), .d (.list (rs.map fun r => nS r.nm)), s.1, s.2]) (fun _ p => (.d (.int (p.2 : Int)), .d (qD p.1))) qs.zipIdx (.no, .no) (fun s x hx => .inl (by
      have hx1 : x.1 ∈ qs := by
        obtain ⟨q, i⟩ := x
        exact (List.mem_zipIdx hx).2.2 ▸ List.getElem_mem _
      have e := d_check_query_eq (hq x.1 hx1) (x.2 : Int)
      rw [List.map_map] at e
      simp
      exact (congrArg (fun m => m >>= _) e).trans rfl))
  simp only [sp_bnd_assoc, sp_pure_bnd] at e
  exact (congrArg (fun m => m >>= _) e).trans rfl

theorem d_check_prices_none (X : PyData) : d_check_prices [.d X, .d .none] = pure (.d .none) := by
  simp [d_check_prices, u_check_prices, gIsB, isNone]

theorem d_check_problem_none {rs : List Row} (h : IvOk rs) {qs : List Qy} (hq : ∀ q ∈ qs, q.Ok (nms rs)) (hl : qs.length ≤ 8) : d_check_problem [.d (.list (rs.map rw')), .d (.list (qs.map qD)), .d .none] = pure (.d .none) := by
  simp [d_check_problem, u_check_problem, d_check_intervals_eq h, d_check_queries_eq h hq hl, d_check_prices_none]

/-! ### certain -/

def asked (rs : List Row) (q : Qy) : List Row := rs.filter fun r => decide (r.nm ∈ q.ns)

theorem d_asked_rows_eq {n : Nat} (rs : List Row) [Ln n rs] (q : Qy) (hn : n ≤ 100000 := by decide) : d_asked_rows [.d (.list (rs.map rw')), .d (qD q)] = pure (.d (.list ((asked rs q).map rw'))) := by
  simp [d_asked_rows, u_asked_rows, d_names_of_eq, lcM_map]
  rw [sp_lcF (n := n) hn]
  rfl

/-- the rows by which the rules of the query's kind go -/
def qrows (rs : List Row) : Qy → List Row
  | .mx ns => (asked rs (.mx ns)).map mirr
  | q => asked rs q

instance ln_asked {n : Nat} {rs : List Row} {q : Qy} [h : Ln n rs] : Ln n (asked rs q) := ln_filter

instance ln_qrows {n : Nat} {rs : List Row} {q : Qy} [h : Ln n rs] : Ln n (qrows rs q) := by
  cases q with
  | mx ns => exact ln_map
  | _ => exact ln_asked

theorem d_query_rows_eq {n : Nat} (rs : List Row) [Ln n rs] (q : Qy) (hn : n ≤ 100000 := by decide) : d_query_rows [.d (.list (rs.map rw')), .d (qD q)] = pure (.d (.list ((qrows rs q).map rw'))) := by
  cases q with
  | mx ns =>
    simp [d_query_rows, u_query_rows, d_asked_rows_eq rs _ hn, lcM_map, d_mirrored_eq]
    simp [qD, sp_lcT (n := n) hn, qrows]
    rfl
  | _ =>
    simp [d_query_rows, u_query_rows, d_asked_rows_eq rs _ hn]
    simp [qD, qrows]

def certB (rs : List Row) (q : Qy) : Bool := match q with
  | .above _ t => !(qrows rs q).any fun r => decide (R r.lo < R t) && decide (R t < R r.hi)
  | .mn _ => (qrows rs q).any fun r => least r (qrows rs q)
  | .mx _ => (qrows rs q).any fun r => least r (qrows rs q)
  | _ => (prs (qrows rs q)).all fun p => sepd p.1 p.2

end Dd
/-! L05 -/
namespace Dd
open PySem PySem.Spec PyProof.Rows L2

/-! ### runs -/

theorem bnd_run {α β : Type} {m : M α} {f : α → M β} {S : α → Prop} {P : β → Prop} {E : Exn → Prop} (h : m.run S E) (i : ∀ a, S a → (f a).run P E) : (m >>= f).run P E := m.mono i (fun _ z => z) h

theorem any_run {c : Int} {β : Type} {f : Int → M β} {P : β → Prop} {E : Exn → Prop} (h : ∀ v, 0 ≤ v → v < c → (f v).run P E) : (M.anyI c >>= f).run P E := h

theorem drawOk_of {c : Int} (h0 : 0 < c) (h : c.natAbs < 2 ^ 1000) : drawOk c = true := by
  have := log_le h
  unfold drawOk
  rw [Bool.and_eq_true]
  exact ⟨decide_eq_true h0, decide_eq_true (by omega)⟩

theorem draw_eq {c : Int} (h : drawOk c = true) : drawD [.src, dI c] = (M.anyI c >>= fun v => pure (dI v)) := by
  show M.when (drawOk c) _ = _
  rw [h]; rfl

theorem draw_run {c : Int} {β : Type} {f : SD → M β} {P : β → Prop} {E : Exn → Prop} (h0 : 0 < c) (hc : c.natAbs < 2 ^ 1000) (h : ∀ v, 0 ≤ v → v < c → (f (dI v)).run P E) : (drawD [.src, .d (.int c)] >>= f).run P E := by
  rw [draw_eq (drawOk_of h0 hc)]
  exact any_run h

theorem b1000 {c : Int} (c0 : 0 ≤ c) (c1 : c ≤ 1000000) : c.natAbs < 2 ^ 1000 := Nat.lt_of_le_of_lt (by omega : _ ≤ 1000000) (by decide +kernel)

/-- a small draw -/
theorem drawS {c : Int} {β : Type} {f : SD → M β} {P : β → Prop} {E : Exn → Prop} (h0 : 0 < c) (hc : c ≤ 1000000) (h : ∀ v, 0 ≤ v → v < c → (f (dI v)).run P E) : (drawD [.src, .d (.int c)] >>= f).run P E := draw_run h0 (b1000 (by omega) hc) h

theorem calm_run {α : Type} {m : M α} {P : α → Prop} {E : Exn → Prop} (h : m.run P (fun _ => False)) : (M.calm m).run P E := h

theorem run_bind_pure {α : Type} {m : M α} {P : α → Prop} {E : Exn → Prop} (h : (m >>= pure).run P E) : m.run P E := h

theorem def_run {m : Nat} {U : List SD → M Out} {xs : List SD} {P : SD → Prop} {E : Exn → Prop} (h : (U (xs ++ List.replicate (m - xs.length) .no)).run (fun o => match o with
    | .rt y => P y
    | .nx _ => P (.d .none)
    | _ => False) E) : (defM m U xs).run P E := by
  rw [sp_defM]
  refine bnd_run h fun o q => ?_
  cases o with
  | rt y => exact q
  | nx _ => exact q
  | bk _ => exact q.elim
  | ct _ => exact q.elim

theorem seq_runX {m : M Out} {f : List SD → M Out} {P : Out → Prop} {E : Exn → Prop} (h : m.run (fun o => match o with
    | .nx ρ => (f ρ).run P E
    | o => P o) E) : (seqM m f).run P E := by
  refine m.mono (fun o q => ?_) (fun _ z => z) h
  cases o <;> exact q

/-- a loop, by what holds ahead of each turn -/
theorem for_runX0 {α : Type} {tg : Tg} {U : List SD → M Out} (g : α → SD) (I : List α → List SD → Prop) {P : Out → Prop} {E : Exn → Prop} (all : List α) (hd : ∀ ρ, I all ρ → P (.nx ρ))
    (h : ∀ done x rest ρ, done ++ x :: rest = all → I done ρ → (M.lift (kOf tg (g x) ρ) >>= U).run (fun o => match o with
      | .nx ρ2 => I (done ++ [x]) ρ2
      | .ct ρ2 => I (done ++ [x]) ρ2
      | .bk ρ2 => P (.nx ρ2)
      | .rt y => P (.rt y)) E) : ∀ (xs done : List α) (ρ : List SD), done ++ xs = all → I done ρ → (forM tg U (xs.map g) ρ).run P E
  | [], done, ρ, e, i => hd ρ (by rw [← e, List.append_nil]; exact i)
  | x :: r, done, ρ, e, i => by
    rw [List.map_cons, sp_for_cons, ← sp_bnd_assoc]
    refine bnd_run (h done x r ρ e i) fun o q => ?_
    have go := fun ρ2 (i2 : I (done ++ [x]) ρ2) => for_runX0 g I all hd h r (done ++ [x]) ρ2 (by rw [List.append_assoc]; exact e) i2
    cases o with
    | nx ρ2 => exact go ρ2 q
    | ct ρ2 => exact go ρ2 q
    | bk ρ2 => exact q
    | rt y => exact q

theorem for_runX {α : Type} {tg : Tg} {U : List SD → M Out} (g : α → SD) (I : List α → List SD → Prop) {P : Out → Prop} {E : Exn → Prop} (all : List α) {ρ : List SD} (i : I [] ρ) (hd : ∀ ρ, I all ρ → P (.nx ρ))
    (h : ∀ done x rest ρ, done ++ x :: rest = all → I done ρ → (M.lift (kOf tg (g x) ρ) >>= U).run (fun o => match o with
      | .nx ρ2 => I (done ++ [x]) ρ2
      | .ct ρ2 => I (done ++ [x]) ρ2
      | .bk ρ2 => P (.nx ρ2)
      | .rt y => P (.rt y)) E) : (forM tg U (all.map g) ρ).run P E := for_runX0 g I all hd h all [] ρ rfl i

/-- a comprehension whose items are drawn -/
theorem lcF_run {α β : Type} {B : α → M Bool} {T : α → M SD} {E : Exn → Prop} (enc : β → PyData) (Post : α → β → Prop) : ∀ (xs : List α) (acc : List β) {Q : List PyData → Prop}, acc.length + xs.length ≤ 100000 → (∀ x ∈ xs, B x = pure true) → (∀ x ∈ xs, ∀ S : SD → Prop, (∀ b, Post x b → S (.d (enc b))) → (T x).run S E) →
    (∀ bs : List β, Paired Post xs bs → Q ((acc ++ bs).map enc)) → (lcF B T xs (acc.map enc)).run Q E
  | [], acc, Q, _, _, _, hq => by have := hq [] .nil; rw [List.append_nil] at this; exact this
  | x :: r, acc, Q, hl, hb, ht, hq => by
    rw [List.length_cons] at hl
    show (B x >>= fun b => if b = true then (T x >>= fun y => M.lift (asD y) >>= fun d => M.when (szOk ((acc.map enc).length + 1)) (lcF B T r (acc.map enc ++ [d]))) else lcF B T r (acc.map enc)).run Q E
    rw [hb x List.mem_cons_self, sp_pure_bnd, if_pos rfl]
    refine ht x List.mem_cons_self _ fun b hb1 => ?_
    show (M.when (szOk ((acc.map enc).length + 1)) (lcF B T r (acc.map enc ++ [enc b]))).run Q E
    rw [when_of _ (show szOk ((acc.map enc).length + 1) = true from decide_eq_true (by rw [List.length_map]; omega))]
    have e : acc.map enc ++ [enc b] = (acc ++ [b]).map enc := by rw [List.map_append]; rfl
    rw [e]
    refine lcF_run enc Post r (acc ++ [b]) (by simp; omega) (fun y hy => hb y (List.mem_cons_of_mem _ hy)) (fun y hy => ht y (List.mem_cons_of_mem _ hy)) fun bs pb => ?_
    have := hq (b :: bs) (.cons hb1 pb)
    rw [List.append_assoc]
    exact this

/-- a comprehension whose choice is drawn -/
theorem lcF_sub {α β : Type} {B : α → M Bool} {T : α → M SD} {E : Exn → Prop} (f : α → PyData) : ∀ (xs : List α) (acc : List PyData) {Q : List PyData → Prop}, acc.length + xs.length ≤ 100000 → (∀ x ∈ xs, ∀ S : Bool → Prop, S true → S false → (B x).run S E) → (∀ x ∈ xs, T x = pure (.d (f x))) →
    (∀ ys : List α, ys.Sublist xs → Q (acc ++ ys.map f)) → (lcF B T xs acc).run Q E
  | [], acc, Q, _, _, _, hq => by have := hq [] (List.Sublist.slnil); rw [List.map_nil, List.append_nil] at this; exact this
  | x :: r, acc, Q, hl, hb, ht, hq => by
    rw [List.length_cons] at hl
    refine hb x List.mem_cons_self _ ?_ ?_
    · show (T x >>= fun y => M.lift (asD y) >>= fun d => M.when (szOk (acc.length + 1)) (lcF B T r (acc ++ [d]))).run Q E
      rw [ht x List.mem_cons_self]
      show (M.when (szOk (acc.length + 1)) (lcF B T r (acc ++ [f x]))).run Q E
      rw [when_of _ (show szOk (acc.length + 1) = true from decide_eq_true (by omega))]
      refine lcF_sub (β := β) f r _ (by simp; omega) (fun y hy => hb y (List.mem_cons_of_mem _ hy)) (fun y hy => ht y (List.mem_cons_of_mem _ hy)) fun ys sl => ?_
      have := hq (x :: ys) (sl.cons₂ x)
      rw [List.append_assoc]
      exact this
    · show (lcF B T r acc).run Q E
      exact lcF_sub (β := β) f r acc (by omega) (fun y hy => hb y (List.mem_cons_of_mem _ hy)) (fun y hy => ht y (List.mem_cons_of_mem _ hy)) fun ys sl => hq ys (sl.cons x)

/-! ### choice, shuffled -/

theorem choice_run {α : Type} (enc : α → PyData) (xs : List α) (ne : xs ≠ []) (hl : xs.length ≤ 100000) {β : Type} {f : SD → M β} {P : β → Prop} {E : Exn → Prop} (h : ∀ x ∈ xs, (f (.d (enc x))).run P E) : (d__law_choice [.src, .d (.list (xs.map enc))] >>= f).run P E := by
  have l0 : 0 < xs.length := List.length_pos_iff.mpr ne
  have e : d__law_choice [.src, .d (.list (xs.map enc))] = (M.anyI (xs.length : Int) >>= fun v => M.lift ((atI (xs.map enc) v).map SD.d) >>= fun y => M.lift (plain y)) := by
    have dk := drawOk_of (c := (xs.length : Int)) (by omega) (b1000 (by omega) (by omega))
    simp [d__law_choice, u__law_choice, draw_eq dk]
    rfl
  rw [e]
  refine any_run fun v v0 v1 => ?_
  obtain ⟨j, rfl⟩ : ∃ j : Nat, v = (j : Int) := ⟨v.toNat, by omega⟩
  have hj : j < xs.length := by omega
  have e2 : atI (xs.map enc) (j : Int) = some (enc xs[j]) := atI_nat (by rw [List.getElem?_map, List.getElem?_eq_getElem hj]; rfl)
  rw [e2]
  exact h _ (List.getElem_mem hj)

@[simp] theorem ownL0 (x : List PyData) (r : List SD) : ownL (.own x :: r) 0 = some x := rfl

@[simp] theorem ownLs (a : SD) (r : List SD) (i : Nat) : ownL (a :: r) (i + 1) = ownL r i := rfl

@[simp] theorem ownL1 (a : SD) (r : List SD) : ownL (a :: r) 1 = ownL r 0 := rfl

@[simp] theorem ownL2 (a b : SD) (r : List SD) : ownL (a :: b :: r) 2 = ownL r 0 := rfl

@[simp] theorem ownL3 (a b c : SD) (r : List SD) : ownL (a :: b :: c :: r) 3 = ownL r 0 := rfl

@[simp] theorem ownL4 (a b c d : SD) (r : List SD) : ownL (a :: b :: c :: d :: r) 4 = ownL r 0 := rfl

@[simp] theorem ownL5 (a b c d e : SD) (r : List SD) : ownL (a :: b :: c :: d :: e :: r) 5 = ownL r 0 := rfl

@[simp] theorem ownL6 (a b c d e f : SD) (r : List SD) : ownL (a :: b :: c :: d :: e :: f :: r) 6 = ownL r 0 := rfl

theorem insert_perm {α : Type} (ds : List α) (j : Nat) (z : α) : (ds.take j ++ [z] ++ ds.drop j).Perm (ds ++ [z]) := by
  have h1 : (ds.take j ++ [z] ++ ds.drop j).Perm ([z] ++ (ds.take j ++ ds.drop j)) := by
    rw [List.append_assoc]
    refine (List.perm_append_comm_assoc _ _ _).trans ?_
    exact List.Perm.refl _
  rw [List.take_append_drop] at h1
  exact h1.trans List.perm_append_comm

theorem big_of {i : Int} (h0 : 0 ≤ i) (h : i < 100000) : bigI i = true := by
  unfold bigI
  exact Nat.ble_eq_true_of_le (by omega)

theorem guard_run {m : M SD} {β : Type} {f : SD → M β} {P : β → Prop} {E : Exn → Prop} (h : m.run (fun r => noMutS r = true ∧ (f r).run P E) (fun _ => False)) : (guardM m >>= f).run P E := m.mono (fun _ q => q) (fun _ z => z.elim) h

@[simp] theorem callM3o (f : List SD → M SD) (x : PyData) (ds : List PyData) : callM 3 f [.src, .d x, .own ds] = guardM (f [.src, .d x, .d (.list ds)]) := rfl

theorem shuffled_run {α : Type} (enc : α → PyData) (xs : List α) (hl : xs.length ≤ 5000) {β : Type} {f : SD → M β} {P : β → Prop} {E : Exn → Prop} (h : ∀ ys : List α, ys.Perm xs → (f (.d (.list (ys.map enc)))).run P E) : (d__law_shuffled [.src, .d (.list (xs.map enc))] >>= f).run P E := by
  suffices key : (d__law_shuffled [.src, .d (.list (xs.map enc))]).run (fun y => ∃ ys : List α, y = .d (.list (ys.map enc)) ∧ ys.Perm xs) E from bnd_run key fun o q => by
    obtain ⟨ys, rfl, p⟩ := q
    exact h ys p
  refine def_run ?_
  simp [u__law_shuffled]
  refine seq_runX ?_
  refine for_runX (fun x => .d (enc x)) (fun done ρ => ∃ (ds : List α) (a : SD), ρ = [.src, .d (.list (xs.map enc)), .own (ds.map enc), a] ∧ ds.Perm done) xs ⟨[], .no, rfl, .nil⟩ (fun ρ hi => ?_) fun done x rest ρ ed hi => ?_
  · obtain ⟨ds, a, rfl, p⟩ := hi
    exact ⟨ds, rfl, p⟩
  · obtain ⟨ds, a, rfl, p⟩ := hi
    have ld : ds.length < xs.length := by rw [p.length_eq, ← ed]; simp
    simp
    refine drawS (by omega) (by omega) fun v v0 v1 => ?_
    have ok1 : szOk (ds.length + 1) = true := decide_eq_true (by omega)
    have ok2 : bigI v = true := big_of v0 (by omega)
    simp [ok1, ok2, v0]
    refine ⟨ds.take v.toNat ++ [x] ++ ds.drop v.toNat, ?_, (insert_perm ds v.toNat x).trans (List.Perm.append_right _ p)⟩
    simp

end Dd
/-! L06 -/
namespace Dd
open PySem PySem.Spec PyProof.Rows L2

theorem lg_while : ∀ (n : Nat) (a b : Int) (c : SD), b.natAbs = n → ∃ (g : Int) (c' : SD), g.natAbs = Int.gcd a b ∧ whileM (fun ρ => (do let x ← M.lift (getS ρ 1); let y ← pure (.d (PyData.int 0)); let z ← M.lift (gNe x y); M.lift (asB z))) (fun ρ => seqM ((do let v ← (do let x ← M.lift (getS ρ 0); let y ← M.lift (getS ρ 1); M.lift (gMod x y)); let y ← M.lift (plain v); pure (.nx (ρ.set 2 y)))) (fun ρ => seqM ((do let v ← M.lift (getS ρ 1); let y ← M.lift (plain v); pure (.nx (ρ.set 0 y)))) (fun ρ => (do let v ← M.lift (getS ρ 2); let y ← M.lift (plain v); pure (.nx (ρ.set 1 y)))))) [dI a, dI b, c] = pure (.nx [dI g, dI 0, c']) := by
  intro n
  induction n using Nat.strongRecOn with
  | _ n ih =>
    intro a b c hn
    by_cases z : b = 0
    · subst z
      exact ⟨a, c, by rw [Int.gcd_zero_right], by rw [while_end (by simp)]⟩
    · have lt := Dw.fmod_less a b z
      obtain ⟨g, c', h1, h2⟩ := ih (a.fmod b).natAbs (by omega) b (a.fmod b) (dI (a.fmod b)) rfl
      refine ⟨g, c', by rw [h1, Dw.gcd_fmod], ?_⟩
      rw [while_go (ρ' := [dI b, dI (a.fmod b), dI (a.fmod b)]) (by simp [z]) (by simp [mod_ok z]), h2]

theorem d__law_gcd_eq (a b : Int) : d__law_gcd [dI a, dI b] = pure (dI (Int.gcd a b)) := by
  simp only [d__law_gcd, sp_defM]
  show (u__law_gcd [dI a, dI b, .no] >>= _) = _
  unfold u__law_gcd
  obtain ⟨g, c, h1, h2⟩ := lg_while _ a b .no rfl
  rw [h2]
  simp
  rw [Dw.abs_if, h1]

def rat (n d : Int) : Fr := (Dw.rn n d, Dw.rd n d)

theorem gd_lt {n d : Int} {k : Nat} (h : d ≠ 0) (hd : d.natAbs < 2 ^ k) : (Dw.gd n d).natAbs < 2 ^ k := by
  rw [Dw.gd_abs]
  have h1 : Int.gcd n d ≤ d.natAbs := Nat.le_of_dvd (by omega) (Nat.gcd_dvd_right _ _)
  omega

theorem rat_gf {n d : Int} {k : Nat} (h : d ≠ 0) (hn : n.natAbs < 2 ^ k) (hd : d.natAbs < 2 ^ k) : GF k (rat n d) := by
  have g0 := Dw.gd_ne (n := n) h
  have le : ∀ a b c : Int, a ≠ 0 → a * b = c → b.natAbs ≤ c.natAbs := fun a b c z e => by
    rw [← e, Int.natAbs_mul]
    exact Nat.le_mul_of_pos_left _ (by omega)
  have h1 := le _ _ _ g0 (Dw.rn_eq (n := n) h)
  have h2 := le _ _ _ g0 (Dw.rd_eq (n := n) h)
  refine ⟨by simp only [rat]; omega, by simp only [rat]; omega, Dw.rd_pos h, ?_⟩
  have h1 := Dw.rd_pos (n := n) h
  have h2 := Dw.r_gcd (n := n) h
  simp only [isFr, rat, h2, decide_true, Bool.and_true]
  exact decide_eq_true (by omega)

/-- the fraction n / d -/
def ratq (n d : Int) (h : d ≠ 0) (hn : n.natAbs < 2 ^ 1000) (hd : d.natAbs < 2 ^ 1000) : Fq := ⟨rat n d, rat_gf h hn hd⟩

theorem R_div (a : Fq) : R a = (a.p.1 : Rat) / (a.p.2 : Rat) := by
  have h := Rat.num_divInt_den (R a)
  rw [← h, Rat.divInt_eq_div]
  have e : ((R a).den : Int) = a.p.2 := by show ((a.p.2.toNat : Nat) : Int) = _; have := a.pos; omega
  rw [e]
  rfl

theorem R_ratq {n d : Int} (h : d ≠ 0) (hn : n.natAbs < 2 ^ 1000) (hd : d.natAbs < 2 ^ 1000) : R (ratq n d h hn hd) = (n : Rat) / (d : Rat) := by
  have e1 := Dw.rn_eq (n := n) h
  have e2 := Dw.rd_eq (n := n) h
  have g0 := Dw.gd_ne (n := n) h
  rw [R_div]
  show ((Dw.rn n d : Int) : Rat) / ((Dw.rd n d : Int) : Rat) = _
  have n1 : (n : Rat) = ((Dw.gd n d : Int) : Rat) * ((Dw.rn n d : Int) : Rat) := by rw [← Rat.intCast_mul, e1]
  have n2 : (d : Rat) = ((Dw.gd n d : Int) : Rat) * ((Dw.rd n d : Int) : Rat) := by rw [← Rat.intCast_mul, e2]
  have g1 : ((Dw.gd n d : Int) : Rat) ≠ 0 := fun z => g0 (Rat.intCast_eq_zero_iff.mp z)
  have g2 : ((Dw.rd n d : Int) : Rat) ≠ 0 := fun z => by
    have := Rat.intCast_eq_zero_iff.mp z
    have := Dw.rd_pos (n := n) h
    omega
  rw [n1, n2]
  grind

theorem d__law_reduced_eq {n d : Int} (h : d ≠ 0) (hn : n.natAbs < 2 ^ 1000) (hd : d.natAbs < 2 ^ 1000) : d__law_reduced [dI n, dI d] = pure (.d (fq (ratq n d h hn hd))) := by
  have e1 : (0 : Int) - (Int.gcd n d : Int) = -(Int.gcd n d : Int) := by omega
  have g0 := Dw.gd_ne (n := n) h
  have d1 := div_ok (a := n) g0 (gd_lt (n := n) h hd) (by decide)
  have d2 := div_ok (a := d) g0 (gd_lt (n := n) h hd) (by decide)
  by_cases z : d < 0
  · have eg : Dw.gd n d = -(Int.gcd n d : Int) := if_pos z
    rw [eg] at d1 d2
    simp [d__law_reduced, u__law_reduced, d__law_gcd_eq, z, d1, d2]
    simp [fq, ratq, fr, rat, Dw.rn, Dw.rd, eg]
  · have eg : Dw.gd n d = (Int.gcd n d : Int) := if_neg z
    rw [eg] at d1 d2
    simp [d__law_reduced, u__law_reduced, d__law_gcd_eq, z, d1, d2]
    simp [fq, ratq, fr, rat, Dw.rn, Dw.rd, eg]

/-- a whole number -/
def intq (i : Int) (h : i.natAbs < 2 ^ 1000) : Fq := ⟨(i, 1), h, by show (1 : Int).natAbs < _; exact Nat.one_lt_two_pow (by decide), by show (0 : Int) < 1; decide, by
  show (decide ((1 : Int) ≤ 1) && decide (Int.gcd i 1 = 1)) = true
  rw [Int.gcd_one_right]
  rfl⟩

theorem fq_int (i : Int) (h : i.natAbs < 2 ^ 1000) : PyData.tuple [.int i, .int 1] = fq (intq i h) := rfl

theorem p1000 {k : Nat} {i : Int} (h : i.natAbs < 2 ^ k) (hk : k ≤ 1000 := by decide) : i.natAbs < 2 ^ 1000 := Nat.lt_of_lt_of_le h (Nat.pow_le_pow_right (by decide) hk)

theorem bound_run {s : Int} (s0 : 1 ≤ s) (s1 : s ≤ 1000) {β : Type} {f : SD → M β} {P : β → Prop} {E : Exn → Prop} (h : ∀ a : Fq, GF 20 a.p → (f (.d (fq a))).run P E) : (d__law_bound [.src, .d (.int s)] >>= f).run P E := by
  suffices key : (d__law_bound [.src, .d (.int s)]).run (fun y => ∃ a : Fq, y = .d (fq a) ∧ GF 20 a.p) E from bnd_run key fun o q => by
    obtain ⟨a, rfl, g⟩ := q
    exact h a g
  refine def_run ?_
  have m4 : gMul (.d (.int 4)) (.d (.int s)) = some (dI (4 * s)) := mul_ok (n := 3) (m := 10) (by decide) (by omega) (by decide)
  have m2 : gMul (.d (.int 2)) (.d (.int s)) = some (dI (2 * s)) := mul_ok (n := 3) (m := 10) (by decide) (by omega) (by decide)
  have dv : gDiv (.d (.int s)) (.d (.int 2)) = some (dI (s.fdiv 2)) := div_ok (n := 2) (by decide) (by decide) (by decide)
  have f1 : s.fdiv 2 = s / 2 := Int.fdiv_eq_ediv_of_nonneg s (by decide)
  simp [u__law_bound]
  refine drawS (by decide) (by decide) fun v v0 v1 => ?_
  by_cases vz : v = 0
  · simp [vz, m4, m2]
    refine drawS (by omega) (by omega) fun x x0 x1 => ?_
    simp
    refine drawS (by decide) (by decide) fun y y0 y1 => ?_
    have d0 : 2 + y ≠ 0 := by omega
    have n1 : (x - 2 * s).natAbs < 2 ^ 20 := by omega
    have n2 : (2 + y).natAbs < 2 ^ 20 := by omega
    simp [d__law_reduced_eq d0 (p1000 n1) (p1000 n2)]
    exact ⟨_, rfl, rat_gf d0 n1 n2⟩
  · simp [vz, dv]
    refine drawS (by omega) (by omega) fun x x0 x1 => ?_
    have n1 : (x - s.fdiv 2).natAbs < 2 ^ 20 := by omega
    simp [fq_int _ (p1000 n1)]
    exact ⟨_, rfl, n1, by show (1 : Int).natAbs < _; decide, (intq _ (p1000 n1)).ok.2.2⟩

/-! ### an interval -/

def prD (x : Fq × Fq) : PyData := .tuple [fq x.1, fq x.2]

@[simp] theorem ixp0 (x : Fq × Fq) : gIx (.d (prD x)) (.d (.int 0)) = some (.d (fq x.1)) := by simp [prD]

@[simp] theorem ixp1 (x : Fq × Fq) : gIx (.d (prD x)) (.d (.int 1)) = some (.d (fq x.2)) := by simp [prD]

def PrOk (k : Nat) (x : Fq × Fq) : Prop := GF k x.1.p ∧ GF k x.2.p ∧ R x.1 ≤ R x.2

theorem PrOk.up {k m : Nat} {x : Fq × Fq} (h : PrOk k x) (hk : k ≤ m) : PrOk m x := ⟨h.1.up hk, h.2.1.up hk, h.2.2⟩

theorem lay_map {α : Type} {enc : α → PyData} {d : Nat} (h : ∀ x, (enc x).canLay0 = true ∧ (enc x).depth ≤ d) : ∀ xs : List α, PyData.canLayAll0 (xs.map enc) = true ∧ PyData.depthAll (xs.map enc) ≤ d
  | [] => by simp [PyData.canLayAll0, PyData.depthAll]
  | x :: r => by
    obtain ⟨h1, h2⟩ := lay_map h r
    obtain ⟨h3, h4⟩ := h x
    simp [PyData.canLayAll0, PyData.depthAll, h1, h3]
    omega

theorem shaped_map {α : Type} {enc : α → PyData} {d : Nat} (h : ∀ x, (enc x).canLay0 = true ∧ (enc x).depth ≤ d) (hd : d ≤ 60) (xs : List α) : SeqAt.shaped (.list (xs.map enc)) = true ∧ SeqAt.shaped (.tuple (xs.map enc)) = true := by
  obtain ⟨h1, h2⟩ := lay_map h xs
  constructor
  · show (PyData.canLay0 (.list (xs.map enc)) && decide (PyData.depth (.list (xs.map enc)) ≤ 64)) = true
    simp [PyData.canLay0, PyData.depth, h1]
    omega
  · show (PyData.canLay0 (.tuple (xs.map enc)) && decide (PyData.depth (.tuple (xs.map enc)) ≤ 64)) = true
    simp [PyData.canLay0, PyData.depth, h1]
    omega

theorem lay_pr (x : Fq × Fq) : (prD x).canLay0 = true ∧ (prD x).depth ≤ 2 := by
  simp [prD, PyData.canLay0, PyData.canLayAll0, PyData.depth, PyData.depthAll, lay_q, depth_q]

theorem neNil {α : Type} {enc : α → PyData} {d : Nat} (h : ∀ x, (enc x).canLay0 = true ∧ (enc x).depth ≤ d) (hd : d ≤ 60) (xs : List α) : gNe (.d (.list (xs.map enc))) (.d (.list [])) = some (dB (!xs.isEmpty)) := by
  have s1 := (shaped_map h hd xs).1
  have s2 : SeqAt.shaped (.list []) = true := by decide +kernel
  have e : PyData.eqv (.list (xs.map enc)) (.list []) = xs.isEmpty := by cases xs <;> rfl
  show (if (SeqAt.shaped (.list (xs.map enc)) && SeqAt.shaped (.list [])) = true then some (dB (!PyData.eqv (.list (xs.map enc)) (.list []))) else none) = _
  rw [s1, s2, e]
  rfl

theorem gf_one {k : Nat} {p : Fr} (h : GF k p) : GF (k + 1) (p.1 + p.2, p.2) := by
  obtain ⟨h1, h2, h3, h4⟩ := h
  refine ⟨by show (p.1 + p.2).natAbs < _; rw [Nat.pow_succ]; omega, Nat.lt_of_lt_of_le h2 (Nat.pow_le_pow_right (by decide) (Nat.le_succ k)), h3, ?_⟩
  obtain ⟨f1, f2⟩ := Bool.and_eq_true_iff.mp h4
  have g : Int.gcd (p.1 + p.2) p.2 = Int.gcd p.1 p.2 := by simp
  show (decide (1 ≤ p.2) && decide (Int.gcd (p.1 + p.2) p.2 = 1)) = true
  rw [g, f1, f2]
  rfl

/-- one more -/
def oneq (a : Fq) (h : GF 999 a.p) : Fq := ⟨(a.p.1 + a.p.2, a.p.2), gf_one h⟩

theorem R_one (a : Fq) (h : GF 999 a.p) : R a < R (oneq a h) := by
  have := a.pos
  have e := less_R a (oneq a h)
  refine of_decide_eq_true (e.symm.trans (decide_eq_true ?_))
  show a.p.1 * a.p.2 < (a.p.1 + a.p.2) * a.p.2
  rw [Int.add_mul]
  have := Int.mul_pos this this
  omega

theorem interval_run {s : Int} (s0 : 1 ≤ s) (s1 : s ≤ 1000) {k : Nat} (k0 : 20 ≤ k) (k1 : k ≤ 900) {ps : List (Fq × Fq)} (hp : ∀ x ∈ ps, PrOk k x) (hl : ps.length ≤ 1000) {β : Type} {f : SD → M β} {P : β → Prop} {E : Exn → Prop} (h : ∀ x : Fq × Fq, PrOk (k + 1) x → (f (.d (prD x))).run P E) :
    (d__law_interval [.src, .d (.int s), .d (.list (ps.map prD))] >>= f).run P E := by
  suffices key : (d__law_interval [.src, .d (.int s), .d (.list (ps.map prD))]).run (fun y => ∃ x : Fq × Fq, y = .d (prD x) ∧ PrOk (k + 1) x) E from bnd_run key fun o q => by
    obtain ⟨a, rfl, g⟩ := q
    exact h a g
  refine def_run ?_
  have ne := neNil lay_pr (by decide) ps
  simp [u__law_interval, ne]
  refine bound_run s0 s1 fun lo g1 => ?_
  simp
  refine bound_run s0 s1 fun hi g2 => ?_
  simp
  refine drawS (by decide) (by decide) fun way w0 w1 => ?_
  have hk : ∀ {a : Fq}, GF k a.p → GF (k + 1) a.p := fun g => g.up (by omega)
  have tail : ∀ lo : Fq, GF k lo.p → (d__law_less [SD.d (fq hi), SD.d (fq lo)] >>= fun a => M.lift (truD a) >>= fun a => if a = true then (pure (Out.rt (SD.d (PyData.tuple [fq hi, fq lo]))) : M Out) else
      ((if hi = lo then pure (decide (2 < way)) else pure false : M Bool) >>= fun a => if a = true then pure (Out.rt (SD.d (PyData.tuple [fq lo, PyData.tuple [PyData.int (lo.p.fst + lo.p.snd), PyData.int lo.p.snd]]))) else pure (Out.rt (SD.d (PyData.tuple [fq lo, fq hi]))))).run
    (fun o => match o with
      | Out.rt y => ∃ a b, y = SD.d (prD (a, b)) ∧ PrOk (k + 1) (a, b)
      | Out.nx ρ => ∃ a b, PyData.none = prD (a, b) ∧ PrOk (k + 1) (a, b)
      | x => False) E := by
    intro lo gl
    have gh : GF k hi.p := g2.up k0
    by_cases c1 : R hi < R lo
    · simp [d__law_less_eq, c1]
      exact ⟨hi, lo, rfl, hk gh, hk gl, Rat.le_of_lt c1⟩
    · have c3 : R lo ≤ R hi := Rat.not_lt.mp c1
      by_cases c2 : hi = lo
      · by_cases c4 : 2 < way
        · simp [d__law_less_eq, c1, c2, c4]
          have g9 : GF 999 lo.p := gl.up (by omega)
          exact ⟨lo, oneq lo g9, rfl, hk gl, gf_one gl, Rat.le_of_lt (R_one lo g9)⟩
        · subst c2
          simp [d__law_less_eq, c4]
          exact ⟨hi, hi, rfl, hk gl, hk gl, c3⟩
      · simp [d__law_less_eq, c1, c2]
        exact ⟨lo, hi, rfl, hk gl, hk gh, c3⟩
  by_cases pn : ps = []
  · simp [pn]
    exact tail lo (g1.up k0)
  · by_cases wz : way = 0
    · simp [pn, wz]
      refine choice_run prD ps pn (by omega) fun x hx => ?_
      exact ⟨x.1, x.2, rfl, (hp x hx).up (by omega)⟩
    · by_cases wo : way = 1
      · simp [pn, wo]
        refine choice_run prD ps pn (by omega) fun x hx => ?_
        refine drawS (by decide) (by decide) fun v v0 v1 => ?_
        have : v = 0 ∨ v = 1 := by omega
        rcases this with rfl | rfl
        · simp
          subst wo
          have t := tail x.1 (hp x hx).1
          simp at t
          exact t
        · simp
          subst wo
          have t := tail x.2 (hp x hx).2.1
          simp at t
          exact t
      · simp [pn, wz, wo]
        exact tail lo (g1.up k0)

end Dd
/-! L07 -/
namespace Dd
open PySem PySem.Spec PyProof.Rows L2

/-! ### sorted -/

def srt {α : Type} (enc : α → PyData) (xs : List α) : List α := xs.mergeSort fun a b => !PySem.W.dataLt (enc b) (enc a)

instance ln_srt {α : Type} {n : Nat} {enc : α → PyData} {xs : List α} [h : Ln n xs] : Ln n (srt enc xs) := ln_sort

theorem sorted_eq {α : Type} {enc : α → PyData} (xs : List α) (al : ∀ a b, PySem.W.alike (enc a) (enc b) = true) (so : (∀ a, ∃ x r, enc a = .tuple (x :: r)) ∨ ∀ a, enc a ≠ .none ∧ ∀ xs, enc a ≠ .tuple xs) (ly : ∀ a, (enc a).canLay0 = true ∧ (enc a).depth ≤ 30) :
    bSorted [.d (.list (xs.map enc))] = pure (.d (.list ((srt enc xs).map enc))) := by
  have hn : PySem.W.AllAlike (xs.map enc) ∧ PySem.W.Sortable (xs.map enc) ∧ (∀ d ∈ xs.map enc, d.canLay0 = true ∧ d.depth ≤ 30) := by
    refine ⟨fun d hd d' hd' => ?_, ?_, fun d hd => ?_⟩
    · obtain ⟨a, _, rfl⟩ := List.mem_map.mp hd
      obtain ⟨b, _, rfl⟩ := List.mem_map.mp hd'
      exact al a b
    · rcases so with so | so
      · exact .inl fun d hd => by obtain ⟨a, _, rfl⟩ := List.mem_map.mp hd; exact so a
      · exact .inr fun d hd => by obtain ⟨a, _, rfl⟩ := List.mem_map.mp hd; exact so a
    · obtain ⟨a, _, rfl⟩ := List.mem_map.mp hd
      exact ly a
  show (M.need _ >>= _) = _
  rw [need_of hn, sp_pure_bnd]
  unfold srt
  rw [List.map_mergeSort (r := fun a b => !PySem.W.dataLt (enc b) (enc a)) (s := PySem.W.dataLe false (fun d => d)) (fun a _ b _ => rfl)]

theorem srt_perm {α : Type} (enc : α → PyData) (xs : List α) : (srt enc xs).Perm xs := List.mergeSort_perm _ _

theorem srt_pw {α : Type} (enc : α → PyData) (xs : List α) : (srt enc xs).Pairwise fun a b => PySem.W.dataLt (enc b) (enc a) = false := by
  have t := PySem.W.sortLe_total (listOrd itemOrd) false fun a : α => PySem.W.keyToks (enc a)
  have h := List.pairwise_mergeSort (le := fun a b : α => !PySem.W.dataLt (enc b) (enc a)) t.trans (fun a b => by
    rcases t.total a b with h | h
    · exact Bool.or_eq_true_iff.mpr (.inl h)
    · exact Bool.or_eq_true_iff.mpr (.inr h)) xs
  exact h.imp fun h => by simpa using h

theorem mem_srt {α : Type} {enc : α → PyData} {xs : List α} {x : α} : x ∈ srt enc xs ↔ x ∈ xs := (srt_perm enc xs).mem_iff

theorem lt_n (a b : Nm) : PySem.W.dataLt (nS a) (nS b) = decide (a < b) := by
  show lexLt itemOrd [.inr a.s.cps.toList] [.inr b.s.cps.toList] = _
  rw [lex_cons]
  show (strKind.blt _ _ || (!strKind.blt _ _ && false)) = _
  rw [Bool.and_false, Bool.or_false]
  rfl

theorem lt_r {a b : Row} (h : a.nm ≠ b.nm) : PySem.W.dataLt (rw' a) (rw' b) = decide (a.nm < b.nm) := by
  show lexLt itemOrd (.inl 1 :: .inr a.nm.s.cps.toList :: _) (.inl 1 :: .inr b.nm.s.cps.toList :: _) = _
  rw [lex_self, lex_diff (by intro z; exact h (Nm.ext (str_ext (Sum.inr.inj z))))]
  rfl

theorem lay_n (a : Nm) : (nS a).canLay0 = true ∧ (nS a).depth ≤ 0 := ⟨a.lay, Nat.le_refl 0⟩

theorem lay_r (r : Row) : (rw' r).canLay0 = true ∧ (rw' r).depth ≤ 2 := by
  simp [rw', PyData.canLay0, PyData.canLayAll0, PyData.depth, PyData.depthAll, lay_q, depth_q]
  exact r.nm.lay

theorem sorted_n (ns : List Nm) : bSorted [.d (.list (ns.map nS))] = pure (.d (.list ((srt nS ns).map nS))) :=
  sorted_eq ns (fun _ _ => rfl) (.inr fun a => ⟨(fun z => nomatch z), (fun x z => nomatch z)⟩) fun a => ⟨a.lay, by have := (lay_n a).2; omega⟩

theorem sorted_r (rs : List Row) : bSorted [.d (.list (rs.map rw'))] = pure (.d (.list ((srt rw' rs).map rw'))) :=
  sorted_eq rs (fun _ _ => rfl) (.inl fun a => ⟨_, _, rfl⟩) fun a => ⟨(lay_r a).1, by have := (lay_r a).2; omega⟩

theorem srt_n_pw (ns : List Nm) : (srt nS ns).Pairwise fun a b => ¬ b < a := (srt_pw nS ns).imp fun h => by
  rw [lt_n] at h
  exact of_decide_eq_false h

theorem srt_r_asc {rs : List Row} (h : (nms rs).Nodup) : Asc (srt rw' rs) := by
  have nd : (nms (srt rw' rs)).Nodup := ((srt_perm rw' rs).map _).nodup_iff.mpr h
  have nd' : (srt rw' rs).Pairwise fun a b => a.nm ≠ b.nm := List.pairwise_map.mp nd
  refine (List.pairwise_and_iff.mpr ⟨srt_pw rw' rs, nd'⟩).imp fun {a b} ⟨h1, h2⟩ => ?_
  rw [lt_r h2.symm] at h1
  have h1 := of_decide_eq_false h1
  by_cases z : a.nm < b.nm
  · exact z
  · exact absurd (nm_tri z h1) h2

/-! ### the seven names -/

@[irreducible] def nm7 : List Nm := [⟨"a", by decide +kernel⟩, ⟨"b", by decide +kernel⟩, ⟨"bb", by decide +kernel⟩, ⟨"item", by decide +kernel⟩, ⟨"d", by decide +kernel⟩, ⟨"xyzxyz", by decide +kernel⟩, ⟨"z", by decide +kernel⟩]

theorem nm7_eq : [PyData.str "a", .str "b", .str "bb", .str "item", .str "d", .str "xyzxyz", .str "z"] = nm7.map nS := by with_unfolding_all rfl

theorem nm7_len : nm7.length = 7 := by with_unfolding_all rfl

theorem nm7_nodup : nm7.Nodup := by
  unfold nm7
  decide +kernel

/-- what the law makes -/
structure Gen (m : Int) (rs : List Row) : Prop where
  iv : IvOk rs
  ne : rs ≠ []
  len : (rs.length : Int) ≤ m
  gf : ∀ r ∈ rs, GF 30 r.lo.p ∧ GF 30 r.hi.p
  inn : ∀ r ∈ rs, r.nm ∈ nm7

theorem rows_of {k : Nat} : ∀ (ns : List Nm) (ps : List (Fq × Fq)), ns.length = ps.length → (∀ x ∈ ps, PrOk k x) → ∃ rs : List Row, rs.map rw' = (ns.zip ps).map (fun p => .tuple [nS p.1, fq p.2.1, fq p.2.2]) ∧ nms rs = ns ∧ ∀ r ∈ rs, GF k r.lo.p ∧ GF k r.hi.p
  | [], [], _, _ => ⟨[], rfl, rfl, by simp⟩
  | n :: ns, x :: ps, h, hp => by
    obtain ⟨rs, h1, h2, h3⟩ := rows_of ns ps (by simpa using h) fun y hy => hp y (List.mem_cons_of_mem _ hy)
    obtain ⟨g1, g2, g3⟩ := hp x List.mem_cons_self
    refine ⟨⟨n, x.1, x.2, g3⟩ :: rs, ?_, ?_, ?_⟩
    · rw [List.zip_cons_cons, List.map_cons, List.map_cons, h1]
      rfl
    · show n :: nms rs = _
      rw [h2]
    · intro r hr
      rcases List.mem_cons.mp hr with rfl | hr
      · exact ⟨g1, g2⟩
      · exact h3 r hr

theorem range_zip {ns : List Nm} {ps : List (Fq × Fq)} (h : ns.length = ps.length) : (List.range ns.length).map (fun i => PyData.tuple [(ns.map nS).getD i .none, ((ps.map fun x => fq x.1).getD i .none), ((ps.map fun x => fq x.2).getD i .none)]) = (ns.zip ps).map (fun p => .tuple [nS p.1, fq p.2.1, fq p.2.2]) := by
  refine List.ext_getElem? fun i => ?_
  rw [List.getElem?_map, List.getElem?_map]
  by_cases hi : i < ns.length
  · rw [List.getElem?_range hi, List.getElem?_eq_getElem (by rw [List.length_zip]; omega), List.getElem_zip]
    simp [List.getElem?_eq_getElem hi, List.getElem?_eq_getElem (h ▸ hi : i < ps.length)]
  · rw [List.getElem?_eq_none (by rw [List.length_range]; omega), List.getElem?_eq_none (by rw [List.length_zip]; omega)]
    rfl

@[simp] theorem sl_to {α : Type} (enc : α → PyData) (xs : List α) (k : Nat) : gSl (.d (.list (xs.map enc))) none (some (k : Int)) = some (.d (.list ((xs.take k).map enc))) := by
  show some (SD.d (.list (cutD (xs.map enc) none (some (k : Int))))) = _
  rw [cut_to, List.map_take]

theorem intervals_run {m s : Int} (m0 : 1 ≤ m) (m1 : m ≤ 7) (s0 : 1 ≤ s) (s1 : s ≤ 1000) {β : Type} {f : SD → M β} {P : β → Prop} {E : Exn → Prop} (h : ∀ rs : List Row, Gen m rs → (f (.d (.list (rs.map rw')))).run P E) :
    (d__law_intervals [.src, .d (.int m), .d (.int s)] >>= f).run P E := by
  suffices key : (d__law_intervals [.src, .d (.int m), .d (.int s)]).run (fun y => ∃ rs : List Row, y = .d (.list (rs.map rw')) ∧ Gen m rs) E from bnd_run key fun o q => by
    obtain ⟨a, rfl, g⟩ := q
    exact h a g
  refine def_run ?_
  simp [u__law_intervals]
  refine drawS (by omega) (by omega) fun v v0 v1 => ?_
  simp
  rw [nm7_eq]
  refine shuffled_run nS nm7 (by rw [nm7_len]; decide) fun ys py => ?_
  obtain ⟨k, hk⟩ : ∃ k : Nat, 1 + v = (k : Int) := ⟨(1 + v).toNat, by omega⟩
  have kl : k ≤ 7 := by omega
  have yl : ys.length = 7 := py.length_eq.trans nm7_len
  have tl : (ys.take k).length = k := by rw [List.length_take]; omega
  simp [hk, -List.map_take]
  generalize PyData.list (nm7.map nS) = c3
  refine seq_runX ?_
  refine for_runX (fun n : Nm => .d (nS n)) (fun done ρ => ∃ (ps : List (Fq × Fq)) (a : SD), ρ = [.src, .d (.int m), .d (.int s), .d c3, .d (.int k), .d (.list ((ys.take k).map nS)), .own (ps.map prD), a, .no] ∧ ps.length = done.length ∧ ∀ x ∈ ps, PrOk (20 + done.length) x) (ys.take k) ⟨[], .no, rfl, rfl, by simp⟩ (fun ρ hi => ?_) fun done x rest ρ ed hi => ?_
  · obtain ⟨ps, a, e, pl, hp⟩ := hi
    rw [tl] at pl hp
    subst e
    have bg : bigI (k : Int) = true := big_of (by omega) (by omega)
    simp [bg, rangeD, lcM_map, frzS, -List.map_take]
    have el : (ys.take k).length = ps.length := by rw [tl, pl]
    obtain ⟨rs, e1, e2, e3⟩ := rows_of (ys.take k) ps el hp
    rw [lcF_congr (B' := fun _ => pure true) (T' := fun i => pure (.d (.tuple [((ys.take k).map nS).getD i .none, ((ps.map fun x => fq x.1).getD i .none), ((ps.map fun x => fq x.2).getD i .none)]))) (fun _ _ => rfl) (fun i hi => ?_)]
    · haveI : Ln 7 (List.range k) := ⟨by rw [List.length_range]; exact kl⟩
      rw [sp_lcT (n := 7) (by decide)]
      have rz := range_zip el
      rw [tl] at rz
      rw [rz, ← e1, sp_pure_bnd, sorted_r]
      have nd : (nms rs).Nodup := by
        rw [e2]
        exact (py.nodup_iff.mpr nm7_nodup).sublist (List.take_sublist _ _)
      have rl : rs.length = k := by
        have := congrArg List.length e2
        rw [List.length_map, tl] at this
        exact this
      have sl : (srt rw' rs).length = k := by rw [(srt_perm rw' rs).length_eq, rl]
      refine ⟨srt rw' rs, rfl, ⟨srt_r_asc nd, by omega⟩, ?_, by omega, fun r hr => ?_, fun r hr => ?_⟩
      · intro z
        rw [z] at sl
        simp at sl
        omega
      · have := e3 r (mem_srt.mp hr)
        exact ⟨this.1.up (by omega), this.2.up (by omega)⟩
      · have : r.nm ∈ nms rs := List.mem_map_of_mem (mem_srt.mp hr)
        rw [e2] at this
        exact py.mem_iff.mp (List.mem_of_mem_take this)
    · have hi := List.mem_range.mp hi
      have h1 : atI ((ys.take k).map nS) (i : Int) = some (((ys.take k).map nS).getD i .none) := atI_nat (by rw [List.getD_eq_getElem?_getD, List.getElem?_eq_getElem (by rw [List.length_map, tl]; exact hi)]; rfl)
      have h2 : atI (ps.map prD) (i : Int) = some (prD ps[i]) := atI_nat (by rw [List.getElem?_map, List.getElem?_eq_getElem (by omega)]; rfl)
      rw [h1, h2]
      have h3 : i < ps.length := by omega
      simp [List.getElem?_eq_getElem h3]
  · obtain ⟨ps, a, e, pl, hp⟩ := hi
    subst e
    have dl : done.length < 7 := by
      have := congrArg List.length ed
      rw [tl, List.length_append, List.length_cons] at this
      omega
    have sz : szOk (ps.length + 1) = true := decide_eq_true (by omega)
    simp [-List.map_take, sz]
    refine guard_run ?_
    refine run_bind_pure (interval_run s0 s1 (k := 20 + done.length) (by omega) (by omega) hp (by omega) fun y hy => ⟨?_, ?_⟩)
    · rfl
    · refine ⟨ps ++ [y], ⟨.d (nS x), ?_⟩, by simp [pl], ?_⟩
      · simp
      · intro a b hab
        rcases List.mem_append.mp hab with h1 | h1
        · exact (hp _ h1).up (by omega)
        · rw [List.mem_singleton.mp h1]
          exact hy

end Dd
/-! L08 -/
namespace Dd
open PySem PySem.Spec PyProof.Rows L2

/-! ### dicts by name -/

/-- a dict from names -/
def dN {α : Type} (enc : α → PyData) (kvs : List (Nm × α)) : PyData := .dict (kvs.map fun p => (nS p.1, enc p.2))

def lkN {α : Type} (kvs : List (Nm × α)) (n : Nm) : Option α := (kvs.find? fun p => decide (p.1 = n)).map (·.2)

theorem valD_n {α : Type} (enc : α → PyData) (n : Nm) : ∀ kvs : List (Nm × α), valD (kvs.map fun p => (nS p.1, enc p.2)) (.inr n.s) = (lkN kvs n).map enc
  | [] => rfl
  | (k, v) :: r => by
    rw [List.map_cons]
    show (if keyOf (nS k) = some (.inr n.s) then some (enc v) else valD (r.map fun p => (nS p.1, enc p.2)) (.inr n.s)) = _
    unfold lkN
    by_cases h : k = n
    · subst h
      rw [if_pos (show keyOf (nS k) = some (.inr k.s) from rfl), List.find?_cons_of_pos (by simp)]
      rfl
    · rw [if_neg (by intro z; exact h (Nm.ext (Sum.inr.inj (Option.some.inj z)))), List.find?_cons_of_neg (by simpa using h), valD_n enc n r]
      rfl

@[simp] theorem ix_dN {α : Type} (enc : α → PyData) (kvs : List (Nm × α)) (n : Nm) : gIx (.d (dN enc kvs)) (.d (.str n.s)) = (lkN kvs n).map fun v => .d (enc v) := by
  show (keyOf (nS n)).bind (fun q => (valD _ q).map SD.d) = _
  show (valD (kvs.map fun p => (nS p.1, enc p.2)) (.inr n.s)).map SD.d = _
  rw [valD_n, Option.map_map]
  rfl

@[simp] theorem in_dN {α : Type} (enc : α → PyData) (kvs : List (Nm × α)) (n : Nm) : gIn (.d (.str n.s)) (.d (dN enc kvs)) = some (dB (lkN kvs n).isSome) := by
  show (keyOf (nS n)).map (fun q => dB (valD (kvs.map fun p => (nS p.1, enc p.2)) q).isSome) = _
  show some (dB (valD (kvs.map fun p => (nS p.1, enc p.2)) (.inr n.s)).isSome) = _
  rw [valD_n, Option.isSome_map]

@[simp] theorem notIn_dN {α : Type} (enc : α → PyData) (kvs : List (Nm × α)) (n : Nm) : gNotIn (.d (.str n.s)) (.d (dN enc kvs)) = some (dB (!(lkN kvs n).isSome)) := by
  show (keyOf (nS n)).map (fun q => dB (!(valD (kvs.map fun p => (nS p.1, enc p.2)) q).isSome)) = _
  show some (dB (!(valD (kvs.map fun p => (nS p.1, enc p.2)) (.inr n.s)).isSome)) = _
  rw [valD_n, Option.isSome_map]

theorem pairsD_n {α : Type} (enc : α → PyData) : ∀ kvs : List (Nm × α), pairsD (kvs.map fun p => .tuple [nS p.1, enc p.2]) = some (kvs.map fun p => (.inr p.1.s, enc p.2))
  | [] => rfl
  | (k, v) :: r => by
    rw [List.map_cons]
    show (keyOf (nS k)).bind (fun q => (pairsD (r.map fun p => .tuple [nS p.1, enc p.2])).map ((q, enc v) :: ·)) = _
    rw [pairsD_n enc r]
    rfl

/-- put, as a dict does -/
def putN {α : Type} (kvs : List (Nm × α)) (k : Nm) (v : α) : List (Nm × α) := if (kvs.any fun p => decide (p.1 = k)) = true then kvs.map (fun p => if p.1 = k then (p.1, v) else p) else kvs ++ [(k, v)]

abbrev kvD {α : Type} (enc : α → PyData) (kvs : List (Nm × α)) : List (Key × PyData) := kvs.map fun p => (.inr p.1.s, enc p.2)

theorem key_eq (a b : Nm) : ((Sum.inr a.s : Key) = .inr b.s) ↔ a = b := ⟨fun h => Nm.ext (Sum.inr.inj h), fun h => h ▸ rfl⟩

theorem putD_n {α : Type} (enc : α → PyData) (kvs : List (Nm × α)) (k : Nm) (v : α) : putD (kvD enc kvs) (.inr k.s) (enc v) = kvD enc (putN kvs k v) := by
  unfold putD putN
  have e1 : ((kvD enc kvs).any fun p => decide (p.1 = .inr k.s)) = kvs.any fun p => decide (p.1 = k) := by
    rw [List.any_map]
    refine congrArg (fun f => kvs.any f) (funext fun p => decide_eq_decide.mpr (key_eq _ _))
  rw [e1]
  split
  · show List.map _ (List.map _ kvs) = List.map _ (List.map _ kvs)
    rw [List.map_map, List.map_map]
    refine List.map_congr_left fun p _ => ?_
    by_cases h : p.1 = k
    · subst h
      simp
    · simp only [Function.comp]
      rw [if_neg (by rw [key_eq]; exact h), if_neg h]
  · show _ = List.map _ (kvs ++ [(k, v)])
    rw [List.map_append]
    rfl

theorem mergeD_n {α : Type} (enc : α → PyData) : ∀ (more kvs : List (Nm × α)), mergeD (kvD enc kvs) (kvD enc more) = kvD enc (more.foldl (fun acc p => putN acc p.1 p.2) kvs)
  | [], _ => rfl
  | (k, v) :: r, kvs => by
    have := mergeD_n enc r (putN kvs k v)
    rw [← putD_n] at this
    exact this

theorem put_new {α : Type} {kvs : List (Nm × α)} {k : Nm} {v : α} (h : k ∉ kvs.map (·.1)) : putN kvs k v = kvs ++ [(k, v)] := by
  unfold putN
  rw [if_neg]
  rw [Bool.not_eq_true, List.any_eq_false]
  intro p hp
  simp only [decide_eq_true_eq]
  rintro rfl
  exact h (List.mem_map_of_mem hp)

theorem merge_new {α : Type} : ∀ (more kvs : List (Nm × α)), (kvs.map (·.1) ++ more.map (·.1)).Nodup → more.foldl (fun acc p => putN acc p.1 p.2) kvs = kvs ++ more
  | [], kvs, _ => by simp
  | (k, v) :: r, kvs, h => by
    have hk : k ∉ kvs.map (·.1) := by
      have := (List.nodup_append.mp h).2.2
      intro z
      exact this k z k (by simp) rfl
    rw [List.foldl_cons, put_new hk, merge_new r, List.append_assoc]
    · rfl
    · rw [List.map_append, List.append_assoc]
      exact h

theorem dict_n {α : Type} (enc : α → PyData) (kvs : List (Nm × α)) (h : (kvs.map (·.1)).Nodup) : bDict [.d (.list (kvs.map fun p => .tuple [nS p.1, enc p.2]))] = pure (.d (dN enc kvs)) := by
  show (M.lift (pairsD _) >>= _) = _
  rw [pairsD_n, sp_lift_some, sp_pure_bnd]
  have e := mergeD_n enc kvs []
  rw [merge_new kvs [] (by simpa using h)] at e
  have e : mergeD [] (kvD enc kvs) = kvD enc kvs := by simpa using e
  rw [e]
  show pure (SD.d (dictOf (kvD enc kvs))) = _
  unfold dictOf dN
  rw [List.map_map]
  rfl

theorem lkN_mem {α : Type} {kvs : List (Nm × α)} {n : Nm} {v : α} (h : lkN kvs n = some v) : (n, v) ∈ kvs := by
  unfold lkN at h
  obtain ⟨p, h1, h2⟩ := Option.map_eq_some_iff.mp h
  have h3 := List.find?_some h1
  have h4 := List.mem_of_find?_eq_some h1
  have : p.1 = n := by simpa using h3
  subst this
  subst h2
  exact h4

theorem lkN_of {α : Type} : ∀ {kvs : List (Nm × α)} {n : Nm} {v : α}, (kvs.map (·.1)).Nodup → (n, v) ∈ kvs → lkN kvs n = some v
  | (k, w) :: r, n, v, nd, h => by
    rw [List.map_cons, List.nodup_cons] at nd
    unfold lkN
    by_cases e : k = n
    · subst e
      rw [List.find?_cons_of_pos (by simp)]
      rcases List.mem_cons.mp h with h | h
      · cases h; rfl
      · exact absurd (List.mem_map_of_mem h) nd.1
    · rw [List.find?_cons_of_neg (by simpa using e)]
      rcases List.mem_cons.mp h with h | h
      · cases h; exact absurd rfl e
      · exact lkN_of nd.2 h

theorem lkN_none {α : Type} {kvs : List (Nm × α)} {n : Nm} : lkN kvs n = none ↔ n ∉ kvs.map (·.1) := by
  unfold lkN
  rw [Option.map_eq_none_iff, List.find?_eq_none]
  constructor
  · intro h z
    obtain ⟨p, h1, h2⟩ := List.mem_map.mp z
    have := h p h1
    simp at this
    exact this h2
  · intro h p hp
    simp
    intro e
    exact h (e ▸ List.mem_map_of_mem hp)

/-! ### the table of an interval list -/

def ivs (rs : List Row) : List (Nm × (Fq × Fq)) := rs.map fun r => (r.nm, (r.lo, r.hi))

abbrev tblD (rs : List Row) : PyData := dN prD (ivs rs)

theorem ivs_nms (rs : List Row) : (ivs rs).map (·.1) = nms rs := by unfold ivs; rw [List.map_map]; rfl

theorem asc_nodup {rs : List Row} (h : Asc rs) : (nms rs).Nodup := List.pairwise_map.mpr (h.imp fun {a b} (hlt : a.nm < b.nm) (e : a.nm = b.nm) => nm_irrefl a.nm (by rw [← e] at hlt; exact hlt))

theorem d__law_by_name_eq {rs : List Row} (h : IvOk rs) : d__law_by_name [.d (.list (rs.map rw'))] = pure (.d (tblD rs)) := by
  haveI := h.ln
  have e := dict_n prD (ivs rs) (by rw [ivs_nms]; exact asc_nodup h.asc)
  unfold ivs at e
  rw [List.map_map] at e
  simp [d__law_by_name, u__law_by_name, lcM_map]
  exact (congrArg (fun m => m >>= _) e).trans rfl

instance : Inhabited Row := ⟨⟨⟨"a", by decide +kernel⟩, intq 0 (by decide +kernel), intq 0 (by decide +kernel), Rat.le_refl⟩⟩

/-- the row of this name -/
def rowAt (rs : List Row) (n : Nm) : Row := (rs.find? fun r => decide (r.nm = n)).getD default

theorem rowAt_mem {rs : List Row} {n : Nm} (h : n ∈ nms rs) : rowAt rs n ∈ rs ∧ (rowAt rs n).nm = n := by
  unfold rowAt
  cases e : rs.find? fun r => decide (r.nm = n) with
  | none =>
    obtain ⟨r, h1, h2⟩ := List.mem_map.mp h
    have := List.find?_eq_none.mp e r h1
    simp at this
    exact absurd h2 this
  | some r =>
    have h1 := List.find?_some e
    exact ⟨List.mem_of_find?_eq_some e, by simpa using h1⟩

theorem asc_inj {rs : List Row} (h : Asc rs) {a b : Row} (ha : a ∈ rs) (hb : b ∈ rs) (e : a.nm = b.nm) : a = b := by
  induction rs with
  | nil => cases ha
  | cons x r ih =>
    have h := List.pairwise_cons.mp h
    rcases List.mem_cons.mp ha with e1 | h1
    · rcases List.mem_cons.mp hb with e2 | h2
      · rw [e1, e2]
      · exact absurd (h.1 b h2) (by rw [← e, e1]; exact nm_irrefl _)
    · rcases List.mem_cons.mp hb with e2 | h2
      · exact absurd (h.1 a h1) (by rw [e, e2]; exact nm_irrefl _)
      · exact ih h.2 h1 h2

theorem rowAt_self {rs : List Row} (h : Asc rs) {r : Row} (hr : r ∈ rs) : rowAt rs r.nm = r := by
  obtain ⟨h1, h2⟩ := rowAt_mem (List.mem_map_of_mem hr : r.nm ∈ nms rs)
  exact asc_inj h h1 hr h2

theorem lk_ivs {rs : List Row} (h : Asc rs) {n : Nm} (hn : n ∈ nms rs) : lkN (ivs rs) n = some ((rowAt rs n).lo, (rowAt rs n).hi) := by
  obtain ⟨h1, h2⟩ := rowAt_mem hn
  refine lkN_of (by rw [ivs_nms]; exact asc_nodup h) ?_
  exact List.mem_map.mpr ⟨_, h1, by rw [h2]⟩

/-! ### names, queries -/

theorem d__law_all_bounds_eq {rs : List Row} (h : IvOk rs) : d__law_all_bounds [.d (.list (rs.map rw'))] = pure (.d (.list ((rs.map (fun r => r.lo) ++ rs.map fun r => r.hi).map fq))) := by
  haveI := h.ln
  have sz : szOk (rs.length + rs.length) = true := decide_eq_true (by have := h.len; omega)
  simp [d__law_all_bounds, u__law_all_bounds, lcM_map, gAdd, sz]
  rfl

theorem neNil_n (ns : List Nm) : gNe (.d (.list (ns.map nS))) (.d (.list [])) = some (dB (!ns.isEmpty)) := neNil lay_n (by decide) ns

@[simp] theorem tuple_l (ds : List PyData) : bTuple [.d (.list ds)] = pure (.d (.tuple ds)) := rfl

structure NsOk (ns : List Nm) (rs : List Row) : Prop where
  ne : ns ≠ []
  nd : ns.Nodup
  inn : ∀ n ∈ ns, n ∈ nms rs
  len : ns.length ≤ rs.length

theorem names_run {rs : List Row} (h : IvOk rs) (rne : rs ≠ []) {β : Type} {f : SD → M β} {P : β → Prop} {E : Exn → Prop} (k : ∀ ns : List Nm, NsOk ns rs → (f (.d (.tuple (ns.map nS)))).run P E) :
    (d__law_names [.src, .d (.list (rs.map rw'))] >>= f).run P E := by
  suffices key : (d__law_names [.src, .d (.list (rs.map rw'))]).run (fun y => ∃ ns : List Nm, y = .d (.tuple (ns.map nS)) ∧ NsOk ns rs) E from bnd_run key fun o q => by
    obtain ⟨a, rfl, g⟩ := q
    exact k a g
  haveI := h.ln
  have nd := asc_nodup h.asc
  have hl : (nms rs).length = rs.length := List.length_map ..
  refine def_run ?_
  simp [u__law_names, lcM_map]
  have e0 : rs.map (fun x => PyData.str x.nm.s) = (nms rs).map nS := by rw [List.map_map]; rfl
  rw [e0]
  refine shuffled_run nS (nms rs) (by have := h.len; omega) fun ys py => ?_
  simp [lcM_map]
  have yl : ys.length = rs.length := by rw [py.length_eq, hl]
  refine bnd_run (S := fun ds => ∃ zs : List Nm, ds = zs.map nS ∧ zs.Sublist ys) (lcF_sub (β := Nat) nS ys [] (by have := h.len; simp; omega) (fun x _ S s1 s2 => ?_) (fun x _ => rfl) fun zs hz => ⟨zs, by simp, hz⟩) fun ds hds => ?_
  · rw [draw_eq (c := 4) (by decide +kernel)]
    simp
    refine any_run fun v v0 v1 => ?_
    by_cases z : 0 < v
    · rw [decide_eq_true z]; exact s1
    · rw [decide_eq_false z]; exact s2
  · obtain ⟨zs, rfl, sl⟩ := hds
    have one : gSl (SD.d (PyData.list ((nms rs).map nS))) none (some 1) = some (.d (.list (((nms rs).take 1).map nS))) := sl_to nS (nms rs) 1
    by_cases z : zs = []
    · subst z
      have e1 : gNe (.d (.list [])) (.d (.list [])) = some (dB false) := neNil_n []
      simp only [List.map_map] at one
      simp [e1, one]
      refine ⟨(nms rs).take 1, ?_, ?_, ?_, ?_, ?_⟩
      · simp
      · cases rs with
        | nil => exact absurd rfl rne
        | cons r t => simp
      · exact nd.sublist (List.take_sublist _ _)
      · exact fun n hn => List.mem_of_mem_take hn
      · rw [List.length_take]; omega
    · have e1 := neNil_n zs
      have e2 : zs.isEmpty = false := by cases zs with | nil => exact absurd rfl z | cons => rfl
      rw [e2] at e1
      simp [e1]
      refine ⟨zs, rfl, z, ?_, ?_, ?_⟩
      · exact (py.nodup_iff.mpr nd).sublist sl
      · exact fun n hn => py.mem_iff.mp (sl.subset hn)
      · have := sl.length_le; omega

def words7 : List PyData := [.str "sort", .str "min", .str "max", .str "above", .str "compare", .str "sort", .str "min"]

/-- what a query of the law is -/
structure QGen (q : Qy) (rs : List Row) (w : Nat := 30) : Prop where
  ok : q.Ok (nms rs)
  gf : ∀ ns t, q = .above ns t → GF w t.p

theorem NsOk.qy {ns : List Nm} {rs : List Row} (h : NsOk ns rs) (l : rs.length ≤ 24) {q : Qy} (e : q.ns = ns) : q.Ok (nms rs) := ⟨e ▸ h.ne, e ▸ h.nd, e ▸ h.inn, by rw [e]; exact Nat.le_trans h.len l⟩

theorem query_run {wd : Nat} {rs : List Row} (h : IvOk rs) (rne : rs ≠ []) (gf : ∀ r ∈ rs, GF wd r.lo.p ∧ GF wd r.hi.p) {β : Type} {f : SD → M β} {P : β → Prop} {E : Exn → Prop} (k : ∀ q : Qy, QGen q rs wd → (f (.d (qD q))).run P E) (hw : 30 ≤ wd := by decide) :
    (d__law_query [.src, .d (.list (rs.map rw'))] >>= f).run P E := by
  suffices key : (d__law_query [.src, .d (.list (rs.map rw'))]).run (fun y => ∃ q : Qy, y = .d (qD q) ∧ QGen q rs wd) E from bnd_run key fun o q => by
    obtain ⟨a, rfl, g⟩ := q
    exact k a g
  haveI := h.ln
  have nd := asc_nodup h.asc
  have hl : (nms rs).length = rs.length := List.length_map ..
  have e0 : rs.map (fun x => PyData.str x.nm.s) = (nms rs).map nS := by rw [List.map_map]; rfl
  refine def_run ?_
  simp [u__law_query]
  have ew : [PyData.str "sort", .str "min", .str "max", .str "above", .str "compare", .str "sort", .str "min"] = words7.map id := by simp [words7]
  rw [ew]
  refine choice_run id words7 (by simp [words7]) (by simp [words7]) fun w hw => ?_
  simp
  have plainq : ∀ ns : List Nm, NsOk ns rs → ∀ (P : Qy → Prop), True := fun _ _ _ => trivial
  simp only [words7, List.mem_cons, List.not_mem_nil, or_false] at hw
  have same : ∀ ns : List Nm, NsOk ns rs → QGen (.sort ns) rs wd ∧ QGen (.mn ns) rs wd ∧ QGen (.mx ns) rs wd := fun ns hn => ⟨⟨hn.qy h.len rfl, fun _ _ z => nomatch z⟩, ⟨hn.qy h.len rfl, fun _ _ z => nomatch z⟩, ⟨hn.qy h.len rfl, fun _ _ z => nomatch z⟩⟩
  rcases hw with rfl | rfl | rfl | rfl | rfl | rfl | rfl
  · refine names_run h rne fun ns hn => ?_
    simp
    exact ⟨_, rfl, (same ns hn).1⟩
  · refine names_run h rne fun ns hn => ?_
    simp
    exact ⟨_, rfl, (same ns hn).2.1⟩
  · refine names_run h rne fun ns hn => ?_
    simp
    exact ⟨_, rfl, (same ns hn).2.2⟩
  · refine names_run h rne fun ns hn => ?_
    simp [d__law_all_bounds_eq h]
    refine bound_run (by decide) (by decide) fun a ga => ?_
    have sz : szOk (rs.length + rs.length + 1) = true := decide_eq_true (by have := h.len; omega)
    simp [gAdd, sz]
    have ec : rs.map (fq ∘ fun r => r.lo) ++ (rs.map (fq ∘ fun r => r.hi) ++ [fq a]) = (rs.map (fun r => r.lo) ++ (rs.map (fun r => r.hi) ++ [a])).map fq := by simp
    rw [ec]
    refine choice_run fq _ (by simp) (by have := h.len; simp; omega) fun t ht => ?_
    refine ⟨.above ns t, rfl, hn.qy h.len rfl, fun ns' t' e => ?_⟩
    cases e
    simp at ht
    rcases ht with ⟨r, hr, rfl⟩ | ⟨r, hr, rfl⟩ | rfl
    · exact (gf r hr).1
    · exact (gf r hr).2
    · exact ga.up (by omega)
  · refine names_run h rne fun ns hn => ?_
    by_cases l1 : 1 < rs.length
    · have l1' : (1 : Int) < (rs.length : Int) := by omega
      simp [l1', l1, lcM_map]
      rw [e0]
      refine shuffled_run nS (nms rs) (by have := h.len; omega) fun ys py => ?_
      have yl : ys.length = rs.length := by rw [py.length_eq, hl]
      rcases ys with _ | ⟨a, _ | ⟨b, r⟩⟩
      · simp at yl; omega
      · simp at yl; omega
      · have two : gSl (SD.d (PyData.list ((a :: b :: r).map nS))) none (some 2) = some (.d (.list [nS a, nS b])) := sl_to nS (a :: b :: r) 2
        simp only [List.map_cons] at two
        simp [two]
        refine ⟨.cmp a b, rfl, ⟨by simp [Qy.ns], ?_, ?_, by simp [Qy.ns]⟩, fun _ _ z => nomatch z⟩
        · have := (py.nodup_iff.mpr nd)
          simp [Qy.ns] at this ⊢
          exact this.1.1
        · intro n hn
          simp [Qy.ns] at hn
          refine py.mem_iff.mp ?_
          rcases hn with rfl | rfl <;> simp
    · have l1' : ¬ (1 : Int) < (rs.length : Int) := by omega
      simp [l1', l1]
      exact ⟨_, rfl, (same ns hn).1⟩
  · refine names_run h rne fun ns hn => ?_
    simp
    exact ⟨_, rfl, (same ns hn).1⟩
  · refine names_run h rne fun ns hn => ?_
    simp
    exact ⟨_, rfl, (same ns hn).2.1⟩

theorem paired_mem {α β : Type} {F : α → β → Prop} : ∀ {xs : List α} {ys : List β}, Paired F xs ys → ∀ y ∈ ys, ∃ x, F x y
  | _, _, .nil, y, h => by cases h
  | _, _, .cons r t, y, h => by
    rcases List.mem_cons.mp h with rfl | h
    · exact ⟨_, r⟩
    · exact paired_mem t y h

end Dd
/-! L09 -/
namespace Dd
open PySem PySem.Spec PyProof.Rows L2

/-- a loop whose state is told by the items done -/
theorem for_eqX0 {α : Type} {tg : Tg} {U : List SD → M Out} (g : α → SD) (S : List α → List SD) (all : List α)
    (h : ∀ done x rest, done ++ x :: rest = all → (M.lift (kOf tg (g x) (S done)) >>= U) = pure (.nx (S (done ++ [x]))) ∨ (M.lift (kOf tg (g x) (S done)) >>= U) = pure (.ct (S (done ++ [x])))) : ∀ (xs done : List α), done ++ xs = all → forM tg U (xs.map g) (S done) = pure (.nx (S all))
  | [], done, e => by rw [List.append_nil] at e; rw [e]; rfl
  | x :: r, done, e => by
    have ih := for_eqX0 g S all h r (done ++ [x]) (by rw [List.append_assoc]; exact e)
    rw [List.map_cons, sp_for_cons, ← sp_bnd_assoc]
    rcases h done x r e with e1 | e1
    · rw [e1, sp_pure_bnd]
      exact ih
    · rw [e1, sp_pure_bnd]
      exact ih

theorem for_eqX {α : Type} {tg : Tg} {U : List SD → M Out} (g : α → SD) (S : List α → List SD) (all : List α) {ρ : List SD} (e0 : ρ = S [])
    (h : ∀ done x rest, done ++ x :: rest = all → (M.lift (kOf tg (g x) (S done)) >>= U) = pure (.nx (S (done ++ [x]))) ∨ (M.lift (kOf tg (g x) (S done)) >>= U) = pure (.ct (S (done ++ [x])))) : forM tg U (all.map g) ρ = pure (.nx (S all)) := by
  rw [e0]
  exact for_eqX0 g S all h all [] rfl

/-- what a loop's name holds -/
def lastD {α : Type} (f : α → SD) (done : List α) : SD := match done.getLast? with
  | none => .no
  | some x => f x

@[simp] theorem lastD_nil {α : Type} (f : α → SD) : lastD f [] = .no := rfl

@[simp] theorem lastD_snoc {α : Type} (f : α → SD) (done : List α) (x : α) : lastD f (done ++ [x]) = f x := by
  unfold lastD
  rw [List.getLast?_concat]

theorem flat_range {α β : Type} (f : α → α → β) : ∀ (all xs : List α) (k : Nat), all.drop k = xs → (List.range' k xs.length).flatMap (fun i => (all.drop (i + 1)).map fun y => match all[i]? with | some x => [f x y] | none => []) = (prs xs).map (fun p => [f p.1 p.2])
  | all, [], k, h => rfl
  | all, x :: r, k, h => by
    have h1 : all.drop (k + 1) = r := by rw [← List.tail_drop, h]; rfl
    have h2 : all[k]? = some x := by
      have := congrArg (fun l => l[0]?) h
      simpa using this
    rw [List.length_cons, List.range'_succ, List.flatMap_cons, flat_range f all r (k + 1) h1, prs, List.map_append, List.map_map, h1, h2]
    rfl

theorem pairs_turn {α : Type} {n : Nat} (enc : α → PyData) (xs : List α) [h : Ln n xs] (hn : n ≤ 100 := by decide) {i : Nat} {x : α} (hx : xs[i]? = some x) :
    lcF (fun _ : Nat => pure true) (fun j => M.lift ((atI (xs.map enc) (i : Int)).map SD.d) >>= fun a => M.lift ((atI (xs.map enc) ((i : Int) + 1 + (j : Int))).map SD.d) >>= fun b => M.lift (gTup [a, b])) (List.range ((xs.length : Int) - ((i : Int) + 1)).toNat) [] = pure ((xs.drop (i + 1)).map fun y => .tuple [enc x, enc y]) := by
  have hi : i < xs.length := (List.getElem?_eq_some_iff.mp hx).1
  have hl := h.le
  have e0 : ((xs.length : Int) - ((i : Int) + 1)).toNat = xs.length - (i + 1) := by omega
  rw [e0, lcF_congr (B' := fun _ => pure true) (T' := fun j => pure (.d (.tuple [enc x, (xs.map enc).getD (i + 1 + j) .none]))) (fun _ _ => rfl) (fun j hj => ?_)]
  · haveI : Ln n (List.range (xs.length - (i + 1))) := ⟨by rw [List.length_range]; omega⟩
    rw [sp_lcT (n := n) (by omega)]
    refine congrArg pure (List.ext_getElem? fun j => ?_)
    rw [List.getElem?_map, List.getElem?_map, List.getElem?_drop]
    by_cases hj : j < xs.length - (i + 1)
    · rw [List.getElem?_range hj, List.getElem?_eq_getElem (show i + 1 + j < xs.length by omega)]
      simp [List.getElem?_eq_getElem (show i + 1 + j < xs.length by omega)]
    · rw [List.getElem?_eq_none (by rw [List.length_range]; omega), List.getElem?_eq_none (by omega)]
      rfl
  · have hj := List.mem_range.mp hj
    have h1 : atI (xs.map enc) (i : Int) = some (enc x) := atI_nat (by rw [List.getElem?_map, hx]; rfl)
    have h2 : atI (xs.map enc) ((i : Int) + 1 + (j : Int)) = some ((xs.map enc).getD (i + 1 + j) .none) := by
      have : ((i : Int) + 1 + (j : Int)) = ((i + 1 + j : Nat) : Int) := by omega
      rw [this]
      exact atI_nat (by rw [List.getD_eq_getElem?_getD, List.getElem?_eq_getElem (by rw [List.length_map]; omega)]; rfl)
    rw [h1, h2]
    simp

/-- the pairs that begin with one of the first items -/
def prsTo {α : Type} (xs : List α) (k : Nat) : List (α × α) := (List.range k).flatMap fun i => match xs[i]? with
  | some x => (xs.drop (i + 1)).map fun y => (x, y)
  | none => []

theorem prsTo_succ {α : Type} {xs : List α} {k : Nat} {x : α} (h : xs[k]? = some x) : prsTo xs (k + 1) = prsTo xs k ++ (xs.drop (k + 1)).map fun y => (x, y) := by
  unfold prsTo
  rw [List.range_succ, List.flatMap_append, List.flatMap_singleton, h]

theorem prsTo_all {α : Type} : ∀ (xs : List α), prsTo xs xs.length = prs xs
  | [] => rfl
  | x :: r => by
    have ih := prsTo_all r
    unfold prsTo at ih ⊢
    rw [List.length_cons, List.range_succ_eq_map, List.flatMap_cons, List.flatMap_map, prs, ← ih]
    rfl

theorem prsTo_len {α : Type} {n : Nat} (xs : List α) [h : Ln n xs] (k : Nat) (hk : k ≤ xs.length) : (prsTo xs k).length ≤ n * n := by
  unfold prsTo
  refine Nat.le_trans (ln_flat_le (m := n) fun i _ => ?_) ?_
  · split
    · rw [List.length_map, List.length_drop]
      have := h.le
      omega
    · exact Nat.zero_le _
  · rw [List.length_range]
    exact Nat.mul_le_mul_right n (Nat.le_trans hk h.le)

theorem range_split {n : Nat} {done rest : List Nat} {x : Nat} (h : done ++ x :: rest = List.range n) : done = List.range x ∧ x < n := by
  have hl := congrArg List.length h
  rw [List.length_append, List.length_cons, List.length_range] at hl
  have e1 : (List.range n)[done.length]? = some x := by rw [← h, List.getElem?_append_right (Nat.le_refl _), Nat.sub_self]; rfl
  rw [List.getElem?_range (by omega)] at e1
  have e2 : done.length = x := Option.some.inj e1
  refine ⟨?_, by omega⟩
  have e3 : done = (List.range n).take done.length := by rw [← h, List.take_left]
  rw [e3, e2, List.take_range]
  congr 1
  omega

theorem d__law_items_eq (q : Qy) : d__law_items [.d (qD q)] = pure (.d (.list (q.ns.map nS))) := by
  cases q <;> simp [d__law_items, u__law_items, qD, Qy.ns, bList]

theorem d__law_inside_eq (v a b : Fq) : d__law_inside [.d (fq v), .d (fq a), .d (fq b)] = pure (dB (decide (R a < R v) && decide (R v < R b))) := by
  by_cases h : R a < R v <;> simp [d__law_inside, u__law_inside, d__law_less_eq, h]

/-- the bounds of this name -/
def at' (rs : List Row) (n : Nm) : Fq × Fq := ((rowAt rs n).lo, (rowAt rs n).hi)

theorem ix_tbl {rs : List Row} (h : Asc rs) {n : Nm} (hn : n ∈ nms rs) : gIx (.d (tblD rs)) (.d (.str n.s)) = some (.d (prD (at' rs n))) := by
  rw [ix_dN, lk_ivs h hn]
  rfl

def neverAbove (x y : Fq × Fq) : Bool := !decide (R y.1 < R x.2)

/-- is an extreme of these names whatever the values are -/
def extr (rs : List Row) (ns : List Nm) (mx : Bool) (n : Nm) : Bool := (ns.filter fun o => !decide (o = n)).all fun o => if mx then neverAbove (at' rs o) (at' rs n) else neverAbove (at' rs n) (at' rs o)

def wMM (mx : Bool) : Str := if mx then "max" else "min"

@[simp] theorem wn_1 : gNe (.d (.str "max")) (.d (.str "max")) = some (dB false) := by
  have h : PyData.eqv (.str "max") (.str "max") = true := by decide +kernel
  show (if (SeqAt.shaped (.str "max") && SeqAt.shaped (.str "max")) = true then some (dB (!PyData.eqv (.str "max") (.str "max"))) else none) = _
  rw [h, if_pos (by decide +kernel)]
  rfl

@[simp] theorem wn_2 : gNe (.d (.str "min")) (.d (.str "max")) = some (dB true) := by
  have h : PyData.eqv (.str "min") (.str "max") = false := by decide +kernel
  show (if (SeqAt.shaped (.str "min") && SeqAt.shaped (.str "max")) = true then some (dB (!PyData.eqv (.str "min") (.str "max"))) else none) = _
  rw [h, if_pos (by decide +kernel)]
  rfl

end Dd
/-! L10 -/
namespace Dd
open PySem PySem.Spec PyProof.Rows L2

/-- what the law says of certainty -/
def lawCert (rs : List Row) (q : Qy) : Bool := match q with
  | .above ns t => !ns.any fun n => decide (R (at' rs n).1 < R t) && decide (R t < R (at' rs n).2)
  | .mn ns => !((srt nS ns).filter (extr rs ns false)).isEmpty
  | .mx ns => !((srt nS ns).filter (extr rs ns true)).isEmpty
  | q => (prs q.ns).all fun p => !decide (R (at' rs p.2).1 < R (at' rs p.1).2) || !decide (R (at' rs p.1).1 < R (at' rs p.2).2)

/-! ### the program's word and the law's are one -/

theorem mem_asked {rs : List Row} {q : Qy} {r : Row} : r ∈ asked rs q ↔ r ∈ rs ∧ r.nm ∈ q.ns := by simp [asked]

theorem asc_asked {rs : List Row} (h : Asc rs) (q : Qy) : Asc (asked rs q) := h.sublist List.filter_sublist

theorem sepd_symm (a b : Row) : sepd a b = sepd b a := Bool.or_comm _ _

theorem pw_all {α : Type} {S : α → α → Prop} (sym : ∀ a b, S a b → S b a) : ∀ {l : List α}, l.Pairwise S → ∀ a ∈ l, ∀ b ∈ l, a ≠ b → S a b
  | x :: r, h, a, ha, b, hb, ne => by
    have h := List.pairwise_cons.mp h
    rcases List.mem_cons.mp ha with e1 | h1
    · rcases List.mem_cons.mp hb with e2 | h2
      · exact absurd (e1.trans e2.symm) ne
      · rw [e1]; exact h.1 b h2
    · rcases List.mem_cons.mp hb with e2 | h2
      · rw [e2]; exact sym _ _ (h.1 a h1)
      · exact pw_all sym h.2 a h1 b h2 ne

theorem certB_sort {rs : List Row} (h : Asc rs) {ns : List Nm} (q : Qy) (e : q.ns = ns) (nd : ns.Nodup) (inn : ∀ n ∈ ns, n ∈ nms rs) :
    ((prs (asked rs q)).all fun p => sepd p.1 p.2) = (prs ns).all fun p => !decide (R (at' rs p.2).1 < R (at' rs p.1).2) || !decide (R (at' rs p.1).1 < R (at' rs p.2).2) := by
  rw [Bool.eq_iff_iff, prs_all, prs_all]
  have sym : ∀ a b : Nm, sepd (rowAt rs a) (rowAt rs b) = true → sepd (rowAt rs b) (rowAt rs a) = true := fun a b z => by rw [sepd_symm]; exact z
  constructor
  · intro hp
    have all : ∀ a ∈ asked rs q, ∀ b ∈ asked rs q, a ≠ b → sepd a b = true := by
      exact pw_all (fun a b z => by rw [sepd_symm]; exact z) hp
    refine List.Pairwise.imp_of_mem (S := fun a b => (!decide (R (at' rs b).1 < R (at' rs a).2) || !decide (R (at' rs a).1 < R (at' rs b).2)) = true) (fun {a b} ha hb (ne : a ≠ b) => ?_) nd
    obtain ⟨h1, h2⟩ := rowAt_mem (inn a ha)
    obtain ⟨h3, h4⟩ := rowAt_mem (inn b hb)
    exact all _ (mem_asked.mpr ⟨h1, by rw [h2, e]; exact ha⟩) _ (mem_asked.mpr ⟨h3, by rw [h4, e]; exact hb⟩) (fun z => ne (by rw [← h2, ← h4, z]))
  · intro hp
    have all : ∀ a ∈ ns, ∀ b ∈ ns, a ≠ b → sepd (rowAt rs a) (rowAt rs b) = true := by
      exact pw_all (S := fun a b => sepd (rowAt rs a) (rowAt rs b) = true) sym hp
    refine List.Pairwise.imp_of_mem (S := fun a b => sepd a b = true) (fun {a b} ha hb (lt : a.nm < b.nm) => ?_) (asc_asked h q)
    obtain ⟨h1, h2⟩ := mem_asked.mp ha
    obtain ⟨h3, h4⟩ := mem_asked.mp hb
    have := all a.nm (e ▸ h2) b.nm (e ▸ h4) (fun z => nm_irrefl a.nm (by rw [← z] at lt; exact lt))
    rw [rowAt_self h h1, rowAt_self h h3] at this
    exact this

theorem certB_min {rs : List Row} (h : Asc rs) {ns : List Nm} (q : Qy) (e : q.ns = ns) (inn : ∀ n ∈ ns, n ∈ nms rs) : ((asked rs q).any fun r => least r (asked rs q)) = !((srt nS ns).filter (extr rs ns false)).isEmpty := by
  have key : ∀ r ∈ asked rs q, (least r (asked rs q) = true ↔ extr rs ns false r.nm = true) := by
    intro r hr
    obtain ⟨h1, h2⟩ := mem_asked.mp hr
    simp only [least, extr, List.all_eq_true, List.mem_filter, Bool.not_eq_true', decide_eq_false_iff_not, Bool.false_eq_true, if_false, neverAbove, at', rowAt_self h h1]
    constructor
    · intro hl o ho
      obtain ⟨h3, h4⟩ := rowAt_mem (inn o ho.1)
      exact hl (rowAt rs o) ⟨mem_asked.mpr ⟨h3, by rw [h4, e]; exact ho.1⟩, by rw [h4]; exact ho.2⟩
    · intro hl o ho
      obtain ⟨h3, h4⟩ := mem_asked.mp ho.1
      have := hl o.nm ⟨e ▸ h4, ho.2⟩
      rw [rowAt_self h h3] at this
      exact this
  rw [Bool.eq_iff_iff, List.any_eq_true, Bool.not_eq_true', List.isEmpty_eq_false_iff_exists_mem]
  constructor
  · rintro ⟨r, hr, hl⟩
    exact ⟨r.nm, List.mem_filter.mpr ⟨mem_srt.mpr (e ▸ (mem_asked.mp hr).2), (key r hr).mp hl⟩⟩
  · rintro ⟨n, hn⟩
    obtain ⟨h1, h2⟩ := List.mem_filter.mp hn
    have h1 := mem_srt.mp h1
    obtain ⟨h3, h4⟩ := rowAt_mem (inn n h1)
    have hr : rowAt rs n ∈ asked rs q := mem_asked.mpr ⟨h3, by rw [h4, e]; exact h1⟩
    exact ⟨_, hr, (key _ hr).mpr (by rw [h4]; exact h2)⟩

theorem certB_max {rs : List Row} (h : Asc rs) {ns : List Nm} (q : Qy) (e : q.ns = ns) (inn : ∀ n ∈ ns, n ∈ nms rs) : (((asked rs q).map mirr).any fun r => least r ((asked rs q).map mirr)) = !((srt nS ns).filter (extr rs ns true)).isEmpty := by
  have key : ∀ r ∈ asked rs q, (least (mirr r) ((asked rs q).map mirr) = true ↔ extr rs ns true r.nm = true) := by
    intro r hr
    obtain ⟨h1, h2⟩ := mem_asked.mp hr
    simp only [least, extr, List.all_eq_true, List.mem_filter, Bool.not_eq_true', decide_eq_false_iff_not, if_true, neverAbove, at', rowAt_self h h1]
    constructor
    · intro hl o ho
      obtain ⟨h3, h4⟩ := rowAt_mem (inn o ho.1)
      have := hl (mirr (rowAt rs o)) ⟨List.mem_map_of_mem (mem_asked.mpr ⟨h3, by rw [h4, e]; exact ho.1⟩), by show ¬ (rowAt rs o).nm = r.nm; rw [h4]; exact ho.2⟩
      simp only [mirr, R_neg] at this
      grind
    · intro hl o ho
      obtain ⟨u, hu, rfl⟩ := List.mem_map.mp ho.1
      obtain ⟨h3, h4⟩ := mem_asked.mp hu
      have := hl u.nm ⟨e ▸ h4, ho.2⟩
      rw [rowAt_self h h3] at this
      simp only [mirr, R_neg]
      grind
  rw [Bool.eq_iff_iff, List.any_eq_true, Bool.not_eq_true', List.isEmpty_eq_false_iff_exists_mem]
  constructor
  · rintro ⟨m, hm, hl⟩
    obtain ⟨r, hr, rfl⟩ := List.mem_map.mp hm
    exact ⟨r.nm, List.mem_filter.mpr ⟨mem_srt.mpr (e ▸ (mem_asked.mp hr).2), (key r hr).mp hl⟩⟩
  · rintro ⟨n, hn⟩
    obtain ⟨h1, h2⟩ := List.mem_filter.mp hn
    have h1 := mem_srt.mp h1
    obtain ⟨h3, h4⟩ := rowAt_mem (inn n h1)
    have hr : rowAt rs n ∈ asked rs q := mem_asked.mpr ⟨h3, by rw [h4, e]; exact h1⟩
    exact ⟨_, List.mem_map_of_mem hr, (key _ hr).mpr (by rw [h4]; exact h2)⟩

theorem certB_above {rs : List Row} (h : Asc rs) {ns : List Nm} (q : Qy) (t : Fq) (e : q.ns = ns) (inn : ∀ n ∈ ns, n ∈ nms rs) : ((asked rs q).any fun r => decide (R r.lo < R t) && decide (R t < R r.hi)) = ns.any fun n => decide (R (at' rs n).1 < R t) && decide (R t < R (at' rs n).2) := by
  rw [Bool.eq_iff_iff, List.any_eq_true, List.any_eq_true]
  constructor
  · rintro ⟨r, hr, hl⟩
    obtain ⟨h1, h2⟩ := mem_asked.mp hr
    refine ⟨r.nm, e ▸ h2, ?_⟩
    simp only [at', rowAt_self h h1]
    exact hl
  · rintro ⟨n, hn, hl⟩
    obtain ⟨h3, h4⟩ := rowAt_mem (inn n hn)
    exact ⟨rowAt rs n, mem_asked.mpr ⟨h3, by rw [h4, e]; exact hn⟩, hl⟩

theorem certB_law {rs : List Row} (h : Asc rs) {q : Qy} (hq : q.Ok (nms rs)) : certB rs q = lawCert rs q := by
  cases q with
  | sort ns => exact certB_sort h (.sort ns) rfl hq.nd hq.inn
  | cmp a b => exact certB_sort h (.cmp a b) rfl hq.nd hq.inn
  | above ns t => exact congrArg (fun b => !b) (certB_above h (.above ns t) t rfl hq.inn)
  | mn ns => exact certB_min h (.mn ns) rfl hq.inn
  | mx ns => exact certB_max h (.mx ns) rfl hq.inn

/-! ### _law_same -/

theorem same_refl : ∀ (n : Nat) (d : PyData), Dw.fits n d → Dw.sameD n d d = true := by
  intro n
  induction n with
  | zero =>
    intro d h
    obtain ⟨h1, h2, h3⟩ := h
    cases d with
    | list => cases h1
    | tuple => cases h2
    | dict => cases h3
    | _ => simp [Dw.sameD, Dw.sameS]
  | succ n ih =>
    have all : ∀ ds : List PyData, (∀ x ∈ ds, Dw.fits n x) → (List.zipWith (Dw.sameD n) ds ds).all id = true := by
      intro ds
      induction ds with
      | nil => intro _; rfl
      | cons x r ihr =>
        intro h
        rw [List.zipWith_cons_cons, List.all_cons, ih x (h x List.mem_cons_self), ihr fun y hy => h y (List.mem_cons_of_mem _ hy)]
        rfl
    intro d h
    cases d with
    | list ds => obtain ⟨_, h2⟩ := h; simp only [Dw.sameD, decide_true, Bool.true_and]; exact all ds h2
    | tuple ds => obtain ⟨_, h2⟩ := h; simp only [Dw.sameD, decide_true, Bool.true_and]; exact all ds h2
    | dict ds => cases (show true = false from h)
    | _ => simp [Dw.sameD, Dw.sameS]

theorem same_eq {n : Nat} {y : PyData} (h : Dw.fits n y) (c : y.canLay0 = true) : sameM n [.d y, .d y] = pure (dB true) := by
  show (M.need _ >>= _) = _
  rw [need_of ⟨h, c, c⟩, same_refl n y h]
  rfl

@[simp] theorem same_b (b : Bool) : sameM 3 [.d (.bool b), .d (.bool b)] = pure (dB true) := same_eq rfl rfl

end Dd
/-! L11 -/
namespace Dd
open PySem PySem.Spec PyProof.Rows L2

/-! ### equality of lists of typed things -/

theorem eqvAll_map {α : Type} [DecidableEq α] {enc : α → PyData} (h : ∀ a b, PyData.eqv (enc a) (enc b) = decide (a = b)) : ∀ xs ys : List α, PyData.eqvAll (xs.map enc) (ys.map enc) = decide (xs = ys)
  | [], [] => rfl
  | [], _ :: _ => by simp [PyData.eqvAll]
  | _ :: _, [] => by simp [PyData.eqvAll]
  | x :: xs, y :: ys => by
    rw [List.map_cons, List.map_cons, PyData.eqvAll, h, eqvAll_map h xs ys, Bool.eq_iff_iff]
    simp

theorem eqL {α : Type} [DecidableEq α] {enc : α → PyData} {d : Nat} (h : ∀ a b, PyData.eqv (enc a) (enc b) = decide (a = b)) (ly : ∀ x, (enc x).canLay0 = true ∧ (enc x).depth ≤ d) (hd : d ≤ 60) (xs ys : List α) : gEq (.d (.list (xs.map enc))) (.d (.list (ys.map enc))) = some (dB (decide (xs = ys))) := by
  show (if (SeqAt.shaped (.list (xs.map enc)) && SeqAt.shaped (.list (ys.map enc))) = true then some (dB (PyData.eqv (.list (xs.map enc)) (.list (ys.map enc)))) else none) = _
  rw [(shaped_map ly hd xs).1, (shaped_map ly hd ys).1, PyData.eqv, eqvAll_map h]
  rfl

theorem neL {α : Type} [DecidableEq α] {enc : α → PyData} {d : Nat} (h : ∀ a b, PyData.eqv (enc a) (enc b) = decide (a = b)) (ly : ∀ x, (enc x).canLay0 = true ∧ (enc x).depth ≤ d) (hd : d ≤ 60) (xs ys : List α) : gNe (.d (.list (xs.map enc))) (.d (.list (ys.map enc))) = some (dB (!decide (xs = ys))) := by
  show (if (SeqAt.shaped (.list (xs.map enc)) && SeqAt.shaped (.list (ys.map enc))) = true then some (dB (!PyData.eqv (.list (xs.map enc)) (.list (ys.map enc)))) else none) = _
  rw [(shaped_map ly hd xs).1, (shaped_map ly hd ys).1, PyData.eqv, eqvAll_map h]
  rfl

theorem eqv_r (a b : Row) : PyData.eqv (rw' a) (rw' b) = decide (a = b) := by
  have e : PyData.eqv (rw' a) (rw' b) = (PyData.eqv (nS a.nm) (nS b.nm) && (PyData.eqv (fq a.lo) (fq b.lo) && (PyData.eqv (fq a.hi) (fq b.hi) && true))) := rfl
  rw [e, eqv_n, eqv_q, eqv_q, Bool.eq_iff_iff]
  simp only [Bool.and_true, Bool.and_eq_true, decide_eq_true_eq]
  exact ⟨fun h => Row.ext h.1 h.2.1 h.2.2, fun h => h ▸ ⟨rfl, rfl, rfl⟩⟩

@[simp] theorem eqRows (xs ys : List Row) : gEq (.d (.list (xs.map rw'))) (.d (.list (ys.map rw'))) = some (dB (decide (xs = ys))) := eqL eqv_r lay_r (by decide) xs ys

@[simp] theorem neRows (xs ys : List Row) : gNe (.d (.list (xs.map rw'))) (.d (.list (ys.map rw'))) = some (dB (!decide (xs = ys))) := neL eqv_r lay_r (by decide) xs ys

@[simp] theorem eqNms (xs ys : List Nm) : gEq (.d (.list (xs.map nS))) (.d (.list (ys.map nS))) = some (dB (decide (xs = ys))) := eqL eqv_n lay_n (by decide) xs ys

@[simp] theorem neNms (xs ys : List Nm) : gNe (.d (.list (xs.map nS))) (.d (.list (ys.map nS))) = some (dB (!decide (xs = ys))) := neL eqv_n lay_n (by decide) xs ys

@[simp] theorem sp_list_l (ds : List PyData) : bList [.d (.list ds)] = pure (.d (.list ds)) := rfl

@[simp] theorem sp_list_t (ds : List PyData) : bList [.d (.tuple ds)] = pure (.d (.list ds)) := rfl

end Dd
/-! L12 -/
namespace Dd
open PySem PySem.Spec PyProof.Rows L2

theorem d__law_is_known_eq (x : Fq × Fq) : d__law_is_known [.d (prD x)] = pure (dB (decide (x.1 = x.2))) := by
  simp [d__law_is_known, u__law_is_known, prD]

theorem mix_R {a b m t : Rat} (h : a < b) (t0 : 0 < t) (tm : t < m) : a < (a * (m - t) + b * t) / m ∧ (a * (m - t) + b * t) / m < b := by
  have m0 : (0 : Rat) < m := by grind
  have d1 : 0 < (b - a) * t := Rat.mul_pos (by grind) t0
  have d2 : 0 < (b - a) * (m - t) := Rat.mul_pos (by grind) (by grind)
  constructor
  · rw [Rat.lt_div_iff m0]; grind
  · rw [Rat.div_lt_iff m0]; grind

theorem castlt {a b : Int} (h : a < b) : (a : Rat) < (b : Rat) := Rat.intCast_lt_intCast.mpr h

theorem castpos {a : Int} (h : 0 < a) : (0 : Rat) < (a : Rat) := Rat.intCast_lt_intCast.mpr h

/-- what an interval may hide -/
def Poss (x : Fq × Fq) (v : Fq) : Prop := (x.1 = x.2 ∧ v = x.1) ∨ (R x.1 < R v ∧ R v < R x.2)

theorem paired_fst {k : Nat} {vs : List (Nm × Fq)} {rs : List Row} (h : Paired (fun (r : Row) (p : Nm × Fq) => p.1 = r.nm ∧ GF k p.2.p ∧ Poss (r.lo, r.hi) p.2) rs vs) : vs.map (·.1) = nms rs := by
  induction h with
  | nil => rfl
  | cons h t ih => simp only [List.map_cons]; rw [ih, h.1]

def known (n : Nm) (v : Fq) : Row := ⟨n, v, v, Rat.le_refl⟩

/-- the rows, those of sub known -/
def revR (rs : List Row) (g : Nm → Fq) (sub : List Nm) : List Row := rs.map fun r => if r.nm ∈ sub then known r.nm (g r.nm) else r

theorem revR_nms (rs : List Row) (g : Nm → Fq) (sub : List Nm) : nms (revR rs g sub) = nms rs := by
  unfold revR nms
  rw [List.map_map]
  refine List.map_congr_left fun r _ => ?_
  show (if r.nm ∈ sub then known r.nm (g r.nm) else r).nm = r.nm
  split <;> rfl

theorem revR_put (rs : List Row) (g : Nm → Fq) (sub : List Nm) {n : Nm} (hn : n ∈ nms rs) : putN (ivs (revR rs g sub)) n (g n, g n) = ivs (revR rs g (sub ++ [n])) := by
  have hany : ((ivs (revR rs g sub)).any fun p => decide (p.1 = n)) = true := by
    rw [List.any_eq_true]
    have : n ∈ (ivs (revR rs g sub)).map (·.1) := by rw [ivs_nms, revR_nms]; exact hn
    obtain ⟨p, h1, h2⟩ := List.mem_map.mp this
    exact ⟨p, h1, by simp [h2]⟩
  unfold putN
  rw [if_pos hany]
  unfold ivs revR
  simp only [List.map_map]
  refine List.map_congr_left fun r _ => ?_
  simp only [Function.comp]
  by_cases h1 : r.nm ∈ sub
  · by_cases h2 : r.nm = n
    · subst h2; simp [h1, known]
    · simp [h1, h2, known]
  · by_cases h2 : r.nm = n
    · subst h2; simp [h1, known]
    · simp [h1, h2]

theorem asDict_n {α : Type} (enc : α → PyData) (kvs : List (Nm × α)) : asDict (.d (dN enc kvs)) = some (kvD enc kvs) := by
  show ((kvs.map fun p => (nS p.1, enc p.2)).mapM fun p => (keyOf p.1).map fun k => (k, p.2)) = _
  induction kvs with
  | nil => rfl
  | cons p r ih =>
    rw [List.map_cons, List.mapM_cons, ih]
    rfl

theorem dictOf_n {α : Type} (enc : α → PyData) (kvs : List (Nm × α)) : dictOf (kvD enc kvs) = dN enc kvs := by
  unfold dictOf dN
  rw [List.map_map]
  rfl

theorem revR_nil (rs : List Row) (g : Nm → Fq) : revR rs g [] = rs := by
  unfold revR
  simp

theorem rising_pw : ∀ (r : List Str) (p : Str), risingS p r = true → (p :: r).Pairwise fun a b => ¬ b.cps.toList < a.cps.toList
  | [], p, _ => List.pairwise_singleton _ _
  | x :: r, p, h => by
    have h : (!ltCps x.cps.toList p.cps.toList && risingS x r) = true := h
    rw [Bool.and_eq_true, ltCps_eq] at h
    obtain ⟨h1, h2⟩ := h
    have h1 : ¬ x.cps.toList < p.cps.toList := by simpa using h1
    have ih := rising_pw r x h2
    refine List.pairwise_cons.mpr ⟨fun b hb => ?_, ih⟩
    rcases List.mem_cons.mp hb with rfl | hb
    · exact h1
    · have h3 := (List.pairwise_cons.mp ih).1 b hb
      intro z
      have h1' : p.cps.toList ≤ x.cps.toList := List.not_lt.mp h1
      have h3' : x.cps.toList ≤ b.cps.toList := List.not_lt.mp h3
      exact (List.not_lt.mpr (List.le_trans h1' h3')) z

theorem sortedS_pw {l : List Str} (h : sortedS l = true) : l.Pairwise fun a b => ¬ b.cps.toList < a.cps.toList := by
  cases l with
  | nil => exact .nil
  | cons x r => exact rising_pw r x h

/-- the texts in order are one list -/
theorem sorted_one {l m : List Str} (p : l.Perm m) (h1 : l.Pairwise fun a b => ¬ b.cps.toList < a.cps.toList) (h2 : m.Pairwise fun a b => ¬ b.cps.toList < a.cps.toList) : l = m :=
  p.eq_of_pairwise (fun a b _ _ x y => str_ext (List.le_antisymm (List.not_lt.mp x) (List.not_lt.mp y))) h1 h2

theorem keysS_n {α : Type} (enc : α → PyData) : ∀ kvs : List (Nm × α), keysS (kvs.map fun p => (nS p.1, enc p.2)) = some (kvs.map fun p => p.1.s)
  | [] => rfl
  | p :: r => by
    rw [List.map_cons]
    show (keysS (r.map fun p => (nS p.1, enc p.2))).map (p.1.s :: ·) = _
    rw [keysS_n enc r]
    rfl

theorem sorted_tbl_run {rs : List Row} (h : IvOk rs) {β : Type} {f : SD → M β} {P : β → Prop} {E : Exn → Prop} (q : (f (.d (.list ((nms rs).map nS)))).run P E) : (bSorted2 [.d (tblD rs)] >>= f).run P E := by
  show ((M.lift (keysS ((ivs rs).map fun p => (nS p.1, prD p.2))) >>= fun ks => M.when (decide (ks.length < 64)) (M.sortedS ks >>= fun ys => pure (SD.d (.list (ys.map PyData.str))))) >>= f).run P E
  rw [keysS_n]
  have ln : decide (((ivs rs).map fun p => p.1.s).length < 64) = true := decide_eq_true (by have := h.len; simp [ivs]; omega)
  show ((M.when (decide (((ivs rs).map fun p => p.1.s).length < 64)) (M.sortedS ((ivs rs).map fun p => p.1.s) >>= fun ys => pure (SD.d (.list (ys.map PyData.str))))) >>= f).run P E
  rw [ln]
  intro ys h1 h2
  have e0 : ((ivs rs).map fun p => p.1.s) = (nms rs).map (·.s) := by simp [ivs]
  rw [e0] at h1
  have e : ys = (nms rs).map (·.s) := sorted_one h1 (sortedS_pw h2) (by
    rw [List.pairwise_map, List.pairwise_map]
    exact h.asc.imp fun {a b} (hab : a.nm < b.nm) => show ¬ b.nm < a.nm from fun z => nm_irrefl a.nm (nm_trans hab z))
  show (f (SD.d (.list (ys.map PyData.str)))).run P E
  rw [e, List.map_map]
  exact q

theorem lkN_in {α : Type} {kvs : List (Nm × α)} {n : Nm} {v : α} (h : lkN kvs n = some v) : ∃ p ∈ kvs, p.2 = v := by
  unfold lkN at h
  obtain ⟨p, h1, h2⟩ := Option.map_eq_some_iff.mp h
  exact ⟨p, List.mem_of_find?_eq_some h1, h2⟩

end Dd
/-! L13 -/
namespace Dd
open PySem PySem.Spec PyProof.Rows L2

theorem throw_bnd {α β : Type} (e : Exn) (f : α → M β) : (M.throw e >>= f) = M.throw e := rfl

theorem throw_seq (e : Exn) (f : List SD → M Out) : seqM (M.throw e) f = M.throw e := rfl

theorem argD_0 : argD ⟨"uncertain", some "index", true⟩ (.d (.int 0)) = some (.int 0) := by kernel_rfl

end Dd
/-! L14 -/
namespace Dd
open PySem PySem.Spec PyProof.Rows L2

/-- the asked rows bear the asked names, in order -/
theorem nms_asked {rs : List Row} (h : Asc rs) {ns : List Nm} (nd : ns.Nodup) (inn : ∀ n ∈ ns, n ∈ nms rs) : nms (rs.filter fun r => decide (r.nm ∈ ns)) = srt nS ns := by
  have a1 : (rs.filter fun r => decide (r.nm ∈ ns)).Pairwise fun a b => a.nm < b.nm := h.filter _
  have nd1 : (nms (rs.filter fun r => decide (r.nm ∈ ns))).Nodup := asc_nodup a1
  have nd2 : (srt nS ns).Nodup := (srt_perm nS ns).nodup_iff.mpr nd
  have p : (nms (rs.filter fun r => decide (r.nm ∈ ns))).Perm (srt nS ns) := (List.perm_ext_iff_of_nodup nd1 nd2).mpr fun n => by
    rw [mem_srt]
    constructor
    · intro z
      obtain ⟨r, h1, rfl⟩ := List.mem_map.mp z
      simpa using (List.mem_filter.mp h1).2
    · intro z
      obtain ⟨r, h1, rfl⟩ := List.mem_map.mp (inn n z)
      exact List.mem_map_of_mem (List.mem_filter.mpr ⟨h1, by simpa using z⟩)
  refine p.eq_of_pairwise (le := fun a b => ¬ b < a) (fun a b _ _ x y => nm_tri y x) ?_ (srt_n_pw ns)
  exact List.pairwise_map.mpr (a1.imp fun {a b} (hab : a.nm < b.nm) => show ¬ b.nm < a.nm from fun z => nm_irrefl a.nm (nm_trans hab z))

def abv (x : Fq × Fq) (t : Fq) : Bool := if x.1 = x.2 then decide (R t < R x.1) else !decide (R x.1 < R t)

theorem abv_iff {r : Row} {t : Fq} (c : (decide (R r.lo < R t) && decide (R t < R r.hi)) = false) : abv (r.lo, r.hi) t = decide (R t < R r.hi) := by
  have le := r.le
  unfold abv
  by_cases e : r.lo = r.hi
  · simp [e]
  · have ne : R r.lo ≠ R r.hi := fun z => e (R_inj z)
    simp only [e, if_false]
    rw [Bool.and_eq_false_iff] at c
    simp only [decide_eq_false_iff_not] at c
    rw [Bool.eq_iff_iff]
    simp only [Bool.not_eq_true', decide_eq_false_iff_not, decide_eq_true_eq]
    constructor
    · intro z; grind
    · intro z; rcases c with c | c
      · exact c
      · exact absurd z c

theorem above_same {rs : List Row} (h : IvOk rs) {ns : List Nm} {t : Fq} (ok : (Qy.above ns t).Ok (nms rs)) (c : certB rs (.above ns t) = true) : (srt nS ns).filter (fun n => abv (at' rs n) t) = ((asked rs (.above ns t)).filter fun r => decide (R t < R r.hi)).map fun r => r.nm := by
  have e := nms_asked h.asc (ns := ns) ok.nd ok.inn
  rw [← e]
  show (nms (asked rs (.above ns t))).filter _ = _
  unfold nms
  rw [List.filter_map]
  refine congrArg _ (List.filter_congr fun r hr => ?_)
  have hr' : r ∈ rs := (List.mem_filter.mp hr).1
  show abv (at' rs r.nm) t = _
  unfold at'
  rw [rowAt_self h.asc hr']
  refine abv_iff ?_
  simp [certB, qrows] at c
  have := c r hr
  simpa using this

theorem minD_n : ∀ (ns : List Nm) (n : Nm), (∀ m ∈ ns, n < m) → PySem.W.minD (nS n) (ns.map nS) = nS n
  | [], _, _ => rfl
  | m :: r, n, h => by
    have hm : PySem.W.dataLt (nS m) (nS n) = false := by
      rw [lt_n]
      exact decide_eq_false fun z => nm_irrefl n (nm_trans (h m List.mem_cons_self) z)
    have ih := minD_n r n fun x hx => h x (List.mem_cons_of_mem _ hx)
    show PySem.W.minD (nS n) (nS m :: r.map nS) = nS n
    unfold PySem.W.minD at ih ⊢
    simp [hm] at ih ⊢
    exact ih

theorem pick_n {n : Nm} {ns : List Nm} (h : ∀ m ∈ ns, n < m) : bPick false [.d (.list ((n :: ns).map nS))] = pure (.d (nS n)) := by
  have l := lay_map (enc := nS) (d := 0) lay_n (n :: ns)
  have al : PySem.W.AlikeAll ((n :: ns).map nS) := ⟨fun x hx y hy => by
    obtain ⟨a, _, rfl⟩ := List.mem_map.mp hx
    obtain ⟨b, _, rfl⟩ := List.mem_map.mp hy
    rfl, fun x hx => by
    obtain ⟨a, _, rfl⟩ := List.mem_map.mp hx
    intro z; cases z⟩
  show (M.need _ >>= _) = _
  rw [need_of ⟨al, l.1, Nat.le_trans l.2 (by decide)⟩]
  show pure (SD.d (PySem.W.minD (nS n) (ns.map nS))) = _
  rw [minD_n ns n h]

end Dd
/-! L19 -/
namespace Dd
open PySem PySem.Spec PyProof.Rows L2

/-! ### witnesses -/

def kn (r : Row) : Bool := decide (r.lo = r.hi)

abbrev unk (rs : List Row) : List Row := rs.filter fun r => !kn r

theorem kn_R {r : Row} : kn r = true ↔ R r.lo = R r.hi := by
  unfold kn
  rw [decide_eq_true_eq]
  exact R_eq.symm

theorem unk_R {r : Row} : kn r = false ↔ R r.lo < R r.hi := by
  have le := r.le
  unfold kn
  rw [decide_eq_false_iff_not, ← R_eq]
  grind

theorem d_unknown_rows_eq {n : Nat} (rs : List Row) [Ln n rs] (hn : n ≤ 100000 := by decide) : d_unknown_rows [.d (.list (rs.map rw'))] = pure (.d (.list ((unk rs).map rw'))) := by
  simp [d_unknown_rows, u_unknown_rows, lcM_map, d_is_known_eq]
  rw [sp_lcF (n := n) hn]
  rfl

/-- the bounds of the other lie within those of the row -/
def lw (o r : Row) : Bool := if kn o = true then decide (R r.lo < R o.lo) && decide (R o.lo < R r.hi) else !decide (R o.lo < R r.lo) && !decide (R r.hi < R o.hi)

theorem d_lies_within_eq (o r : Row) : d_lies_within [.d (rw' o), .d (rw' r)] = pure (dB (lw o r)) := by
  unfold lw kn
  by_cases h : o.lo = o.hi
  · simp [d_lies_within, u_lies_within, d_is_known_eq, d_lies_inside_eq, h]
  · by_cases h2 : R o.lo < R r.lo <;> simp [d_lies_within, u_lies_within, d_is_known_eq, d_at_most_eq, h, h2]

def reqS (rs : List Row) : List Row := (unk rs).filter fun r => (rs.filter fun o => !decide (o.nm = r.nm)).any fun o => lw o r

theorem d_sort_required_eq {n : Nat} (rs : List Row) [Ln n rs] (hn : n ≤ 100000 := by decide) : d_sort_required [.d (.list (rs.map rw'))] = pure (.d (.list ((reqS rs).map rw'))) := by
  simp [d_sort_required, u_sort_required, d_unknown_rows_eq rs hn, lcM_map, d_lies_within_eq]
  rw [lcF_congr (B' := fun r => pure ((rs.filter fun o => !decide (o.nm = r.nm)).any fun o => lw o r)) (T' := fun r => pure (.d (rw' r))) (fun r _ => ?_) (fun _ _ => rfl), sp_lcF (n := n) hn]
  · rfl
  · rw [sp_lcF (n := n) hn]
    simp

def npD (p : Nm × Nm) : PyData := .tuple [nS p.1, nS p.2]

def prsS (rs : List Row) : List (Nm × Nm) := ((prs (unk rs)).filter fun p => !sepd p.1 p.2).map fun p => (p.1.nm, p.2.nm)

/-- keeps the row from the frontier -/
def kff (o r : Row) : Bool := if kn o = true then !decide (R r.lo < R o.lo) else decide (R o.lo < R r.lo)

theorem d_keeps_from_frontier_eq (o r : Row) : d_keeps_from_frontier [.d (rw' o), .d (rw' r)] = pure (dB (kff o r)) := by
  unfold kff kn
  by_cases h : o.lo = o.hi <;> simp [d_keeps_from_frontier, u_keeps_from_frontier, d_is_known_eq, d_at_most_eq, d_less_eq, h]

def frn (rs : List Row) : List Row := (unk rs).filter fun r => !rs.any fun o => kff o r

theorem d_frontier_eq {n : Nat} (rs : List Row) [Ln n rs] (hn : n ≤ 100000 := by decide) : d_frontier [.d (.list (rs.map rw'))] = pure (.d (.list ((frn rs).map rw'))) := by
  simp [d_frontier, u_frontier, d_unknown_rows_eq rs hn, lcM_map, d_keeps_from_frontier_eq]
  rw [lcF_congr (B' := fun r => pure (!rs.any fun o => kff o r)) (T' := fun r => pure (.d (rw' r))) (fun r _ => ?_) (fun _ _ => rfl), sp_lcF (n := n) hn]
  · rfl
  · rw [sp_lcT (n := n) hn]
    simp

def eb (o r : Row) : Bool := if kn o = true then decide (R o.lo < R r.hi) else !decide (R r.hi < R o.hi)

theorem d_ends_below_eq (o r : Row) : d_ends_below [.d (rw' o), .d (rw' r)] = pure (dB (eb o r)) := by
  unfold eb kn
  by_cases h : o.lo = o.hi <;> simp [d_ends_below, u_ends_below, d_is_known_eq, d_at_most_eq, d_less_eq, h]

def reqM (rs : List Row) : List Row := (frn rs).filter fun r => (rs.filter fun o => !decide (o.nm = r.nm)).any fun o => eb o r

theorem d_min_required_eq {n : Nat} (rs : List Row) [Ln n rs] (hn : n ≤ 100000 := by decide) : d_min_required [.d (.list (rs.map rw'))] = pure (.d (.list ((reqM rs).map rw'))) := by
  simp [d_min_required, u_min_required, d_frontier_eq rs hn, lcM_map, d_ends_below_eq]
  haveI : Ln n (frn rs) := inferInstanceAs (Ln n ((unk rs).filter _))
  rw [lcF_congr (B' := fun r => pure ((rs.filter fun o => !decide (o.nm = r.nm)).any fun o => eb o r)) (T' := fun r => pure (.d (rw' r))) (fun r _ => ?_) (fun _ _ => rfl), sp_lcF (n := n) hn]
  · rfl
  · rw [sp_lcF (n := n) hn]
    simp

instance ln_frn {n : Nat} {rs : List Row} [h : Ln n rs] : Ln n (frn rs) := inferInstanceAs (Ln n ((unk rs).filter _))

instance ln_reqS {n : Nat} {rs : List Row} [h : Ln n rs] : Ln n (reqS rs) := inferInstanceAs (Ln n ((unk rs).filter _))

instance ln_reqM {n : Nat} {rs : List Row} [h : Ln n rs] : Ln n (reqM rs) := inferInstanceAs (Ln n ((frn rs).filter _))

/-! ### pairs of a "min" query -/

def npair (a b : Nm) : Nm × Nm := if b < a then (b, a) else (a, b)

theorem pick2_n (mx : Bool) (a b : Nm) : bPick2 mx [.d (.str a.s), .d (.str b.s)] = pure (.d (nS (if mx then (if a < b then b else a) else (if b < a then b else a)))) := by
  show pure (SD.d (.str (if mx then (if a.s.cps.toList < b.s.cps.toList then b.s else a.s) else (if b.s.cps.toList < a.s.cps.toList then b.s else a.s)))) = _
  have e1 : (a < b) = (a.s.cps.toList < b.s.cps.toList) := rfl
  have e2 : (b < a) = (b.s.cps.toList < a.s.cps.toList) := rfl
  cases mx
  · by_cases h : b < a
    · have h' := h; rw [e2] at h'; simp [h, h']
    · have h' := h; rw [e2] at h'; simp [h, h']
  · by_cases h : a < b
    · have h' := h; rw [e1] at h'; simp [h, h']
    · have h' := h; rw [e1] at h'; simp [h, h']

def prsM (rs : List Row) : List (Nm × Nm) := (frn rs).flatMap fun r => ((unk rs).filter fun o => !decide (o.nm = r.nm) && decide (R o.lo < R r.hi)).map fun o => npair r.nm o.nm

def reqN (rs : List Row) : Qy → List Nm
  | .above ns t => nms ((qrows rs (.above ns t)).filter fun r => decide (R r.lo < R t) && decide (R t < R r.hi))
  | .mn ns => nms (reqM (qrows rs (.mn ns)))
  | .mx ns => nms (reqM (qrows rs (.mx ns)))
  | .sort ns => nms (reqS (qrows rs (.sort ns)))
  | .cmp a b => nms (reqS (qrows rs (.cmp a b)))

theorem d_required_items_eq {rs : List Row} (h : IvOk rs) {q : Qy} (hq : q.Ok (nms rs)) : d_required_items [.d (.list (rs.map rw')), .d (qD q)] = pure (.d (.list ((reqN rs q).map nS))) := by
  haveI := h.ln
  have e := d_check_problem_none h (qs := [q]) (by simpa using hq) (by simp)
  have e2 := d_query_rows_eq rs q
  simp at e
  simp [d_required_items, u_required_items, e, d_required_names, u_required_names, e2]
  cases q <;> simp [qD, lcM_map, d_lies_inside_eq, d_min_required_eq, d_sort_required_eq, reqN]
  all_goals rfl

/-! ### sorted(set(pairs)) -/

def npK (p : Nm × Nm) : List Str := [p.1.s, p.2.s]

theorem npK_inj {p q : Nm × Nm} (h : npK p = npK q) : p = q := by
  unfold npK at h
  injection h with h1 h2
  injection h2 with h2 _
  exact Prod.ext (Nm.ext h1) (Nm.ext h2)

theorem keys_np : ∀ ps : List (Nm × Nm), keysD (ps.map npD) = some (ps.map npK)
  | [] => rfl
  | p :: r => by
    show (some (npK p)).bind (fun k => (keysD (r.map npD)).map (k :: ·)) = _
    rw [keys_np r]
    rfl

theorem keys_back {ps : List (Nm × Nm)} : ∀ {out : List (List Str)}, (∀ k ∈ out, k ∈ ps.map npK) → ∃ l : List (Nm × Nm), out = l.map npK
  | [], _ => ⟨[], rfl⟩
  | k :: r, h => by
    obtain ⟨p, _, e⟩ := List.mem_map.mp (h k List.mem_cons_self)
    obtain ⟨l, rfl⟩ := keys_back (out := r) fun j hj => h j (List.mem_cons_of_mem _ hj)
    exact ⟨p :: l, by rw [List.map_cons, e]⟩

theorem mem_npK {p : Nm × Nm} {l : List (Nm × Nm)} : npK p ∈ l.map npK ↔ p ∈ l := by
  constructor
  · intro h
    obtain ⟨q, hq, e⟩ := List.mem_map.mp h
    exact npK_inj e ▸ hq
  · exact fun h => List.mem_map_of_mem h

theorem sortSet_run {ps : List (Nm × Nm)} (few : ps.length < 64) {β : Type} {f : SD → M β} {P : β → Prop} {E : Exn → Prop} (h : ∀ l : List (Nm × Nm), l.Nodup → (∀ p, p ∈ l ↔ p ∈ ps) → l.Pairwise (fun a b => PySem.W.dataLt (npD b) (npD a) = false) → (f (.d (.list (l.map npD)))).run P E) : (bSortSet (.d (.list (ps.map npD))) >>= f).run P E := by
  refine ⟨_, _, rfl, keys_np ps, by rw [List.length_map]; exact few, fun out nd mem pw => ?_⟩
  obtain ⟨l, rfl⟩ := keys_back (ps := ps) fun k hk => (mem k).mp hk
  have nd' : l.Nodup := List.Pairwise.of_map npK (fun a b hne e => hne (congrArg npK e)) nd
  have e : (l.map npK).map encT = l.map npD := by rw [List.map_map]; rfl
  rw [e]
  exact h l nd' (fun p => by rw [← mem_npK, mem (npK p), mem_npK]) (List.pairwise_map.mp pw)

/-- the witness pairs -/
def WP (rs : List Row) (q : Qy) (ps : List (Nm × Nm)) : Prop := match q with
  | .above _ _ => ps = []
  | .sort _ => ps = prsS (qrows rs q)
  | .cmp _ _ => ps = prsS (qrows rs q)
  | _ => ps.Nodup ∧ (∀ p, p ∈ ps ↔ p ∈ prsM (qrows rs q)) ∧ ps.Pairwise fun a b => PySem.W.dataLt (npD b) (npD a) = false

theorem prsM_len {rs : List Row} (h : rs.length ≤ 7) : (prsM rs).length < 64 := by
  haveI : Ln 7 rs := ⟨h⟩
  have h1 : (frn rs).length ≤ 7 := (inferInstance : Ln 7 (frn rs)).le
  have h2 : (unk rs).length ≤ 7 := (inferInstance : Ln 7 (unk rs)).le
  unfold prsM
  have := ln_flat_le (m := 7) (xs := frn rs) (f := fun r => ((unk rs).filter fun o => !decide (o.nm = r.nm) && decide (R o.lo < R r.hi)).map fun o => npair r.nm o.nm) fun r _ => by
    rw [List.length_map]
    exact Nat.le_trans (List.length_filter_le _ _) h2
  have h3 := Nat.mul_le_mul_right 7 h1
  omega

theorem lay_np (p : Nm × Nm) : (npD p).canLay0 = true ∧ (npD p).depth ≤ 1 := by
  simp [npD, PyData.canLay0, PyData.canLayAll0, PyData.depth, PyData.depthAll]
  exact ⟨p.1.lay, p.2.lay⟩

theorem eqv_np (p q : Nm × Nm) : PyData.eqv (npD p) (npD q) = decide (p = q) := by
  have e : PyData.eqv (npD p) (npD q) = (PyData.eqv (nS p.1) (nS q.1) && (PyData.eqv (nS p.2) (nS q.2) && true)) := rfl
  rw [e, eqv_n, eqv_n, Bool.eq_iff_iff]
  simp only [Bool.and_true, Bool.and_eq_true, decide_eq_true_eq]
  exact ⟨fun h => Prod.ext h.1 h.2, fun h => h ▸ ⟨rfl, rfl⟩⟩

@[simp] theorem eqNps (xs ys : List (Nm × Nm)) : gEq (.d (.list (xs.map npD))) (.d (.list (ys.map npD))) = some (dB (decide (xs = ys))) := eqL eqv_np lay_np (by decide) xs ys

@[simp] theorem eqNps0 (xs : List (Nm × Nm)) : gEq (.d (.list (xs.map npD))) (.d (.list [])) = some (dB (decide (xs = []))) := eqNps xs []

@[simp] theorem eqNms0 (xs : List Nm) : gEq (.d (.list (xs.map nS))) (.d (.list [])) = some (dB (decide (xs = []))) := eqNms xs []

end Dd
/-! L20 -/
namespace Dd
open PySem PySem.Spec PyProof.Rows L2

/-! ### no witness, no doubt -/

theorem filter_nil {α : Type} {p : α → Bool} {l : List α} : l.filter p = [] ↔ ∀ x ∈ l, p x = false := by
  rw [List.filter_eq_nil_iff]
  exact ⟨fun h x hx => by simpa using h x hx, fun h x hx => by rw [h x hx]; decide⟩

theorem reqS_nil {rs : List Row} : reqS rs = [] ↔ ∀ r ∈ rs, kn r = false → ∀ o ∈ rs, o.nm ≠ r.nm → lw o r = false := by
  unfold reqS
  rw [filter_nil]
  constructor
  · intro h r hr hk o ho ne
    have := h r (List.mem_filter.mpr ⟨hr, by rw [hk]; rfl⟩)
    rw [List.any_eq_false] at this
    simpa using this o (List.mem_filter.mpr ⟨ho, by simpa using ne⟩)
  · intro h r hr
    obtain ⟨h1, h2⟩ := List.mem_filter.mp hr
    rw [List.any_eq_false]
    intro o ho
    obtain ⟨h3, h4⟩ := List.mem_filter.mp ho
    rw [h r h1 (by simpa using h2) o h3 (by simpa using h4)]
    decide

theorem prsS_nil {rs : List Row} : prsS rs = [] ↔ (unk rs).Pairwise fun a b => sepd a b = true := by
  unfold prsS
  rw [List.map_eq_nil_iff, filter_nil]
  have := prs_all (f := fun p : Row × Row => sepd p.1 p.2) (xs := unk rs)
  rw [← this, List.all_eq_true]
  exact ⟨fun h p hp => by simpa using h p hp, fun h p hp => by rw [h p hp]; rfl⟩

/-- two items are separated if neither lies within an unknown one, and if not both are unknown, or as told -/
theorem sort_wit {rs : List Row} (nd : rs.Pairwise fun a b => a.nm ≠ b.nm) : (reqS rs = [] ∧ prsS rs = []) ↔ (prs rs).all (fun p => sepd p.1 p.2) = true := by
  rw [prs_all, reqS_nil, prsS_nil]
  have sym : ∀ a b : Row, sepd a b = true → sepd b a = true := fun a b z => by rw [sepd_symm]; exact z
  have sm : ∀ a b : Row, a.nm ≠ b.nm → b.nm ≠ a.nm := fun a b z y => z y.symm
  constructor
  · rintro ⟨h1, h2⟩
    refine List.Pairwise.imp_of_mem (fun {a b} ha hb ne => ?_) nd
    have la := a.le
    have lb := b.le
    cases ka : kn a with
    | true =>
      cases kb : kn b with
      | true =>
        have ea := kn_R.mp ka
        have eb := kn_R.mp kb
        simp only [sepd, Bool.or_eq_true, Bool.not_eq_true', decide_eq_false_iff_not]
        grind
      | false =>
        have w := h1 b hb kb a ha ne
        have ea := kn_R.mp ka
        simp only [lw, ka, if_true, Bool.and_eq_false_iff, decide_eq_false_iff_not] at w
        simp only [sepd, Bool.or_eq_true, Bool.not_eq_true', decide_eq_false_iff_not]
        grind
    | false =>
      cases kb : kn b with
      | true =>
        have w := h1 a ha ka b hb (sm _ _ ne)
        have eb := kn_R.mp kb
        simp only [lw, kb, if_true, Bool.and_eq_false_iff, decide_eq_false_iff_not] at w
        simp only [sepd, Bool.or_eq_true, Bool.not_eq_true', decide_eq_false_iff_not]
        grind
      | false =>
        refine pw_all sym h2 a (List.mem_filter.mpr ⟨ha, by rw [ka]; rfl⟩) b (List.mem_filter.mpr ⟨hb, by rw [kb]; rfl⟩) fun z => ne (z ▸ rfl)
  · intro h
    have all := pw_all sym h
    refine ⟨fun r hr hk o ho ne => ?_, h.filter _⟩
    have s := all o ho r hr fun z => ne (z ▸ rfl)
    have ur := unk_R.mp hk
    have lo := o.le
    simp only [sepd, Bool.or_eq_true, Bool.not_eq_true', decide_eq_false_iff_not] at s
    cases ko : kn o with
    | true =>
      have eo := kn_R.mp ko
      simp only [lw, ko, if_true, Bool.and_eq_false_iff, decide_eq_false_iff_not]
      grind
    | false =>
      have uo := unk_R.mp ko
      simp only [lw, ko, Bool.false_eq_true, if_false, Bool.and_eq_false_iff, Bool.not_eq_false', decide_eq_true_eq]
      grind

theorem mem_frn {rs : List Row} {r : Row} : r ∈ frn rs ↔ r ∈ rs ∧ kn r = false ∧ ∀ o ∈ rs, kff o r = false := by
  unfold frn
  rw [List.mem_filter, List.mem_filter]
  simp only [Bool.not_eq_true', List.any_eq_false, Bool.not_eq_true, and_assoc]

theorem reqM_nil {rs : List Row} : reqM rs = [] ↔ ∀ r ∈ frn rs, ∀ o ∈ rs, o.nm ≠ r.nm → eb o r = false := by
  unfold reqM
  rw [filter_nil]
  constructor
  · intro h r hr o ho ne
    have := h r hr
    rw [List.any_eq_false] at this
    simpa using this o (List.mem_filter.mpr ⟨ho, by simpa using ne⟩)
  · intro h r hr
    rw [List.any_eq_false]
    intro o ho
    obtain ⟨h3, h4⟩ := List.mem_filter.mp ho
    rw [h r hr o h3 (by simpa using h4)]
    decide

theorem prsM_nil {rs : List Row} : prsM rs = [] ↔ ∀ r ∈ frn rs, ∀ o ∈ rs, kn o = false → o.nm ≠ r.nm → ¬ R o.lo < R r.hi := by
  unfold prsM
  rw [List.flatMap_eq_nil_iff]
  constructor
  · intro h r hr o ho hk ne lt
    have := h r hr
    rw [List.map_eq_nil_iff, filter_nil] at this
    have := this o (List.mem_filter.mpr ⟨ho, by rw [hk]; rfl⟩)
    simp [ne, lt] at this
  · intro h r hr
    rw [List.map_eq_nil_iff, filter_nil]
    intro o ho
    obtain ⟨h1, h2⟩ := List.mem_filter.mp ho
    by_cases ne : o.nm = r.nm
    · simp [ne]
    · have := h r hr o h1 (by simpa using h2) ne
      simp [ne, this]

theorem ex_low : ∀ {rs : List Row}, rs ≠ [] → ∃ m ∈ rs, ∀ o ∈ rs, R m.lo ≤ R o.lo
  | [], h => absurd rfl h
  | [r], _ => ⟨r, List.mem_cons_self, fun o ho => by rw [List.mem_singleton.mp ho]; exact Rat.le_refl⟩
  | r :: s :: t, _ => by
    obtain ⟨m, hm, h⟩ := ex_low (rs := s :: t) (by simp)
    by_cases z : R r.lo ≤ R m.lo
    · refine ⟨r, List.mem_cons_self, fun o ho => ?_⟩
      rcases List.mem_cons.mp ho with rfl | ho
      · exact Rat.le_refl
      · exact Rat.le_trans z (h o ho)
    · refine ⟨m, List.mem_cons_of_mem _ hm, fun o ho => ?_⟩
      rcases List.mem_cons.mp ho with rfl | ho
      · grind
      · exact h o ho

theorem least_iff {r : Row} {rs : List Row} : least r rs = true ↔ ∀ o ∈ rs, o.nm ≠ r.nm → R r.hi ≤ R o.lo := by
  unfold least
  rw [List.all_eq_true]
  constructor
  · intro h o ho ne
    have := h o (List.mem_filter.mpr ⟨ho, by simpa using ne⟩)
    simp only [Bool.not_eq_true', decide_eq_false_iff_not] at this
    grind
  · intro h o ho
    obtain ⟨h1, h2⟩ := List.mem_filter.mp ho
    have := h o h1 (by simpa using h2)
    simp only [Bool.not_eq_true', decide_eq_false_iff_not]
    grind

theorem min_wit {rs : List Row} (nd : rs.Pairwise fun a b => a.nm ≠ b.nm) (ne : rs ≠ []) : (reqM rs = [] ∧ prsM rs = []) ↔ (rs.any fun r => least r rs) = true := by
  rw [reqM_nil, prsM_nil, List.any_eq_true]
  have neq : ∀ a ∈ rs, ∀ b ∈ rs, a ≠ b → a.nm ≠ b.nm := pw_all (fun a b z y => z y.symm) nd
  constructor
  · rintro ⟨h1, h2⟩
    obtain ⟨m, hm, low⟩ := ex_low ne
    by_cases hk : ∃ k ∈ rs, kn k = true ∧ R k.lo ≤ R m.lo
    · obtain ⟨k, hk1, hk2, hk3⟩ := hk
      refine ⟨k, hk1, least_iff.mpr fun o ho _ => ?_⟩
      have := kn_R.mp hk2
      have := low o ho
      grind
    · have nk : ∀ k ∈ rs, kn k = true → R m.lo < R k.lo := fun k h3 h4 => by
        by_cases z : R k.lo ≤ R m.lo
        · exact absurd ⟨k, h3, h4, z⟩ hk
        · grind
      have um : kn m = false := by
        cases z : kn m with
        | false => rfl
        | true => have := nk m hm z; grind
      have fm : m ∈ frn rs := mem_frn.mpr ⟨hm, um, fun o ho => by
        unfold kff
        cases ko : kn o with
        | true => have := nk o ho ko; simp [this]
        | false => have := low o ho; simp; grind⟩
      refine ⟨m, hm, least_iff.mpr fun o ho ne => ?_⟩
      cases ko : kn o with
      | true =>
        have e := h1 m fm o ho ne
        simp [eb, ko] at e
        grind
      | false =>
        have := h2 m fm o ho ko ne
        grind
  · rintro ⟨r, hr, hl⟩
    have hl := least_iff.mp hl
    have ur := r.le
    have only : ∀ f ∈ frn rs, f = r := fun f hf => by
      by_cases z : f = r
      · exact z
      · obtain ⟨h1, h2, h3⟩ := mem_frn.mp hf
        have l1 := hl f h1 (neq f h1 r hr z)
        have k := h3 r hr
        have uf := unk_R.mp h2
        unfold kff at k
        exfalso
        cases kr : kn r with
        | true =>
          have := kn_R.mp kr
          simp [kr] at k
          grind
        | false =>
          have := unk_R.mp kr
          simp [kr] at k
          grind
    refine ⟨fun f hf o ho ne => ?_, fun f hf o ho hk ne => ?_⟩
    · rw [only f hf] at ne ⊢
      have l1 := hl o ho ne
      unfold eb
      cases ko : kn o with
      | true => simp; grind
      | false =>
        have := unk_R.mp ko
        simp; grind
    · rw [only f hf] at ne ⊢
      have l1 := hl o ho ne
      grind

end Dd
/-! L21 -/
namespace Dd
open PySem PySem.Spec PyProof.Rows L2

/-! ### the law's witness pairs -/

theorem for_exX0 {α : Type} {tg : Tg} {U : List SD → M Out} (g : α → SD) (I : List α → List SD → Prop) (all : List α)
    (h : ∀ done x rest ρ, done ++ x :: rest = all → I done ρ → ∃ ρ', I (done ++ [x]) ρ' ∧ (M.lift (kOf tg (g x) ρ) >>= U) = pure (.nx ρ')) : ∀ (xs done : List α) (ρ : List SD), done ++ xs = all → I done ρ → ∃ ρ', I all ρ' ∧ forM tg U (xs.map g) ρ = pure (.nx ρ')
  | [], done, ρ, e, i => ⟨ρ, by rw [List.append_nil] at e; rw [← e]; exact i, rfl⟩
  | x :: r, done, ρ, e, i => by
    obtain ⟨ρ1, i1, e1⟩ := h done x r ρ e i
    obtain ⟨ρ2, i2, e2⟩ := for_exX0 g I all h r (done ++ [x]) ρ1 (by rw [List.append_assoc]; exact e) i1
    refine ⟨ρ2, i2, ?_⟩
    rw [List.map_cons, sp_for_cons, ← sp_bnd_assoc, e1, sp_pure_bnd]
    exact e2

theorem for_exX {α : Type} {tg : Tg} {U : List SD → M Out} (g : α → SD) (I : List α → List SD → Prop) (all : List α) {ρ : List SD} (i : I [] ρ)
    (h : ∀ done x rest ρ, done ++ x :: rest = all → I done ρ → ∃ ρ', I (done ++ [x]) ρ' ∧ (M.lift (kOf tg (g x) ρ) >>= U) = pure (.nx ρ')) : ∃ ρ', I all ρ' ∧ forM tg U (all.map g) ρ = pure (.nx ρ') := for_exX0 g I all h all [] ρ rfl i

theorem for_exS {α β : Type} {tg : Tg} {U : List SD → M Out} (g : α → SD) (I : List α → List SD → Prop) (all : List α) {ρ : List SD} {f : List SD → M Out} {K : Out → M β} {R : M β} (i : I [] ρ)
    (h : ∀ done x rest ρ, done ++ x :: rest = all → I done ρ → ∃ ρ', I (done ++ [x]) ρ' ∧ (M.lift (kOf tg (g x) ρ) >>= U) = pure (.nx ρ')) (fin : ∀ ρ', I all ρ' → (f ρ' >>= K) = R) : (seqM (forM tg U (all.map g) ρ) f >>= K) = R := by
  obtain ⟨ρ', i', e⟩ := for_exX g I all i h
  rw [e]
  exact fin ρ' i'

abbrev ask (rs : List Row) (ns : List Nm) : List Row := rs.filter fun r => decide (r.nm ∈ ns)

theorem at_ask {rs : List Row} (h : Asc rs) {ns : List Nm} {r : Row} (hr : r ∈ ask rs ns) : at' rs r.nm = (r.lo, r.hi) := by
  unfold at'
  rw [rowAt_self h (List.mem_filter.mp hr).1]

theorem tbl_ask {rs : List Row} (h : Asc rs) {ns : List Nm} {r : Row} (hr : r ∈ ask rs ns) : gIx (.d (tblD rs)) (.d (.str r.nm.s)) = some (.d (prD (r.lo, r.hi))) := by
  rw [ix_tbl h (List.mem_map_of_mem (List.mem_filter.mp hr).1), at_ask h hr]

theorem d__law_unknown_eq {rs : List Row} (h : IvOk rs) {ns : List Nm} (nd : ns.Nodup) (inn : ∀ n ∈ ns, n ∈ nms rs) (len : ns.length ≤ 24) : d__law_unknown [.d (tblD rs), .d (.list (ns.map nS))] = pure (.d (.list ((unk (ask rs ns)).map fun r => nS r.nm))) := by
  haveI : Ln 24 ns := ⟨len⟩
  haveI := h.ln
  have e : srt nS ns = nms (ask rs ns) := (nms_asked h.asc nd inn).symm
  simp [d__law_unknown, u__law_unknown, sorted_n, e, Function.comp_def, lcM_map, -List.filter_filter]
  rw [lcF_congr (B' := fun r => pure (!kn r)) (T' := fun r => pure (.d (nS r.nm))) (fun r hr => ?_) (fun _ _ => rfl), sp_lcF (n := 24) (by decide)]
  · rfl
  · have t := tbl_ask h.asc hr
    have k := d__law_is_known_eq (r.lo, r.hi)
    rw [ix_dN] at t
    simp [t, k, kn]

/-- the law's word for the frontier -/
theorem front_iff {A : List Row} {x : Row} (hx : x ∈ A) {b2 : Bool} (h2 : b2 = true ↔ ∃ o ∈ A, kn o = true ∧ ¬ R x.lo < R o.lo) : (!A.any fun o => kff o x) = (((unk A).all fun o => !decide (R o.lo < R x.lo)) && !b2) := by
  rw [Bool.eq_iff_iff, Bool.and_eq_true, Bool.not_eq_true', Bool.not_eq_true', List.any_eq_false, List.all_eq_true]
  constructor
  · intro h
    refine ⟨fun o ho => ?_, ?_⟩
    · obtain ⟨h3, h4⟩ := List.mem_filter.mp ho
      have k : kn o = false := by simpa using h4
      have := h o h3
      simpa [kff, k] using this
    · cases z : b2 with
      | false => rfl
      | true =>
        obtain ⟨o, h3, h4, h5⟩ := h2.mp z
        have := h o h3
        simp [kff, h4] at this
        exact absurd this h5
  · rintro ⟨h3, h4⟩ o ho
    cases k : kn o with
    | true =>
      have : ¬ (¬ R x.lo < R o.lo) := fun z => by
        have := h2.mpr ⟨o, ho, k, z⟩
        rw [h4] at this
        cases this
      simp [kff, k]
      exact Classical.not_not.mp this
    | false =>
      have := h3 o (List.mem_filter.mpr ⟨ho, by rw [k]; rfl⟩)
      simpa [kff, k] using this

/-- the names of the frontier -/
theorem d__law_frontier_eq {rs : List Row} (h : IvOk rs) {ns : List Nm} (nd : ns.Nodup) (inn : ∀ n ∈ ns, n ∈ nms rs) (len : ns.length ≤ 24) : d__law_frontier [.d (tblD rs), .d (.list (ns.map nS))] = pure (.d (.list ((nms (frn (ask rs ns))).map nS))) := by
  haveI : Ln 24 ns := ⟨len⟩
  haveI := h.ln
  have u := d__law_unknown_eq h nd inn len
  have fr : ∀ x ∈ unk (ask rs ns), (!(ask rs ns).any fun o => kff o x) = (((unk (ask rs ns)).all fun o => !decide (R o.lo < R x.lo)) && !((ns.filter fun n => decide ((at' rs n).1 = (at' rs n).2)).any fun n => !decide (R x.lo < R (at' rs n).1))) := fun x hx => by
    refine front_iff (List.mem_filter.mp hx).1 ?_
    rw [List.any_eq_true]
    constructor
    · rintro ⟨n, h1, h2⟩
      obtain ⟨h1, h3⟩ := List.mem_filter.mp h1
      obtain ⟨g1, g2⟩ := rowAt_mem (inn n h1)
      exact ⟨rowAt rs n, List.mem_filter.mpr ⟨g1, by rw [g2]; simpa using h1⟩, h3, by have h2 := h2; simp only [at', Bool.not_eq_true'] at h2; exact of_decide_eq_false h2⟩
    · rintro ⟨o, h1, h2, h3⟩
      have t := at_ask h.asc h1
      have m : o.nm ∈ ns := by simpa using (List.mem_filter.mp h1).2
      exact ⟨o.nm, List.mem_filter.mpr ⟨m, by rw [t]; exact h2⟩, by rw [t]; simpa using h3⟩
  have tb : ∀ o ∈ unk (ask rs ns), gIx (.d (tblD rs)) (.d (nS o.nm)) = some (.d (prD (o.lo, o.hi))) := fun o ho => tbl_ask h.asc (List.mem_filter.mp ho).1
  have tn : ∀ n ∈ ns, gIx (.d (tblD rs)) (.d (nS n)) = some (.d (prD (at' rs n))) := fun n hn => ix_tbl h.asc (inn n hn)
  have lnB : Ln 24 (unk (ask rs ns)) := inferInstance
  show _ = pure (SD.d (PyData.list ((nms ((unk (ask rs ns)).filter fun r => !(ask rs ns).any fun o => kff o r)).map nS)))
  generalize hp : (fun r : Row => !(ask rs ns).any fun o => kff o r) = p
  have fr : ∀ x ∈ unk (ask rs ns), p x = (((unk (ask rs ns)).all fun o => !decide (R o.lo < R x.lo)) && !((ns.filter fun n => decide ((at' rs n).1 = (at' rs n).2)).any fun n => !decide (R x.lo < R (at' rs n).1))) := fun x hx => by rw [← fr x hx, ← hp]
  generalize unk (ask rs ns) = B at *
  simp only [d__law_frontier, sp_defM]
  simp [u__law_frontier, u, Function.comp_def]
  refine for_exS (fun r : Row => .d (nS r.nm)) (fun done ρ => ∃ a b c, ρ = [.d (tblD rs), .d (.list (ns.map nS)), .d (.list (B.map fun r => nS r.nm)), .own ((nms (done.filter p)).map nS), a, b, c, .no]) B ⟨_, _, _, rfl⟩ ?_ ?_
  · rintro done x rest ρ hd ⟨a, b, c, rfl⟩
    have hx : x ∈ B := by rw [← hd]; simp
    have tx := tb x hx
    have c1 : lcF (fun _ : Row => (pure true : M Bool)) (fun o : Row => M.lift (gIx (.d (tblD rs)) (.d (nS o.nm))) >>= fun a => M.lift (gIx a (.d (.int 0))) >>= fun a => M.calm (callM 2 (fun xs => M.calm (d__law_at_most xs)) [.d (fq x.lo), a])) B [] = pure (B.map fun o => .bool (!decide (R o.lo < R x.lo))) := by
      rw [lcF_congr (B' := fun _ => pure true) (T' := fun o => pure (.d (.bool (!decide (R o.lo < R x.lo))))) (fun _ _ => rfl) (fun o ho => ?_), sp_lcT (n := 24) (by decide)]
      rw [tb o ho]
      simp [d__law_at_most_eq]
    have c2 : lcF (fun n : Nm => M.lift (gIx (.d (tblD rs)) (.d (nS n))) >>= fun a => M.calm (callM 1 (fun xs => M.calm (d__law_is_known xs)) [a]) >>= fun x => M.lift (truD x)) (fun n : Nm => pure (.d (nS n))) ns [] = pure ((ns.filter fun n => decide ((at' rs n).1 = (at' rs n).2)).map nS) := by
      rw [lcF_congr (B' := fun n => pure (decide ((at' rs n).1 = (at' rs n).2))) (T' := fun n => pure (.d (nS n))) (fun n hn => ?_) (fun _ _ => rfl), sp_lcF (n := 24) (by decide)]
      rw [tn n hn]
      simp [d__law_is_known_eq]
    have c3 : lcF (fun _ : Nm => (pure true : M Bool)) (fun n : Nm => M.lift (gIx (.d (tblD rs)) (.d (nS n))) >>= fun a => M.lift (gIx a (.d (.int 0))) >>= fun a => M.calm (callM 2 (fun xs => M.calm (d__law_at_most xs)) [a, .d (fq x.lo)])) (ns.filter fun n => decide ((at' rs n).1 = (at' rs n).2)) [] = pure ((ns.filter fun n => decide ((at' rs n).1 = (at' rs n).2)).map fun n => .bool (!decide (R x.lo < R (at' rs n).1))) := by
      rw [lcF_congr (B' := fun _ => pure true) (T' := fun n => pure (.d (.bool (!decide (R x.lo < R (at' rs n).1))))) (fun _ _ => rfl) (fun n hn => ?_), sp_lcT (n := 24) (by decide)]
      rw [tn n (List.mem_filter.mp hn).1]
      simp [d__law_at_most_eq]
    have fx := fr x hx
    generalize (ns.filter fun n => decide ((at' rs n).1 = (at' rs n).2)) = Kn at *
    have sz : szOk ((done.filter p).length + 1) = true := decide_eq_true (by
      have h1 := List.length_filter_le p done
      have h2 := congrArg List.length hd
      rw [List.length_append] at h2
      have := lnB.le
      omega)
    have neg : p x = false → (done ++ [x]).filter p = done.filter p := fun z => by rw [List.filter_append, List.filter_cons_of_neg (by rw [z]; decide), List.filter_nil, List.append_nil]
    have pos : p x = true → (done ++ [x]).filter p = done.filter p ++ [x] := fun z => by rw [List.filter_append, List.filter_cons_of_pos z, List.filter_nil]
    cases b1 : B.all fun o => !decide (R o.lo < R x.lo) with
    | false =>
      rw [b1] at fx
      refine ⟨[.d (tblD rs), .d (.list (ns.map nS)), .d (.list (B.map fun r => nS r.nm)), .own ((nms (done.filter p)).map nS), .d (nS x.nm), .d (fq x.lo), c, .no], ⟨_, _, _, by rw [neg fx]⟩, ?_⟩
      simp [-ix_dN, tx, lcM_map, c1, b1, Function.comp_def, -List.all_eq_true]
    | true =>
      rw [b1] at fx
      cases b2 : Kn.any fun n => !decide (R x.lo < R (at' rs n).1) with
      | true =>
        rw [b2] at fx
        refine ⟨[.d (tblD rs), .d (.list (ns.map nS)), .d (.list (B.map fun r => nS r.nm)), .own ((nms (done.filter p)).map nS), .d (nS x.nm), .d (fq x.lo), .d (.list (Kn.map nS)), .no], ⟨_, _, _, by rw [neg fx]⟩, ?_⟩
        simp [-ix_dN, tx, lcM_map, c1, c2, c3, b1, b2, Function.comp_def]
      | false =>
        rw [b2] at fx
        refine ⟨[.d (tblD rs), .d (.list (ns.map nS)), .d (.list (B.map fun r => nS r.nm)), .own ((nms (done.filter p ++ [x])).map nS), .d (nS x.nm), .d (fq x.lo), .d (.list (Kn.map nS)), .no], ⟨_, _, _, by rw [pos fx]⟩, ?_⟩
        simp [-ix_dN, tx, lcM_map, c1, c2, c3, b1, b2, sz, Function.comp_def]
  · rintro ρ' ⟨a, b, c, rfl⟩
    simp [frzS]
    rfl
end Dd
/-! L22 -/
namespace Dd
open PySem PySem.Spec PyProof.Rows L2

def cm (A : List Row) (p : Row × Row) : Bool := (decide (p.1.nm ∈ nms (frn A)) && decide (R p.2.lo < R p.1.hi)) || (decide (p.2.nm ∈ nms (frn A)) && decide (R p.1.lo < R p.2.hi))

def pn2 (p : Row × Row) : Nm × Nm := (p.1.nm, p.2.nm)

def lawM (A : List Row) : List (Nm × Nm) := ((prs (unk A)).filter (cm A)).map pn2

theorem ne_min : gNe (.d (.str "min")) (.d (.str "min")) = some (dB false) := by kernel_rfl

theorem ne_sort : gNe (.d (.str "sort")) (.d (.str "min")) = some (dB true) := by kernel_rfl

theorem ne_cmp : gNe (.d (.str "compare")) (.d (.str "min")) = some (dB true) := by kernel_rfl

end Dd
/-! L23 -/
namespace Dd
open PySem PySem.Spec PyProof.Rows L2

/-! ### mirrored -/

theorem negqR (a : Fq) : PyData.tuple [.int (0 - a.p.1), .int a.p.2] = fq (negq a) := by
  rw [Int.zero_sub]
  rfl

theorem d__law_negated_eq (x : Fq × Fq) : d__law_negated [.d (prD x)] = pure (.d (prD (negq x.2, negq x.1))) := by
  simp [d__law_negated, u__law_negated, negqR]
  rfl

theorem it_tbl (rs : List Row) : keysIt (.d (tblD rs)) = some (rs.map fun r => .d (nS r.nm)) := by
  simp [keysIt, dN, ivs, Function.comp_def]

theorem asc_mirr {rs : List Row} (h : IvOk rs) : IvOk (rs.map mirr) := ⟨List.pairwise_map.mpr h.asc, by rw [List.length_map]; exact h.len⟩

theorem nms_mirr (rs : List Row) : nms (rs.map mirr) = nms rs := by
  unfold nms
  rw [List.map_map]
  rfl

theorem d__law_mirrored_eq {rs : List Row} (h : IvOk rs) : d__law_mirrored [.d (tblD rs)] = pure (.d (tblD (rs.map mirr))) := by
  haveI := h.ln
  have e := dict_n prD (ivs (rs.map mirr)) (by rw [ivs_nms]; exact asc_nodup (asc_mirr h).asc)
  simp only [d__law_mirrored, sp_defM]
  simp [u__law_mirrored, it_tbl, lcM_map, -ix_dN]
  rw [lcF_congr (B' := fun _ => pure true) (T' := fun r => pure (.d (.tuple [nS r.nm, prD (negq r.hi, negq r.lo)]))) (fun _ _ => rfl) (fun r hr => ?_), sp_lcT (n := 24) (by decide)]
  · unfold ivs at e
    rw [List.map_map, List.map_map] at e
    rw [sp_pure_bnd]
    refine (congrArg (fun m : M SD => m >>= fun a => M.lift (plain a) >>= fun y => pure y) e).trans rfl
  · have t : gIx (.d (tblD rs)) (.d (nS r.nm)) = some (.d (prD (r.lo, r.hi))) := by
      have := ix_tbl h.asc (n := r.nm) (List.mem_map_of_mem hr)
      unfold at' at this
      rwa [rowAt_self h.asc hr] at this
    rw [t]
    simp [d__law_negated_eq]

theorem ask_mirr (rs : List Row) (ns : List Nm) : ask (rs.map mirr) ns = (ask rs ns).map mirr := by
  unfold ask
  rw [List.filter_map]
  rfl

/-! ### the law's pairs are the sorted ones -/

def lex2 (p q : Nm × Nm) : Prop := p.1 < q.1 ∨ (p.1 = q.1 ∧ p.2 < q.2)

theorem lt_np (p q : Nm × Nm) : PySem.W.dataLt (npD p) (npD q) = true ↔ lex2 p q := by
  show PySem.W.dataLt (.tuple [nS p.1, nS p.2]) (.tuple [nS q.1, nS q.2]) = true ↔ _
  rw [PySem.W.dataLt_pair rfl rfl, eqv_n, eqv_n, lt_n, lt_n]
  unfold lex2
  by_cases h1 : p.1 = q.1 <;> by_cases h2 : p.2 = q.2 <;> simp [h1, h2, nm_irrefl]

theorem lex2_irrefl (p : Nm × Nm) : ¬ lex2 p p := fun h => by
  rcases h with h | ⟨_, h⟩
  · exact nm_irrefl _ h
  · exact nm_irrefl _ h

theorem lex2_asymm {p q : Nm × Nm} (h : lex2 p q) : ¬ lex2 q p := fun g => by
  rcases h with h | ⟨e, h⟩ <;> rcases g with g | ⟨e', g⟩
  · exact nm_irrefl _ (nm_trans h g)
  · rw [e'] at h
    exact nm_irrefl _ h
  · rw [e] at g
    exact nm_irrefl _ g
  · exact nm_irrefl _ (nm_trans h g)

theorem lex2_tri {p q : Nm × Nm} (h : ¬ lex2 p q) (g : ¬ lex2 q p) : p = q := by
  have e1 : p.1 = q.1 := nm_tri (fun z => h (.inl z)) (fun z => g (.inl z))
  exact Prod.ext e1 (nm_tri (fun z => h (.inr ⟨e1, z⟩)) (fun z => g (.inr ⟨e1.symm, z⟩)))

theorem prs_lex : ∀ {xs : List Row}, Asc xs → (prs xs).Pairwise fun p q => lex2 (pn2 p) (pn2 q)
  | [], _ => List.Pairwise.nil
  | x :: r, h => by
    obtain ⟨h1, h2⟩ := List.pairwise_cons.mp h
    rw [prs, List.pairwise_append]
    refine ⟨List.pairwise_map.mpr (h2.imp fun {a b} z => .inr ⟨rfl, z⟩), prs_lex h2, fun p hp q hq => ?_⟩
    obtain ⟨y, hy, rfl⟩ := List.mem_map.mp hp
    exact .inl (h1 _ (mem_prs hq).1)

theorem mem_prs_asc {x y : Row} : ∀ {xs : List Row}, Asc xs → ((x, y) ∈ prs xs ↔ x ∈ xs ∧ y ∈ xs ∧ x.nm < y.nm)
  | [], _ => by simp [prs]
  | z :: r, h => by
    obtain ⟨h1, h2⟩ := List.pairwise_cons.mp h
    rw [prs, List.mem_append, mem_prs_asc h2, List.mem_map]
    constructor
    · rintro (⟨w, hw, e⟩ | ⟨a, b, c⟩)
      · cases e
        exact ⟨List.mem_cons_self, List.mem_cons_of_mem _ hw, h1 _ hw⟩
      · exact ⟨List.mem_cons_of_mem _ a, List.mem_cons_of_mem _ b, c⟩
    · rintro ⟨a, b, c⟩
      rcases List.mem_cons.mp a with rfl | a
      · rcases List.mem_cons.mp b with rfl | b
        · exact absurd c (nm_irrefl _)
        · exact .inl ⟨y, b, rfl⟩
      · rcases List.mem_cons.mp b with rfl | b
        · exact absurd (nm_trans c (h1 _ ‹x ∈ r›)) (nm_irrefl _)
        · exact .inr ⟨a, b, c⟩

theorem asc_same {A : List Row} (h : Asc A) {a b : Row} (ha : a ∈ A) (hb : b ∈ A) (e : a.nm = b.nm) : a = b := by
  have h1 := rowAt_self h ha
  have h2 := rowAt_self h hb
  rw [← h1, ← h2, e]

theorem memN_frn {A : List Row} (h : Asc A) {x : Row} (hx : x ∈ unk A) : x.nm ∈ nms (frn A) ↔ x ∈ frn A := by
  constructor
  · intro z
    obtain ⟨y, hy, e⟩ := List.mem_map.mp z
    have hy' : y ∈ A := (List.mem_filter.mp (List.mem_filter.mp hy).1).1
    rw [asc_same h (List.mem_filter.mp hx).1 hy' e.symm]
    exact hy
  · exact fun z => List.mem_map_of_mem z

theorem mem_lawM {A : List Row} (h : Asc A) (p : Nm × Nm) : p ∈ lawM A ↔ p ∈ prsM A := by
  have hu : Asc (unk A) := List.Pairwise.filter _ h
  have lt_n : ∀ {a b : Nm}, a < b → ¬ b < a := fun z w => nm_irrefl _ (nm_trans z w)
  constructor
  · intro z
    obtain ⟨⟨x, y⟩, z1, rfl⟩ := List.mem_map.mp z
    obtain ⟨z1, z2⟩ := List.mem_filter.mp z1
    obtain ⟨hx, hy, lt⟩ := (mem_prs_asc hu).mp z1
    have ne : y.nm ≠ x.nm := fun e => nm_irrefl _ (show x.nm < x.nm by rw [e] at lt; exact lt)
    unfold cm at z2
    rw [Bool.or_eq_true, Bool.and_eq_true, Bool.and_eq_true, decide_eq_true_eq, decide_eq_true_eq, decide_eq_true_eq, decide_eq_true_eq] at z2
    rcases z2 with ⟨f, l⟩ | ⟨f, l⟩
    · refine List.mem_flatMap.mpr ⟨x, (memN_frn h hx).mp f, List.mem_map.mpr ⟨y, List.mem_filter.mpr ⟨hy, ?_⟩, ?_⟩⟩
      · simp [ne, l]
      · show npair x.nm y.nm = (x.nm, y.nm)
        unfold npair
        rw [if_neg (lt_n lt)]
    · refine List.mem_flatMap.mpr ⟨y, (memN_frn h hy).mp f, List.mem_map.mpr ⟨x, List.mem_filter.mpr ⟨hx, ?_⟩, ?_⟩⟩
      · simp [ne.symm, l]
      · show npair y.nm x.nm = (x.nm, y.nm)
        unfold npair
        rw [if_pos lt]
  · intro z
    obtain ⟨r, hr, z⟩ := List.mem_flatMap.mp z
    obtain ⟨o, ho, rfl⟩ := List.mem_map.mp z
    obtain ⟨ho, c⟩ := List.mem_filter.mp ho
    have hr' : r ∈ unk A := (List.mem_filter.mp hr).1
    have f := (memN_frn h hr').mpr hr
    have c : ¬ o.nm = r.nm ∧ R o.lo < R r.hi := by simpa using c
    unfold npair
    by_cases lt : o.nm < r.nm
    · rw [if_pos lt]
      exact List.mem_map.mpr ⟨(o, r), List.mem_filter.mpr ⟨(mem_prs_asc hu).mpr ⟨ho, hr', lt⟩, by simp [cm, f, c.2]⟩, rfl⟩
    · rw [if_neg lt]
      have lt' : r.nm < o.nm := by
        by_cases z : r.nm < o.nm
        · exact z
        · exact absurd (nm_tri lt z) c.1
      exact List.mem_map.mpr ⟨(r, o), List.mem_filter.mpr ⟨(mem_prs_asc hu).mpr ⟨hr', ho, lt'⟩, by simp [cm, f, c.2]⟩, rfl⟩

theorem lawM_pw {A : List Row} (h : Asc A) : (lawM A).Pairwise lex2 := List.pairwise_map.mpr (List.Pairwise.filter _ (prs_lex (List.Pairwise.filter _ h)))

theorem eq_lawM {A : List Row} (h : Asc A) {ps : List (Nm × Nm)} (nd : ps.Nodup) (mem : ∀ p, p ∈ ps ↔ p ∈ prsM A) (pw : ps.Pairwise fun a b => PySem.W.dataLt (npD b) (npD a) = false) : ps = lawM A := by
  have pw1 : ps.Pairwise lex2 := (List.pairwise_and_iff.mpr ⟨pw, nd⟩).imp fun {a b} ⟨z1, z2⟩ => by
    have z3 : ¬ lex2 b a := fun z => by rw [(lt_np b a).mpr z] at z1; cases z1
    exact Classical.byContradiction fun z => z2 (lex2_tri z z3)
  have pw2 := lawM_pw h
  have nd2 : (lawM A).Nodup := pw2.imp fun {a b} z e => by rw [e] at z; exact lex2_irrefl _ z
  have pm : ps.Perm (lawM A) := (List.perm_ext_iff_of_nodup nd nd2).mpr fun p => by rw [mem p, mem_lawM h p]
  exact pm.eq_of_pairwise (le := lex2) (fun a b _ _ h1 h2 => absurd h2 (lex2_asymm h1)) pw1 pw2

/-- the pairs that the law finds -/
def lawP (rs : List Row) (q : Qy) : List (Nm × Nm) := match q with
  | .above _ _ => []
  | .sort ns => prsS (ask rs ns)
  | .cmp a b => prsS (ask rs [a, b])
  | .mn ns => lawM (ask rs ns)
  | .mx ns => lawM ((ask rs ns).map mirr)

theorem WP.law {rs : List Row} (h : IvOk rs) {q : Qy} {ps : List (Nm × Nm)} (w : WP rs q ps) : ps = lawP rs q := by
  cases q with
  | above ns t => exact w
  | sort ns => exact w
  | cmp a b => exact w
  | mn ns => exact eq_lawM (List.Pairwise.filter _ h.asc) w.1 w.2.1 w.2.2
  | mx ns => exact eq_lawM (A := (ask rs ns).map mirr) (List.pairwise_map.mpr (List.Pairwise.filter _ h.asc)) w.1 w.2.1 w.2.2

end Dd
/-! L24 -/
namespace Dd
open PySem PySem.Spec PyProof.Rows L2

/-! ### the items that the law requires -/

/-- eb, lw by the other's bounds -/
def ebP (r : Row) (x : Fq × Fq) : Bool := if x.1 = x.2 then decide (R x.1 < R r.hi) else !decide (R r.hi < R x.2)

def lwP (r : Row) (x : Fq × Fq) : Bool := if x.1 = x.2 then decide (R r.lo < R x.1) && decide (R x.1 < R r.hi) else !decide (R x.1 < R r.lo) && !decide (R r.hi < R x.2)

theorem ebP_eq (o r : Row) : ebP r (o.lo, o.hi) = eb o r := by
  unfold ebP eb kn
  by_cases h : o.lo = o.hi <;> simp [h]

theorem lwP_eq (o r : Row) : lwP r (o.lo, o.hi) = lw o r := by
  unfold lwP lw kn
  by_cases h : o.lo = o.hi <;> simp [h]

theorem d__law_blocks_eq (r : Row) (x : Fq × Fq) : d__law_blocks [.d (prD (r.lo, r.hi)), .d (prD x)] = pure (dB (ebP r x)) := by
  unfold ebP
  have k := d__law_is_known_eq x
  by_cases h : x.1 = x.2 <;> simp [d__law_blocks, u__law_blocks, k, h, d__law_at_most_eq, d__law_less_eq]

theorem d__law_contains_eq (r : Row) (x : Fq × Fq) : d__law_contains [.d (prD (r.lo, r.hi)), .d (prD x)] = pure (dB (lwP r x)) := by
  unfold lwP
  have k := d__law_is_known_eq x
  by_cases h : x.1 = x.2
  · simp [d__law_contains, u__law_contains, k, h, d__law_inside_eq]
  · by_cases h2 : R x.1 < R r.lo <;> simp [d__law_contains, u__law_contains, k, h, d__law_at_most_eq, h2]

theorem oth_any {rs : List Row} (h : IvOk rs) {ns : List Nm} (inn : ∀ n ∈ ns, n ∈ nms rs) (x : Row) {f : Row → Fq × Fq → Bool} {g : Row → Row → Bool} (fg : ∀ o, f x (o.lo, o.hi) = g o x) : ((ns.filter fun n => !decide (n = x.nm)).any fun n => f x (at' rs n)) = ((ask rs ns).filter fun o => !decide (o.nm = x.nm)).any fun o => g o x := by
  rw [Bool.eq_iff_iff, List.any_eq_true, List.any_eq_true]
  constructor
  · rintro ⟨n, h1, h2⟩
    obtain ⟨h1, h3⟩ := List.mem_filter.mp h1
    obtain ⟨g1, g2⟩ := rowAt_mem (inn n h1)
    refine ⟨rowAt rs n, List.mem_filter.mpr ⟨List.mem_filter.mpr ⟨g1, by rw [g2]; simpa using h1⟩, by rw [g2]; exact h3⟩, ?_⟩
    rw [← fg]
    exact h2
  · rintro ⟨o, h1, h2⟩
    obtain ⟨h1, h3⟩ := List.mem_filter.mp h1
    have t := at_ask h.asc h1
    have m : o.nm ∈ ns := by simpa using (List.mem_filter.mp h1).2
    exact ⟨o.nm, List.mem_filter.mpr ⟨m, h3⟩, by rw [t, fg]; exact h2⟩

theorem lcF_mapL {α β : Type} (g : α → β) (B : β → M Bool) (T : β → M SD) : ∀ (l : List α) (acc : List PyData), lcF B T (l.map g) acc = lcF (fun x => B (g x)) (fun x => T (g x)) l acc
  | [], _ => rfl
  | x :: r, acc => by simp only [List.map_cons, lcF, lcF_mapL g B T r]

theorem law_req_mn0 {rs : List Row} (h : IvOk rs) {ns : List Nm} (ok : (Qy.mn ns).Ok (nms rs)) : d__law_required_r0 [.d (tblD rs), .d (qD (.mn ns))] = pure (.d (.list ((nms (reqM (ask rs ns))).map nS))) := by
  haveI := h.ln
  have nd : ns.Nodup := ok.nd
  have inn : ∀ n ∈ ns, n ∈ nms rs := ok.inn
  have len : ns.length ≤ 24 := ok.len
  haveI : Ln 24 ns := ⟨len⟩
  have u := d__law_unknown_eq h nd inn len
  have f := d__law_frontier_eq h nd inn len
  have tb : ∀ o ∈ frn (ask rs ns), gIx (.d (tblD rs)) (.d (nS o.nm)) = some (.d (prD (o.lo, o.hi))) := fun o ho => tbl_ask h.asc (List.mem_filter.mp (List.mem_filter.mp ho).1).1
  have tn : ∀ n ∈ ns, gIx (.d (tblD rs)) (.d (nS n)) = some (.d (prD (at' rs n))) := fun n hn => ix_tbl h.asc (inn n hn)
  have lnB : Ln 24 (frn (ask rs ns)) := inferInstance
  unfold reqM
  generalize hc : (fun r : Row => ((ask rs ns).filter fun o => !decide (o.nm = r.nm)).any fun o => eb o r) = c
  have hc : ∀ x, c x = ((ns.filter fun n => !decide (n = x.nm)).any fun n => ebP x (at' rs n)) := fun x => by rw [← hc, oth_any h inn x (g := eb) fun o => ebP_eq o x]
  generalize unk (ask rs ns) = B at *
  generalize frn (ask rs ns) = F at *
  simp only [d__law_required_r0, sp_defM]
  simp [u__law_required_r0, d__law_items_eq]
  simp [qD, Qy.ns, u, f, Function.comp_def]
  refine for_exS (fun r : Row => .d (nS r.nm)) (fun done ρ => ∃ a b c1, ρ = [.d (tblD rs), .d (.tuple [.str "min", .tuple (ns.map nS)]), .d (.list (ns.map nS)), .d (.list (B.map fun r => nS r.nm)), .own ((nms (done.filter c)).map nS), a, b, c1]) F ⟨_, _, _, rfl⟩ ?_ ?_
  · rintro done x rest ρ hd ⟨a1, b1, c1, rfl⟩
    have hm : x ∈ F := by rw [← hd]; simp
    have tx := tb x hm
    have cx := hc x
    refine ⟨[.d (tblD rs), .d (.tuple [.str "min", .tuple (ns.map nS)]), .d (.list (ns.map nS)), .d (.list (B.map fun r => nS r.nm)), .own ((nms ((done ++ [x]).filter c)).map nS), .d (nS x.nm), .d (.list ((ns.filter fun n => !decide (n = x.nm)).map fun n => prD (at' rs n))), c1], ⟨_, _, _, rfl⟩, ?_⟩
    have sz : szOk ((done.filter c).length + 1) = true := decide_eq_true (by
      have h1 := List.length_filter_le c done
      have h2 := congrArg List.length hd
      rw [List.length_append] at h2
      have := lnB.le
      omega)
    have o1 : lcF (fun n : Nm => pure (!decide (n = x.nm))) (fun n : Nm => M.lift (gIx (.d (tblD rs)) (.d (nS n)))) ns [] = pure ((ns.filter fun n => !decide (n = x.nm)).map fun n => prD (at' rs n)) := by
      rw [lcF_congr (B' := fun n => pure (!decide (n = x.nm))) (T' := fun n => pure (.d (prD (at' rs n)))) (fun _ _ => rfl) (fun n hn => by rw [tn n hn]; rfl), sp_lcF (n := 24) (by decide)]
    haveI lnO : Ln 24 (ns.filter fun n => !decide (n = x.nm)) := inferInstance
    have o2 : lcF (fun _ : PyData => (pure true : M Bool)) (fun d : PyData => M.calm (M.calm (d__law_blocks [.d (prD (x.lo, x.hi)), .d d]))) ((ns.filter fun n => !decide (n = x.nm)).map fun n => prD (at' rs n)) [] = pure ((ns.filter fun n => !decide (n = x.nm)).map fun n => .bool (ebP x (at' rs n))) := by
      rw [lcF_mapL, lcF_congr (B' := fun _ => pure true) (T' := fun n => pure (.d (.bool (ebP x (at' rs n))))) (fun _ _ => rfl) (fun n _ => by rw [d__law_blocks_eq]; rfl), sp_lcT (n := 24) (by decide)]
    generalize (ns.filter fun n => !decide (n = x.nm)) = O at *
    cases hx : c x with
    | true =>
      rw [hx] at cx
      simp [-ix_dN, tx, lcM_map, ne_min, Function.comp_def, o1, o2, ← cx, hx, sz, -List.any_eq_true]
    | false =>
      rw [hx] at cx
      simp [-ix_dN, tx, lcM_map, ne_min, Function.comp_def, o1, o2, ← cx, hx, sz, -List.any_eq_true, -List.any_eq_false]
  · rintro ρ' ⟨a, b, c1, rfl⟩
    simp [frzS]
    rfl
theorem law_req_mn {rs : List Row} (h : IvOk rs) {ns : List Nm} (ok : (Qy.mn ns).Ok (nms rs)) : d__law_required [.d (tblD rs), .d (qD (.mn ns))] = pure (.d (.list ((nms (reqM (ask rs ns))).map nS))) := by
  haveI := h.ln
  have nd : ns.Nodup := ok.nd
  have inn : ∀ n ∈ ns, n ∈ nms rs := ok.inn
  have len : ns.length ≤ 24 := ok.len
  haveI : Ln 24 ns := ⟨len⟩
  have u := d__law_unknown_eq h nd inn len
  have f := d__law_frontier_eq h nd inn len
  have tb : ∀ o ∈ frn (ask rs ns), gIx (.d (tblD rs)) (.d (nS o.nm)) = some (.d (prD (o.lo, o.hi))) := fun o ho => tbl_ask h.asc (List.mem_filter.mp (List.mem_filter.mp ho).1).1
  have tn : ∀ n ∈ ns, gIx (.d (tblD rs)) (.d (nS n)) = some (.d (prD (at' rs n))) := fun n hn => ix_tbl h.asc (inn n hn)
  have lnB : Ln 24 (frn (ask rs ns)) := inferInstance
  unfold reqM
  generalize hc : (fun r : Row => ((ask rs ns).filter fun o => !decide (o.nm = r.nm)).any fun o => eb o r) = c
  have hc : ∀ x, c x = ((ns.filter fun n => !decide (n = x.nm)).any fun n => ebP x (at' rs n)) := fun x => by rw [← hc, oth_any h inn x (g := eb) fun o => ebP_eq o x]
  generalize unk (ask rs ns) = B at *
  generalize frn (ask rs ns) = F at *
  simp only [d__law_required, sp_defM]
  simp [u__law_required, d__law_items_eq]
  simp [qD, Qy.ns, u, f, Function.comp_def]
  refine for_exS (fun r : Row => .d (nS r.nm)) (fun done ρ => ∃ a b c1, ρ = [.d (tblD rs), .d (.tuple [.str "min", .tuple (ns.map nS)]), .d (.list (ns.map nS)), .d (.list (B.map fun r => nS r.nm)), .own ((nms (done.filter c)).map nS), a, b, c1]) F ⟨_, _, _, rfl⟩ ?_ ?_
  · rintro done x rest ρ hd ⟨a1, b1, c1, rfl⟩
    have hm : x ∈ F := by rw [← hd]; simp
    have tx := tb x hm
    have cx := hc x
    refine ⟨[.d (tblD rs), .d (.tuple [.str "min", .tuple (ns.map nS)]), .d (.list (ns.map nS)), .d (.list (B.map fun r => nS r.nm)), .own ((nms ((done ++ [x]).filter c)).map nS), .d (nS x.nm), .d (.list ((ns.filter fun n => !decide (n = x.nm)).map fun n => prD (at' rs n))), c1], ⟨_, _, _, rfl⟩, ?_⟩
    have sz : szOk ((done.filter c).length + 1) = true := decide_eq_true (by
      have h1 := List.length_filter_le c done
      have h2 := congrArg List.length hd
      rw [List.length_append] at h2
      have := lnB.le
      omega)
    have o1 : lcF (fun n : Nm => pure (!decide (n = x.nm))) (fun n : Nm => M.lift (gIx (.d (tblD rs)) (.d (nS n)))) ns [] = pure ((ns.filter fun n => !decide (n = x.nm)).map fun n => prD (at' rs n)) := by
      rw [lcF_congr (B' := fun n => pure (!decide (n = x.nm))) (T' := fun n => pure (.d (prD (at' rs n)))) (fun _ _ => rfl) (fun n hn => by rw [tn n hn]; rfl), sp_lcF (n := 24) (by decide)]
    haveI lnO : Ln 24 (ns.filter fun n => !decide (n = x.nm)) := inferInstance
    have o2 : lcF (fun _ : PyData => (pure true : M Bool)) (fun d : PyData => M.calm (M.calm (d__law_blocks [.d (prD (x.lo, x.hi)), .d d]))) ((ns.filter fun n => !decide (n = x.nm)).map fun n => prD (at' rs n)) [] = pure ((ns.filter fun n => !decide (n = x.nm)).map fun n => .bool (ebP x (at' rs n))) := by
      rw [lcF_mapL, lcF_congr (B' := fun _ => pure true) (T' := fun n => pure (.d (.bool (ebP x (at' rs n))))) (fun _ _ => rfl) (fun n _ => by rw [d__law_blocks_eq]; rfl), sp_lcT (n := 24) (by decide)]
    generalize (ns.filter fun n => !decide (n = x.nm)) = O at *
    cases hx : c x with
    | true =>
      rw [hx] at cx
      simp [-ix_dN, tx, lcM_map, ne_min, Function.comp_def, o1, o2, ← cx, hx, sz, -List.any_eq_true]
    | false =>
      rw [hx] at cx
      simp [-ix_dN, tx, lcM_map, ne_min, Function.comp_def, o1, o2, ← cx, hx, sz, -List.any_eq_true, -List.any_eq_false]
  · rintro ρ' ⟨a, b, c1, rfl⟩
    simp [frzS]
    rfl

theorem law_req_sort {rs : List Row} (h : IvOk rs) {ns : List Nm} (ok : (Qy.sort ns).Ok (nms rs)) : d__law_required [.d (tblD rs), .d (qD (.sort ns))] = pure (.d (.list ((nms (reqS (ask rs ns))).map nS))) := by
  haveI := h.ln
  have nd : ns.Nodup := ok.nd
  have inn : ∀ n ∈ ns, n ∈ nms rs := ok.inn
  have len : ns.length ≤ 24 := ok.len
  haveI : Ln 24 ns := ⟨len⟩
  have u := d__law_unknown_eq h nd inn len
  have tb : ∀ o ∈ unk (ask rs ns), gIx (.d (tblD rs)) (.d (nS o.nm)) = some (.d (prD (o.lo, o.hi))) := fun o ho => tbl_ask h.asc (List.mem_filter.mp ho).1
  have tn : ∀ n ∈ ns, gIx (.d (tblD rs)) (.d (nS n)) = some (.d (prD (at' rs n))) := fun n hn => ix_tbl h.asc (inn n hn)
  have lnB : Ln 24 (unk (ask rs ns)) := inferInstance
  unfold reqS
  generalize hc : (fun r : Row => ((ask rs ns).filter fun o => !decide (o.nm = r.nm)).any fun o => lw o r) = c
  have hc : ∀ x, c x = ((ns.filter fun n => !decide (n = x.nm)).any fun n => lwP x (at' rs n)) := fun x => by rw [← hc, oth_any h inn x (g := lw) fun o => lwP_eq o x]
  generalize unk (ask rs ns) = F at *
  simp only [d__law_required, sp_defM]
  simp [u__law_required, d__law_items_eq]
  simp [qD, Qy.ns, u, Function.comp_def]
  refine for_exS (fun r : Row => .d (nS r.nm)) (fun done ρ => ∃ a b c1, ρ = [.d (tblD rs), .d (.tuple [.str "sort", .tuple (ns.map nS)]), .d (.list (ns.map nS)), .d (.list (F.map fun r => nS r.nm)), .own ((nms (done.filter c)).map nS), a, b, c1]) F ⟨_, _, _, rfl⟩ ?_ ?_
  · rintro done x rest ρ hd ⟨a1, b1, c1, rfl⟩
    have hm : x ∈ F := by rw [← hd]; simp
    have tx := tb x hm
    have cx := hc x
    refine ⟨[.d (tblD rs), .d (.tuple [.str "sort", .tuple (ns.map nS)]), .d (.list (ns.map nS)), .d (.list (F.map fun r => nS r.nm)), .own ((nms ((done ++ [x]).filter c)).map nS), .d (nS x.nm), .d (.list ((ns.filter fun n => !decide (n = x.nm)).map fun n => prD (at' rs n))), c1], ⟨_, _, _, rfl⟩, ?_⟩
    have sz : szOk ((done.filter c).length + 1) = true := decide_eq_true (by
      have h1 := List.length_filter_le c done
      have h2 := congrArg List.length hd
      rw [List.length_append] at h2
      have := lnB.le
      omega)
    have o1 : lcF (fun n : Nm => pure (!decide (n = x.nm))) (fun n : Nm => M.lift (gIx (.d (tblD rs)) (.d (nS n)))) ns [] = pure ((ns.filter fun n => !decide (n = x.nm)).map fun n => prD (at' rs n)) := by
      rw [lcF_congr (B' := fun n => pure (!decide (n = x.nm))) (T' := fun n => pure (.d (prD (at' rs n)))) (fun _ _ => rfl) (fun n hn => by rw [tn n hn]; rfl), sp_lcF (n := 24) (by decide)]
    haveI lnO : Ln 24 (ns.filter fun n => !decide (n = x.nm)) := inferInstance
    have o2 : lcF (fun _ : PyData => (pure true : M Bool)) (fun d : PyData => M.calm (M.calm (d__law_contains [.d (prD (x.lo, x.hi)), .d d]))) ((ns.filter fun n => !decide (n = x.nm)).map fun n => prD (at' rs n)) [] = pure ((ns.filter fun n => !decide (n = x.nm)).map fun n => .bool (lwP x (at' rs n))) := by
      rw [lcF_mapL, lcF_congr (B' := fun _ => pure true) (T' := fun n => pure (.d (.bool (lwP x (at' rs n))))) (fun _ _ => rfl) (fun n _ => by rw [d__law_contains_eq]; rfl), sp_lcT (n := 24) (by decide)]
    generalize (ns.filter fun n => !decide (n = x.nm)) = O at *
    cases hx : c x with
    | true =>
      rw [hx] at cx
      simp [-ix_dN, tx, lcM_map, ne_sort, Function.comp_def, o1, o2, ← cx, hx, sz, -List.any_eq_true]
    | false =>
      rw [hx] at cx
      simp [-ix_dN, tx, lcM_map, ne_sort, Function.comp_def, o1, o2, ← cx, hx, sz, -List.any_eq_true, -List.any_eq_false]
  · rintro ρ' ⟨a, b, c1, rfl⟩
    simp [frzS]
    rfl

theorem law_req_cmp {rs : List Row} (h : IvOk rs) {n1 n2 : Nm} (ok : (Qy.cmp n1 n2).Ok (nms rs)) : d__law_required [.d (tblD rs), .d (qD (.cmp n1 n2))] = pure (.d (.list ((nms (reqS (ask rs [n1, n2]))).map nS))) := by
  haveI := h.ln
  show _ = pure (SD.d (PyData.list ((nms (reqS (ask rs (Qy.cmp n1 n2).ns))).map nS)))
  have it := d__law_items_eq (Qy.cmp n1 n2)
  have nd : (Qy.cmp n1 n2).ns.Nodup := ok.nd
  have inn : ∀ n ∈ (Qy.cmp n1 n2).ns, n ∈ nms rs := ok.inn
  have len : (Qy.cmp n1 n2).ns.length ≤ 24 := ok.len
  generalize (Qy.cmp n1 n2).ns = ns at *
  haveI : Ln 24 ns := ⟨len⟩
  have u := d__law_unknown_eq h nd inn len
  have tb : ∀ o ∈ unk (ask rs ns), gIx (.d (tblD rs)) (.d (nS o.nm)) = some (.d (prD (o.lo, o.hi))) := fun o ho => tbl_ask h.asc (List.mem_filter.mp ho).1
  have tn : ∀ n ∈ ns, gIx (.d (tblD rs)) (.d (nS n)) = some (.d (prD (at' rs n))) := fun n hn => ix_tbl h.asc (inn n hn)
  have lnB : Ln 24 (unk (ask rs ns)) := inferInstance
  unfold reqS
  generalize hc : (fun r : Row => ((ask rs ns).filter fun o => !decide (o.nm = r.nm)).any fun o => lw o r) = c
  have hc : ∀ x, c x = ((ns.filter fun n => !decide (n = x.nm)).any fun n => lwP x (at' rs n)) := fun x => by rw [← hc, oth_any h inn x (g := lw) fun o => lwP_eq o x]
  generalize unk (ask rs ns) = F at *
  simp only [d__law_required, sp_defM]
  simp [u__law_required, it]
  simp [qD, u, Function.comp_def]
  refine for_exS (fun r : Row => .d (nS r.nm)) (fun done ρ => ∃ a b c1, ρ = [.d (tblD rs), .d (.tuple [.str "compare", .str n1.s, .str n2.s]), .d (.list (ns.map nS)), .d (.list (F.map fun r => nS r.nm)), .own ((nms (done.filter c)).map nS), a, b, c1]) F ⟨_, _, _, rfl⟩ ?_ ?_
  · rintro done x rest ρ hd ⟨a1, b1, c1, rfl⟩
    have hm : x ∈ F := by rw [← hd]; simp
    have tx := tb x hm
    have cx := hc x
    refine ⟨[.d (tblD rs), .d (.tuple [.str "compare", .str n1.s, .str n2.s]), .d (.list (ns.map nS)), .d (.list (F.map fun r => nS r.nm)), .own ((nms ((done ++ [x]).filter c)).map nS), .d (nS x.nm), .d (.list ((ns.filter fun n => !decide (n = x.nm)).map fun n => prD (at' rs n))), c1], ⟨_, _, _, rfl⟩, ?_⟩
    have sz : szOk ((done.filter c).length + 1) = true := decide_eq_true (by
      have h1 := List.length_filter_le c done
      have h2 := congrArg List.length hd
      rw [List.length_append] at h2
      have := lnB.le
      omega)
    have o1 : lcF (fun n : Nm => pure (!decide (n = x.nm))) (fun n : Nm => M.lift (gIx (.d (tblD rs)) (.d (nS n)))) ns [] = pure ((ns.filter fun n => !decide (n = x.nm)).map fun n => prD (at' rs n)) := by
      rw [lcF_congr (B' := fun n => pure (!decide (n = x.nm))) (T' := fun n => pure (.d (prD (at' rs n)))) (fun _ _ => rfl) (fun n hn => by rw [tn n hn]; rfl), sp_lcF (n := 24) (by decide)]
    haveI lnO : Ln 24 (ns.filter fun n => !decide (n = x.nm)) := inferInstance
    have o2 : lcF (fun _ : PyData => (pure true : M Bool)) (fun d : PyData => M.calm (M.calm (d__law_contains [.d (prD (x.lo, x.hi)), .d d]))) ((ns.filter fun n => !decide (n = x.nm)).map fun n => prD (at' rs n)) [] = pure ((ns.filter fun n => !decide (n = x.nm)).map fun n => .bool (lwP x (at' rs n))) := by
      rw [lcF_mapL, lcF_congr (B' := fun _ => pure true) (T' := fun n => pure (.d (.bool (lwP x (at' rs n))))) (fun _ _ => rfl) (fun n _ => by rw [d__law_contains_eq]; rfl), sp_lcT (n := 24) (by decide)]
    generalize (ns.filter fun n => !decide (n = x.nm)) = O at *
    cases hx : c x with
    | true =>
      rw [hx] at cx
      simp [-ix_dN, tx, lcM_map, ne_cmp, Function.comp_def, o1, o2, ← cx, hx, sz, -List.any_eq_true]
    | false =>
      rw [hx] at cx
      simp [-ix_dN, tx, lcM_map, ne_cmp, Function.comp_def, o1, o2, ← cx, hx, sz, -List.any_eq_true, -List.any_eq_false]
  · rintro ρ' ⟨a, b, c1, rfl⟩
    simp [frzS]
    rfl

theorem abv_unk (A : List Row) (t : Fq) : A.filter (fun r => decide (R r.lo < R t) && decide (R t < R r.hi)) = (unk A).filter fun r => decide (R r.lo < R t) && decide (R t < R r.hi) := by
  rw [List.filter_filter]
  refine List.filter_congr fun r _ => ?_
  cases k : kn r with
  | false => simp
  | true =>
    have := kn_R.mp k
    simp
    intro z
    grind

theorem law_req_above {rs : List Row} (h : IvOk rs) {ns : List Nm} {t : Fq} (ok : (Qy.above ns t).Ok (nms rs)) : d__law_required [.d (tblD rs), .d (qD (.above ns t))] = pure (.d (.list ((nms ((ask rs ns).filter fun r => decide (R r.lo < R t) && decide (R t < R r.hi))).map nS))) := by
  haveI := h.ln
  have u := d__law_unknown_eq h (ns := ns) ok.nd ok.inn ok.len
  have tb : ∀ o ∈ unk (ask rs ns), gIx (.d (tblD rs)) (.d (nS o.nm)) = some (.d (prD (o.lo, o.hi))) := fun o ho => tbl_ask h.asc (List.mem_filter.mp ho).1
  have e := abv_unk (ask rs ns) t
  have lnB : Ln 24 (unk (ask rs ns)) := inferInstance
  rw [e]
  generalize unk (ask rs ns) = B at *
  simp only [d__law_required, sp_defM]
  simp [u__law_required, d__law_items_eq]
  simp [qD, Qy.ns, u, lcM_map, frzS, Function.comp_def, -ix_dN]
  rw [lcF_congr (B' := fun r : Row => pure (decide (R r.lo < R t) && decide (R t < R r.hi))) (T' := fun r : Row => pure (.d (nS r.nm))) (fun r hr => ?_) (fun _ _ => rfl), sp_lcF (n := 24) (by decide)]
  · rfl
  · rw [tb r hr]
    simp [d__law_inside_eq]

theorem law_req_mx {rs : List Row} (h : IvOk rs) {ns : List Nm} (ok : (Qy.mx ns).Ok (nms rs)) : d__law_required [.d (tblD rs), .d (qD (.mx ns))] = pure (.d (.list ((nms (reqM ((ask rs ns).map mirr))).map nS))) := by
  have u := d__law_unknown_eq h (ns := ns) ok.nd ok.inn ok.len
  have m := law_req_mn0 (asc_mirr h) (ns := ns) (by rw [nms_mirr]; exact ⟨ok.ne, ok.nd, ok.inn, ok.len⟩)
  rw [ask_mirr] at m
  have m : d__law_required_r0 [.d (tblD (rs.map mirr)), .d (.tuple [.str "min", .tuple (ns.map nS)])] = _ := m
  simp only [d__law_required, sp_defM]
  simp [u__law_required, d__law_items_eq]
  simp [qD, Qy.ns, u, frzS, d__law_mirrored_eq h, m]

theorem law_req_eq {rs : List Row} (h : IvOk rs) {q : Qy} (ok : q.Ok (nms rs)) : d__law_required [.d (tblD rs), .d (qD q)] = pure (.d (.list ((reqN rs q).map nS))) := by
  cases q with
  | above ns t => exact law_req_above h ok
  | sort ns => exact law_req_sort h ok
  | cmp a b => exact law_req_cmp h ok
  | mn ns => exact law_req_mn h ok
  | mx ns => exact law_req_mx h ok

end Dd
/-! K12 -/
namespace Dd
open PySem PySem.Spec PyProof.Rows L2

theorem same_nms {l : List Nm} (hl : l.length ≤ 1000) : sameM 3 [.d (.list (l.map nS)), .d (.list (l.map nS))] = pure (dB true) := by
  have ly := lay_map (enc := nS) (d := 0) lay_n l
  refine same_eq ⟨by rw [List.length_map]; exact hl, fun x hx => ?_⟩ ly.1
  obtain ⟨n, _, rfl⟩ := List.mem_map.mp hx
  rfl

theorem noLA_map {α : Type} {enc : α → PyData} (h : ∀ a, noL (enc a) = true) : ∀ l : List α, noLA (l.map enc) = true
  | [] => rfl
  | a :: r => by
    rw [List.map_cons, noLA, h a, noLA_map h r]
    rfl

theorem noL_fq (a : Fq) : noL (fq a) = true := by
  show noL (.tuple [.int a.p.1, .int a.p.2]) = true
  simp [noL, noLA]

theorem noL_rw (r : Row) : noL (rw' r) = true := by
  simp [rw', noL, noLA, noL_fq]

theorem noL_q (q : Qy) : argS (.d (qD q)) = true := by
  cases q <;> simp [qD, argS, noL, noLA, noL_fq, noLA_map (enc := nS) fun a => show noL (.str a.s) = true by simp [noL]]

theorem arg_rows {rs : List Row} (ne : rs ≠ []) : argS (.d (.list (rs.map rw'))) = true := by
  obtain ⟨r, t, rfl⟩ := List.exists_cons_of_ne_nil ne
  have h2 := noLA_map noL_rw t
  rw [List.map_cons, show rw' r = .tuple [nS r.nm, fq r.lo, fq r.hi] from rfl]
  show (noLA [nS r.nm, fq r.lo, fq r.hi] && noLA (t.map rw')) = true
  rw [h2]
  simp [noLA, noL_fq, noL]

theorem texts_nms (l : List Nm) : textsL (.d (.list (l.map nS))) = some (l.map nS) := by
  show (if ((l.map nS).all isTx) = true then some (l.map nS) else none) = _
  rw [if_pos]
  rw [List.all_eq_true]
  intro x hx
  obtain ⟨n, _, rfl⟩ := List.mem_map.mp hx
  rfl

theorem reqN_le {rs : List Row} (h : IvOk rs) (q : Qy) : (reqN rs q).length ≤ 24 := by
  haveI := h.ln
  cases q <;> simp only [reqN, nms, List.length_map]
  all_goals exact (inferInstance : Ln 24 _).le

theorem sub_req {rs : List Row} {q : Qy} {n : Nm} (h : n ∈ reqN rs q) : n ∈ nms rs := by
  have hM : ∀ {A : List Row}, n ∈ nms (reqM A) → n ∈ nms A := fun {A} z => by
    obtain ⟨r, hr, e⟩ := List.mem_map.mp z
    exact List.mem_map.mpr ⟨r, (List.mem_filter.mp (List.mem_filter.mp (List.mem_filter.mp hr).1).1).1, e⟩
  have hS : ∀ {A : List Row}, n ∈ nms (reqS A) → n ∈ nms A := fun {A} z => by
    obtain ⟨r, hr, e⟩ := List.mem_map.mp z
    exact List.mem_map.mpr ⟨r, (List.mem_filter.mp (List.mem_filter.mp hr).1).1, e⟩
  have hA : ∀ {q : Qy}, n ∈ nms (asked rs q) → n ∈ nms rs := fun {q} z => by
    obtain ⟨r, hr, e⟩ := List.mem_map.mp z
    exact List.mem_map.mpr ⟨r, (List.mem_filter.mp hr).1, e⟩
  cases q with
  | above ns t =>
    obtain ⟨r, hr, e⟩ := List.mem_map.mp h
    exact hA (List.mem_map.mpr ⟨r, (List.mem_filter.mp hr).1, e⟩)
  | sort ns => exact hA (hS h)
  | cmp a b => exact hA (hS h)
  | mn ns => exact hA (hM h)
  | mx ns =>
    have := hM h
    rw [show nms (qrows rs (.mx ns)) = nms (asked rs (.mx ns)) from nms_mirr _] at this
    exact hA this

def zzz : Nm := ⟨"zzz", by decide +kernel⟩

theorem zzz_no : zzz ∉ nm7 := by
  unfold nm7 zzz
  decide +kernel

theorem law_run : (u_law (.no :: .src :: List.replicate 5 .no)).run (fun o => o = .rt (dB true)) (fun _ => False) := by
  show (u_law [.no, .src, .no, .no, .no, .no, .no]).run _ _
  unfold u_law
  refine seq_runX ?_
  simp only [sp_pure_bnd, sp_asI, sp_lift_some, big_of (show (0 : Int) ≤ 5 by decide) (by decide), sp_when_true, rangeD]
  refine for_runX (fun i : Nat => dI (0 + (i : Int))) (fun _ ρ => ∃ a b c d e, ρ = [.no, .src, a, b, c, d, e]) (List.range 5) ⟨_, _, _, _, _, rfl⟩ (fun ρ hi => ?_) fun done x rest ρ _ hi => ?_
  · obtain ⟨a, b, c, d, e, rfl⟩ := hi
    rfl
  · obtain ⟨a, b, c, d, e, rfl⟩ := hi
    simp
    refine intervals_run (by decide) (by decide) (by decide) (by decide) fun rs g => ?_
    simp
    refine query_run g.iv g.ne g.gf fun q hq => ?_
    have ri := d_required_items_eq g.iv hq.ok
    have lr := law_req_eq g.iv hq.ok
    have le := reqN_le g.iv q
    have sm := same_nms (l := reqN rs q) (by omega)
    have kp : ∀ a b c d e, keepS [3, 4] [a, b, c, .d (.list (rs.map rw')), .d (qD q), d, e] = some [.no, .no, .no, .d (.list (rs.map rw')), .d (qD q), .no, .no] := fun a b c d e => by
      simp [keepS, arg_rows g.ne, noL_q, maskS]
    simp [kp, ri, lr, texts_nms, sm, d__law_by_name_eq g.iv]
    have zz : zzz ∉ reqN rs q := fun z => by
      obtain ⟨r, hr, e⟩ := List.mem_map.mp (sub_req z)
      have := g.inn r hr
      rw [e] at this
      exact zzz_no this
    have zi : gIn (.d (.str (Str.ofString "zzz"))) (.d (.list ((reqN rs q).map nS))) = some (dB false) := by
      have := inN zzz (reqN rs q)
      rw [decide_eq_false zz] at this
      exact this
    have cs : callM 2 (sameM 3) [.own ((reqN rs q).map nS), .d (.list ((reqN rs q).map nS))] = guardM (pure (dB true)) := by
      show guardM (sameM 3 [.d (.list ((reqN rs q).map nS)), .d (.list ((reqN rs q).map nS))]) = _
      rw [sm]
    have sz : szOk ((reqN rs q).length + 1) = true := decide_eq_true (by omega)
    rw [cs]
    refine guard_run ⟨rfl, ?_⟩
    simp [sz, ri, zi]
    exact ⟨_, _, _, _, _, rfl⟩

end Dd
/-! GErr -/
namespace Dd
open PySem PySem.Spec PyProof.Rows L2
section
variable {P : Program} {w : World} {K : PySem.W.Frag} {mg : Str → Option Value} {base : Heap}
abbrev s_QueryError : Stmt := inClass (Dw.topS 1) 0
theorem sc_QueryError : FnScope ["self", "message", "code"] ["self", "message", "code"] (defScope s_QueryError) := ⟨rfl, rfl, rfl, by decide +kernel, rfl, by decide +kernel, by decide +kernel⟩
theorem ok_QueryError {f : Addr} {fd : FuncData} {k : Nat} (F : FunD K "__init__" "QueryError.__init__" (defArgs s_QueryError) (defBody s_QueryError) (defScope s_QueryError) [.str "", .str ""] [] f fd) (mV : mg "ValueError" = none) (vV : PySem.W.findCls K (.type "ValueError") (.type "type") "__init__" = some (.val (.builtin "ValueError.__init__"))) :
    FnOk P w K mg base CX0 (k + 1) f fd ["self", "message", "code"] (spQE K) := by
  refine F.ok sc_QueryError (fun vs H Q E h => ?_) (fun cdv A outer s H vs Q E hr h => ?_)
  · obtain ⟨a, C, m, c, rfl, _⟩ := h
    rfl
  · obtain ⟨a, C, m, c, rfl, oe, nf, ha, q⟩ := h
    refine ⟨_, pss_cons (ps_expr (pe_veinit (by rfl) mV vV (pa_cons (pv 0) (pa_cons (pv 1) pa_nil)))) (pss_one (ps_ost (pv 0) (pv 2))), ?_⟩
    refine ⟨_, rfl, _, rfl, a, C, [m], rfl, Nat.le_of_ble_eq_true rfl, oe, ha, ?_⟩
    exact ⟨_, rfl, _, rfl, a, C, rfl, oe, nf, .inl ⟨ha, fun dx h1 h2 => q dx h1 h2⟩⟩
abbrev s_InvalidFraction : Stmt := inClass (Dw.topS 2) 0
theorem sc_InvalidFraction : FnScope ["self", "message"] ["self", "message"] (defScope s_InvalidFraction) := ⟨rfl, rfl, rfl, by decide +kernel, rfl, by decide +kernel, by decide +kernel⟩
theorem ok_InvalidFraction {f fQ CQ C : Addr} {fd fdQ : FuncData} {k : Nat} {mc : Value} (F : FunD K "__init__" "InvalidFraction.__init__" (defArgs s_InvalidFraction) (defBody s_InvalidFraction) (defScope s_InvalidFraction) [.str "not a reduced fraction"] [] f fd) (GQ : FnOk P w K mg base CX0 (k + 1) fQ fdQ ["self", "message", "code"] (spQE K)) (gQ : mg "QueryError" = some (.ref CQ)) (rdQ : ClX.CRead K CQ mc) (fnd : PySem.W.findCls K (.ref CQ) mc "__init__" = some (.val (.ref fQ))) (kp : PySem.W.keepIn K (.ref fQ) = true) (bQ : L2.Binds K fdQ ["self", "message", "code"] []) (oe : OexC K C) (nc : PySem.W.findIn K (.ref C) "code" = some none) : FnOk P w K mg base CX0 (k + 2) f fd ["self", "message"] (spErr C ⟨"fraction", none, false⟩) := by
  refine F.ok sc_InvalidFraction (fun vs H Q E h => ?_) (fun cdv A outer s H vs Q E hr h => ?_)
  · obtain ⟨a, x, rfl, _⟩ := h
    rfl
  · obtain ⟨a, x, rfl, ha, av, q⟩ := h
    refine ⟨_, pss_one (ps_expr (Dw.pe_clsfn GQ hr (by rfl) gQ rdQ fnd kp bQ .nil pass0 (pa_cons (pv 0) (pa_cons (pv 1) (pa_cons pe_str pa_nil))))), ?_⟩
    exact ⟨_, rfl, _, rfl, a, C, x, _, rfl, oe, nc, ha, fun dx h1 h2 => q H dx (fun _ _ h => h) h1 h2⟩
abbrev s_InvalidIntervals : Stmt := inClass (Dw.topS 3) 0
theorem sc_InvalidIntervals : FnScope ["self", "message"] ["self", "message"] (defScope s_InvalidIntervals) := ⟨rfl, rfl, rfl, by decide +kernel, rfl, by decide +kernel, by decide +kernel⟩
theorem ok_InvalidIntervals {f fQ CQ C : Addr} {fd fdQ : FuncData} {k : Nat} {mc : Value} (F : FunD K "__init__" "InvalidIntervals.__init__" (defArgs s_InvalidIntervals) (defBody s_InvalidIntervals) (defScope s_InvalidIntervals) [.str "not an interval list"] [] f fd) (GQ : FnOk P w K mg base CX0 (k + 1) fQ fdQ ["self", "message", "code"] (spQE K)) (gQ : mg "QueryError" = some (.ref CQ)) (rdQ : ClX.CRead K CQ mc) (fnd : PySem.W.findCls K (.ref CQ) mc "__init__" = some (.val (.ref fQ))) (kp : PySem.W.keepIn K (.ref fQ) = true) (bQ : L2.Binds K fdQ ["self", "message", "code"] []) (oe : OexC K C) (nc : PySem.W.findIn K (.ref C) "code" = some none) : FnOk P w K mg base CX0 (k + 2) f fd ["self", "message"] (spErr C ⟨"intervals", none, false⟩) := by
  refine F.ok sc_InvalidIntervals (fun vs H Q E h => ?_) (fun cdv A outer s H vs Q E hr h => ?_)
  · obtain ⟨a, x, rfl, _⟩ := h
    rfl
  · obtain ⟨a, x, rfl, ha, av, q⟩ := h
    refine ⟨_, pss_one (ps_expr (Dw.pe_clsfn GQ hr (by rfl) gQ rdQ fnd kp bQ .nil pass0 (pa_cons (pv 0) (pa_cons (pv 1) (pa_cons pe_str pa_nil))))), ?_⟩
    exact ⟨_, rfl, _, rfl, a, C, x, _, rfl, oe, nc, ha, fun dx h1 h2 => q H dx (fun _ _ h => h) h1 h2⟩
abbrev s_InvalidPrice : Stmt := inClass (Dw.topS 4) 0
theorem sc_InvalidPrice : FnScope ["self", "name"] ["self", "name"] (defScope s_InvalidPrice) := ⟨rfl, rfl, rfl, by decide +kernel, rfl, by decide +kernel, by decide +kernel⟩
theorem ok_InvalidPrice {f fQ CQ C : Addr} {fd fdQ : FuncData} {k : Nat} {mc : Value} (F : Fun K "__init__" "InvalidPrice.__init__" s_InvalidPrice f fd) (GQ : FnOk P w K mg base CX0 (k + 1) fQ fdQ ["self", "message", "code"] (spQE K)) (gQ : mg "QueryError" = some (.ref CQ)) (rdQ : ClX.CRead K CQ mc) (fnd : PySem.W.findCls K (.ref CQ) mc "__init__" = some (.val (.ref fQ))) (kp : PySem.W.keepIn K (.ref fQ) = true) (bQ : L2.Binds K fdQ ["self", "message", "code"] []) (oe : OexC K C) (nc : PySem.W.findIn K (.ref C) "code" = some none) (na : PySem.W.findIn K (.ref C) "name" = some none) : FnOk P w K mg base CX0 (k + 2) f fd ["self", "name"] (spErr C ⟨"price", some "name", false⟩) := by
  refine F.ok sc_InvalidPrice (fun vs H Q E h => ?_) (fun cdv A outer s H vs Q E hr h => ?_)
  · obtain ⟨a, x, rfl, _⟩ := h
    rfl
  · obtain ⟨a, x, rfl, ha, av, q⟩ := h
    obtain ⟨y, rfl, hi⟩ := arg_str av rfl rfl
    refine ⟨_, pss_cons (ps_expr (Dw.pe_clsfn GQ hr (by rfl) gQ rdQ fnd kp bQ .nil pass0 (pa_cons (pv 0) (pa_cons (pe_js0 (dj0_str (by decide +kernel) (dj0_fmtR hr hi (pv 1) (dj0_str (by decide +kernel) dj0_nil)))) (pa_cons pe_str pa_nil))))) (pss_one (ps_ost (pv 0) (pv 1))), ?_⟩
    refine ⟨_, rfl, rfl, fun m => ?_⟩
    refine ⟨a, C, .str m, _, rfl, oe, nc, ha, fun dx h1 h2 => ?_⟩
    refine ⟨_, rfl, _, rfl, a, C, rfl, oe, na, .inr ⟨dx, _, upd_same, by rw [upd_ne h2, upd_same], Nat.le_of_ble_eq_true rfl, ?_⟩⟩
    have eq : upd (upd (upd H dx (exd dx [("code", .str "price")])) a (exo a C (some dx))) dx (exd dx [("name", (V.str y)), ("code", .str "price")]) = upd (upd H dx (exd dx (fldV ⟨"price", some "name", false⟩ (V.str y)))) a (exo a C (some dx)) := upd_twice h2
    rw [eq]
    exact q H dx (fun _ _ h => h) h1 h2
abbrev s_InvalidQuery : Stmt := inClass (Dw.topS 5) 0
theorem sc_InvalidQuery : FnScope ["self", "index"] ["self", "index"] (defScope s_InvalidQuery) := ⟨rfl, rfl, rfl, by decide +kernel, rfl, by decide +kernel, by decide +kernel⟩
theorem ok_InvalidQuery {f fQ CQ C : Addr} {fd fdQ : FuncData} {k : Nat} {mc : Value} (F : Fun K "__init__" "InvalidQuery.__init__" s_InvalidQuery f fd) (GQ : FnOk P w K mg base CX0 (k + 1) fQ fdQ ["self", "message", "code"] (spQE K)) (gQ : mg "QueryError" = some (.ref CQ)) (rdQ : ClX.CRead K CQ mc) (fnd : PySem.W.findCls K (.ref CQ) mc "__init__" = some (.val (.ref fQ))) (kp : PySem.W.keepIn K (.ref fQ) = true) (bQ : L2.Binds K fdQ ["self", "message", "code"] []) (oe : OexC K C) (nc : PySem.W.findIn K (.ref C) "code" = some none) (na : PySem.W.findIn K (.ref C) "index" = some none) : FnOk P w K mg base CX0 (k + 2) f fd ["self", "index"] (spErr C ⟨"query", some "index", true⟩) := by
  refine F.ok sc_InvalidQuery (fun vs H Q E h => ?_) (fun cdv A outer s H vs Q E hr h => ?_)
  · obtain ⟨a, x, rfl, _⟩ := h
    rfl
  · obtain ⟨a, x, rfl, ha, av, q⟩ := h
    obtain ⟨i, rfl, hi⟩ := arg_int av rfl
    refine ⟨_, pss_cons (ps_expr (Dw.pe_clsfn GQ hr (by rfl) gQ rdQ fnd kp bQ .nil pass0 (pa_cons (pv 0) (pa_cons (pe_js0 (dj0_str (by decide +kernel) (dj0_fmt hi (pv 1) (dj0_str (by decide +kernel) dj0_nil)))) (pa_cons pe_str pa_nil))))) (pss_one (ps_ost (pv 0) (pv 1))), ?_⟩
    refine ⟨_, rfl, rfl, fun m => ?_⟩
    refine ⟨a, C, .str m, _, rfl, oe, nc, ha, fun dx h1 h2 => ?_⟩
    refine ⟨_, rfl, _, rfl, a, C, rfl, oe, na, .inr ⟨dx, _, upd_same, by rw [upd_ne h2, upd_same], Nat.le_of_ble_eq_true rfl, ?_⟩⟩
    have eq : upd (upd (upd H dx (exd dx [("code", .str "query")])) a (exo a C (some dx))) dx (exd dx [("index", (V.int i)), ("code", .str "query")]) = upd (upd H dx (exd dx (fldV ⟨"query", some "index", true⟩ (V.int i)))) a (exo a C (some dx)) := upd_twice h2
    rw [eq]
    exact q H dx (fun _ _ h => h) h1 h2
end
end Dd
/-! GD__law_shuffled -/
namespace Dd
open PySem PySem.Spec PyProof.Rows L2
section
variable {P : Program} {w : World} {K : PySem.W.Frag} {mg : Str → Option Value} {base : Heap}
theorem o__law_shuffled (AT : At K mg "_law_shuffled" s__law_shuffled) (G__law_draw : Ok P w K mg base 1 "_law_draw" 2 drawD) (B : Blt mg) : Ok P w K mg base 2 "_law_shuffled" 2 d__law_shuffled :=
  okOf AT sc__law_shuffled rfl (by decide) (fun _ _ _ _ _ _ us hl => match us, hl with | [_, _], _ => rfl) fun f cdv A outer s H E hr =>
  (dss_cons (ds_setL (i := 2) sc__law_shuffled.nd rfl (by first | exact Or.inl rfl | exact Or.inr rfl) da_nil)
  (dss_cons (ds_for (t := (.nm 3)) (passes_of rfl) rfl (di_seq (de_var 1 (pv 1))) (pg_name (i := 3) sc__law_shuffled.nd rfl (by first | exact Or.inl rfl | exact Or.inr rfl)) (dss_one (ds_insert 2 (pv 2) (de_callO G__law_draw (hr.mono (by decide)) (by rfl) (fun σ => passAt (takes_of rfl rfl rfl rfl) σ) (da_cons (de_var 0 (pv 0)) (da_cons (de_add (de_b br_len (by rfl) B.len_ (by decide +kernel) (da_cons (de_var 2 (pv 2)) da_nil)) de_int) da_nil))) (de_var 3 (pv 3)))))
  (dss_one (ds_retO 2 (pv 2)))))

end
end Dd
/-! GD__law_gcd -/
namespace Dd
open PySem PySem.Spec PyProof.Rows L2
section
variable {P : Program} {w : World} {K : PySem.W.Frag} {mg : Str → Option Value} {base : Heap}
theorem o__law_gcd (AT : At K mg "_law_gcd" s__law_gcd)  (B : Blt mg) : Ok P w K mg base 1 "_law_gcd" 2 d__law_gcd :=
  okOf AT sc__law_gcd rfl (by decide) (fun _ _ _ _ _ _ us hl => match us, hl with | [_, _], _ => rfl) fun f cdv A outer s H E hr =>
  (dss_cons (ds_while (passes_of rfl) (dt_cmp (c_ne hr) (de_var 1 (pv 1)) de_int (nomark _)) (dss_cons (ds_set (i := 2) sc__law_gcd.nd rfl (by first | exact Or.inl rfl | exact Or.inr rfl) (de_mod (de_var 0 (pv 0)) (de_var 1 (pv 1))))
  (dss_cons (ds_set (i := 0) sc__law_gcd.nd rfl (by first | exact Or.inl rfl | exact Or.inr rfl) (de_var 1 (pv 1)))
  (dss_one (ds_set (i := 1) sc__law_gcd.nd rfl (by first | exact Or.inl rfl | exact Or.inr rfl) (de_var 2 (pv 2)))))))
  (dss_one (ds_ret (de_b br_abs (by rfl) B.abs_ (by decide +kernel) (da_cons (de_var 0 (pv 0)) da_nil)))))

end
end Dd
/-! GD__law_reduced -/
namespace Dd
open PySem PySem.Spec PyProof.Rows L2
section
variable {P : Program} {w : World} {K : PySem.W.Frag} {mg : Str → Option Value} {base : Heap}
theorem o__law_reduced (AT : At K mg "_law_reduced" s__law_reduced) (G__law_gcd : Ok P w K mg base 1 "_law_gcd" 2 d__law_gcd) : Ok P w K mg base 2 "_law_reduced" 2 d__law_reduced :=
  okOf AT sc__law_reduced rfl (by decide) (fun _ _ _ _ _ _ us hl => match us, hl with | [_, _], _ => rfl) fun f cdv A outer s H E hr =>
  (dss_cons (ds_set (i := 2) sc__law_reduced.nd rfl (by first | exact Or.inl rfl | exact Or.inr rfl) (de_callO G__law_gcd (hr.mono (by decide)) (by rfl) (fun σ => passAt (takes_of rfl rfl rfl rfl) σ) (da_cons (de_var 0 (pv 0)) (da_cons (de_var 1 (pv 1)) da_nil))))
  (dss_cons (ds_if (dt_cmp c_lt (de_var 1 (pv 1)) de_int (nomark _)) (dss_one (ds_set (i := 2) sc__law_reduced.nd rfl (by first | exact Or.inl rfl | exact Or.inr rfl) (de_sub de_int (de_var 2 (pv 2))))) dss_nil)
  (dss_one (ds_ret (de_tup (da_cons (de_div (de_var 0 (pv 0)) (de_var 2 (pv 2))) (da_cons (de_div (de_var 1 (pv 1)) (de_var 2 (pv 2))) da_nil)))))))

end
end Dd
/-! GD__law_bound -/
namespace Dd
open PySem PySem.Spec PyProof.Rows L2
section
variable {P : Program} {w : World} {K : PySem.W.Frag} {mg : Str → Option Value} {base : Heap}
theorem o__law_bound (AT : At K mg "_law_bound" s__law_bound) (G__law_draw : Ok P w K mg base 1 "_law_draw" 2 drawD) (G__law_reduced : Ok P w K mg base 2 "_law_reduced" 2 d__law_reduced) : Ok P w K mg base 3 "_law_bound" 2 d__law_bound :=
  okOf AT sc__law_bound rfl (by decide) (fun _ _ _ _ _ _ us hl => match us, hl with | [_, _], _ => rfl) fun f cdv A outer s H E hr =>
  (dss_cons (ds_if (dt_cmp (c_eq hr) (de_callO G__law_draw (hr.mono (by decide)) (by rfl) (fun σ => passAt (takes_of rfl rfl rfl rfl) σ) (da_cons (de_var 0 (pv 0)) (da_cons de_int da_nil))) de_int (nomark _)) (dss_one (ds_ret (de_callO G__law_reduced (hr.mono (by decide)) (by rfl) (fun σ => passAt (takes_of rfl rfl rfl rfl) σ) (da_cons (de_sub (de_callO G__law_draw (hr.mono (by decide)) (by rfl) (fun σ => passAt (takes_of rfl rfl rfl rfl) σ) (da_cons (de_var 0 (pv 0)) (da_cons (de_add (de_mul de_int (de_var 1 (pv 1))) de_int) da_nil))) (de_mul de_int (de_var 1 (pv 1)))) (da_cons (de_add de_int (de_callO G__law_draw (hr.mono (by decide)) (by rfl) (fun σ => passAt (takes_of rfl rfl rfl rfl) σ) (da_cons (de_var 0 (pv 0)) (da_cons de_int da_nil)))) da_nil))))) dss_nil)
  (dss_one (ds_ret (de_tup (da_cons (de_sub (de_callO G__law_draw (hr.mono (by decide)) (by rfl) (fun σ => passAt (takes_of rfl rfl rfl rfl) σ) (da_cons (de_var 0 (pv 0)) (da_cons (de_add (de_var 1 (pv 1)) de_int) da_nil))) (de_div (de_var 1 (pv 1)) de_int)) (da_cons de_int da_nil))))))

end
end Dd
/-! GD__law_less -/
namespace Dd
open PySem PySem.Spec PyProof.Rows L2
section
variable {P : Program} {w : World} {K : PySem.W.Frag} {mg : Str → Option Value} {base : Heap}
theorem o__law_less (AT : At K mg "_law_less" s__law_less)  : Ok P w K mg base 1 "_law_less" 2 d__law_less :=
  okOf AT sc__law_less rfl (by decide) (fun _ _ _ _ _ _ us hl => match us, hl with | [_, _], _ => rfl) fun f cdv A outer s H E hr =>
  (dss_one (ds_ret (de_cmp c_lt (de_mul (de_ix hr (de_var 0 (pv 0)) de_int (fun _ _ => rfl)) (de_ix hr (de_var 1 (pv 1)) de_int (fun _ _ => rfl))) (de_mul (de_ix hr (de_var 1 (pv 1)) de_int (fun _ _ => rfl)) (de_ix hr (de_var 0 (pv 0)) de_int (fun _ _ => rfl))) (nomark _))))

end
end Dd
/-! GD__law_choice -/
namespace Dd
open PySem PySem.Spec PyProof.Rows L2
section
variable {P : Program} {w : World} {K : PySem.W.Frag} {mg : Str → Option Value} {base : Heap}
theorem o__law_choice (AT : At K mg "_law_choice" s__law_choice) (G__law_draw : Ok P w K mg base 1 "_law_draw" 2 drawD) (B : Blt mg) : Ok P w K mg base 2 "_law_choice" 2 d__law_choice :=
  okOf AT sc__law_choice rfl (by decide) (fun _ _ _ _ _ _ us hl => match us, hl with | [_, _], _ => rfl) fun f cdv A outer s H E hr =>
  (dss_one (ds_ret (de_ix hr (de_var 1 (pv 1)) (de_callO G__law_draw (hr.mono (by decide)) (by rfl) (fun σ => passAt (takes_of rfl rfl rfl rfl) σ) (da_cons (de_var 0 (pv 0)) (da_cons (de_b br_len (by rfl) B.len_ (by decide +kernel) (da_cons (de_var 1 (pv 1)) da_nil)) da_nil))) (fun _ _ => rfl))))

end
end Dd
/-! GD__law_interval -/
namespace Dd
open PySem PySem.Spec PyProof.Rows L2
section
variable {P : Program} {w : World} {K : PySem.W.Frag} {mg : Str → Option Value} {base : Heap}
theorem o__law_interval (AT : At K mg "_law_interval" s__law_interval) (G__law_bound : Ok P w K mg base 3 "_law_bound" 2 d__law_bound) (G__law_choice : Ok P w K mg base 2 "_law_choice" 2 d__law_choice) (G__law_draw : Ok P w K mg base 1 "_law_draw" 2 drawD) (G__law_less : Ok P w K mg base 1 "_law_less" 2 d__law_less) : Ok P w K mg base 4 "_law_interval" 3 d__law_interval :=
  okOf AT sc__law_interval rfl (by decide) (fun _ _ _ _ _ _ us hl => match us, hl with | [_, _, _], _ => rfl) fun f cdv A outer s H E hr =>
  (dss_cons (ds_set (i := 3) sc__law_interval.nd rfl (by first | exact Or.inl rfl | exact Or.inr rfl) (de_callO G__law_bound (hr.mono (by decide)) (by rfl) (fun σ => passAt (takes_of rfl rfl rfl rfl) σ) (da_cons (de_var 0 (pv 0)) (da_cons (de_var 1 (pv 1)) da_nil))))
  (dss_cons (ds_set (i := 4) sc__law_interval.nd rfl (by first | exact Or.inl rfl | exact Or.inr rfl) (de_callO G__law_bound (hr.mono (by decide)) (by rfl) (fun σ => passAt (takes_of rfl rfl rfl rfl) σ) (da_cons (de_var 0 (pv 0)) (da_cons (de_var 1 (pv 1)) da_nil))))
  (dss_cons (ds_set (i := 5) sc__law_interval.nd rfl (by first | exact Or.inl rfl | exact Or.inr rfl) (de_callO G__law_draw (hr.mono (by decide)) (by rfl) (fun σ => passAt (takes_of rfl rfl rfl rfl) σ) (da_cons (de_var 0 (pv 0)) (da_cons de_int da_nil))))
  (dss_cons (ds_if (dw_pt (dw_and (dt_cmp (c_ne hr) (de_var 2 (pv 2)) (de_lst da_nil) (nomark _)) (dw_and1 (dt_cmp (c_eq hr) (de_var 5 (pv 5)) de_int (nomark _))))) (dss_one (ds_ret (de_callO G__law_choice (hr.mono (by decide)) (by rfl) (fun σ => passAt (takes_of rfl rfl rfl rfl) σ) (da_cons (de_var 0 (pv 0)) (da_cons (de_var 2 (pv 2)) da_nil))))) dss_nil)
  (dss_cons (ds_if (dw_pt (dw_and (dt_cmp (c_ne hr) (de_var 2 (pv 2)) (de_lst da_nil) (nomark _)) (dw_and1 (dt_cmp (c_eq hr) (de_var 5 (pv 5)) de_int (nomark _))))) (dss_one (ds_set (i := 3) sc__law_interval.nd rfl (by first | exact Or.inl rfl | exact Or.inr rfl) (de_ix hr (de_callO G__law_choice (hr.mono (by decide)) (by rfl) (fun σ => passAt (takes_of rfl rfl rfl rfl) σ) (da_cons (de_var 0 (pv 0)) (da_cons (de_var 2 (pv 2)) da_nil))) (de_callO G__law_draw (hr.mono (by decide)) (by rfl) (fun σ => passAt (takes_of rfl rfl rfl rfl) σ) (da_cons (de_var 0 (pv 0)) (da_cons de_int da_nil))) (fun _ _ => rfl)))) dss_nil)
  (dss_cons (ds_if (dt_truth (de_callO G__law_less (hr.mono (by decide)) (by rfl) (fun σ => passAt (takes_of rfl rfl rfl rfl) σ) (da_cons (de_var 4 (pv 4)) (da_cons (de_var 3 (pv 3)) da_nil)))) (dss_one (ds_ret (de_tup (da_cons (de_var 4 (pv 4)) (da_cons (de_var 3 (pv 3)) da_nil))))) dss_nil)
  (dss_cons (ds_if (dw_pt (dw_and (dt_cmp (c_eq hr) (de_var 4 (pv 4)) (de_var 3 (pv 3)) (nomark _)) (dw_and1 (dt_cmp c_gt (de_var 5 (pv 5)) de_int (nomark _))))) (dss_one (ds_ret (de_tup (da_cons (de_var 3 (pv 3)) (da_cons (de_tup (da_cons (de_add (de_ix hr (de_var 3 (pv 3)) de_int (fun _ _ => rfl)) (de_ix hr (de_var 3 (pv 3)) de_int (fun _ _ => rfl))) (da_cons (de_ix hr (de_var 3 (pv 3)) de_int (fun _ _ => rfl)) da_nil))) da_nil))))) dss_nil)
  (dss_one (ds_ret (de_tup (da_cons (de_var 3 (pv 3)) (da_cons (de_var 4 (pv 4)) da_nil))))))))))))

end
end Dd
/-! GD__law_intervals -/
namespace Dd
open PySem PySem.Spec PyProof.Rows L2
section
variable {P : Program} {w : World} {K : PySem.W.Frag} {mg : Str → Option Value} {base : Heap}
theorem o__law_intervals (AT : At K mg "_law_intervals" s__law_intervals) (G__law_draw : Ok P w K mg base 1 "_law_draw" 2 drawD) (G__law_interval : Ok P w K mg base 4 "_law_interval" 3 d__law_interval) (G__law_shuffled : Ok P w K mg base 2 "_law_shuffled" 2 d__law_shuffled) (B : Blt mg) : Ok P w K mg base 5 "_law_intervals" 3 d__law_intervals :=
  okOf AT sc__law_intervals rfl (by decide) (fun _ _ _ _ _ _ us hl => match us, hl with | [_, _, _], _ => rfl) fun f cdv A outer s H E hr =>
  (dss_cons (ds_set (i := 3) sc__law_intervals.nd rfl (by first | exact Or.inl rfl | exact Or.inr rfl) (de_lst (da_cons de_str (da_cons de_str (da_cons de_str (da_cons de_str (da_cons de_str (da_cons de_str (da_cons de_str da_nil)))))))))
  (dss_cons (ds_set (i := 4) sc__law_intervals.nd rfl (by first | exact Or.inl rfl | exact Or.inr rfl) (de_add de_int (de_callO G__law_draw (hr.mono (by decide)) (by rfl) (fun σ => passAt (takes_of rfl rfl rfl rfl) σ) (da_cons (de_var 0 (pv 0)) (da_cons (de_var 1 (pv 1)) da_nil)))))
  (dss_cons (ds_set (i := 5) sc__law_intervals.nd rfl (by first | exact Or.inl rfl | exact Or.inr rfl) (de_slice (de_callO G__law_shuffled (hr.mono (by decide)) (by rfl) (fun σ => passAt (takes_of rfl rfl rfl rfl) σ) (da_cons (de_var 0 (pv 0)) (da_cons (de_var 3 (pv 3)) da_nil))) do_none (do_some (de_var 4 (pv 4)))))
  (dss_cons (ds_setL (i := 6) sc__law_intervals.nd rfl (by first | exact Or.inl rfl | exact Or.inr rfl) da_nil)
  (dss_cons (ds_for (t := (.nm 7)) (passes_of rfl) rfl (di_seq (de_var 5 (pv 5))) (pg_name (i := 7) sc__law_intervals.nd rfl (by first | exact Or.inl rfl | exact Or.inr rfl)) (dss_one (ds_append 6 (pv 6) (de_callO G__law_interval (hr.mono (by decide)) (by rfl) (fun σ => passAt (takes_of rfl rfl rfl rfl) σ) (da_cons (de_var 0 (pv 0)) (da_cons (de_var 2 (pv 2)) (da_cons (de_var 6 (pv 6)) da_nil)))))))
  (dss_one (ds_retF (de_b (br_sorted2 rfl hr) (by rfl) B.sorted_ (by decide +kernel) (da_cons (de_lc (own := [("_law_at", 8)]) (t := (.nm 8)) rfl sc__law_intervals.nd (di_range1 (by rfl) B.range_ (de_var 4 (pv 4))) (blkOk_by (by kernel_rfl)) rfl (fun _ _ _ _ _ => (pg_name (i := 8) sc__law_intervals.nd rfl (by first | exact Or.inl rfl | exact Or.inr rfl))) (fun _ _ _ _ _ => dts_nil) (fun _ _ _ _ _ => (de_tup (da_cons (de_ix hr (de_var 5 (pv 5)) (de_var 8 (pv 8)) (fun _ _ => rfl)) (da_cons (de_ix hr (de_ix hr (de_var 6 (pv 6)) (de_var 8 (pv 8)) (fun _ _ => rfl)) de_int (fun _ _ => rfl)) (da_cons (de_ix hr (de_ix hr (de_var 6 (pv 6)) (de_var 8 (pv 8)) (fun _ _ => rfl)) de_int (fun _ _ => rfl)) da_nil)))))) da_nil)))))))))

end
end Dd
/-! GD__law_names -/
namespace Dd
open PySem PySem.Spec PyProof.Rows L2
section
variable {P : Program} {w : World} {K : PySem.W.Frag} {mg : Str → Option Value} {base : Heap}
theorem o__law_names (AT : At K mg "_law_names" s__law_names) (G__law_draw : Ok P w K mg base 1 "_law_draw" 2 drawD) (G__law_shuffled : Ok P w K mg base 2 "_law_shuffled" 2 d__law_shuffled) (B : Blt mg) : Ok P w K mg base 3 "_law_names" 2 d__law_names :=
  okOf AT sc__law_names rfl (by decide) (fun _ _ _ _ _ _ us hl => match us, hl with | [_, _], _ => rfl) fun f cdv A outer s H E hr =>
  (dss_cons (ds_setLc (i := 2) (own := [("_law_name", 4), ("_law_low", 5), ("_law_high", 6)]) (t := (.tp [4, 5, 6])) rfl sc__law_names.nd rfl rfl (sw_true rfl rfl rfl (by decide +kernel)) (di_seq (de_var 1 (pv 1))) (blkOk_by (by kernel_rfl)) rfl (fun _ _ _ _ _ => (pg_tup rfl (pgs_cons (pg_name (i := 4) sc__law_names.nd rfl (by first | exact Or.inl rfl | exact Or.inr rfl)) (pgs_cons (pg_name (i := 5) sc__law_names.nd rfl (by first | exact Or.inl rfl | exact Or.inr rfl)) (pgs_cons (pg_name (i := 6) sc__law_names.nd rfl (by first | exact Or.inl rfl | exact Or.inr rfl)) pgs_nil))))) (fun _ _ _ _ _ => dts_nil) (fun _ _ _ _ _ => (de_var 4 (pv 4))))
  (dss_cons (ds_setLc (i := 3) (own := [("_law_name", 4)]) (t := (.nm 4)) rfl sc__law_names.nd rfl rfl (sw_true rfl rfl rfl (by decide +kernel)) (di_seq (de_callO G__law_shuffled (hr.mono (by decide)) (by rfl) (fun σ => passAt (takes_of rfl rfl rfl rfl) σ) (da_cons (de_var 0 (pv 0)) (da_cons (de_var 2 (pv 2)) da_nil)))) (blkOk_by (by kernel_rfl)) rfl (fun _ _ _ _ _ => (pg_name (i := 4) sc__law_names.nd rfl (by first | exact Or.inl rfl | exact Or.inr rfl))) (fun _ _ _ _ _ => (dts_one (dt_cmp c_gt (de_calmO G__law_draw (hr.mono (by decide)) (by rfl) (da_cons (de_var 0 (pv 0)) (da_cons de_int da_nil))) de_int (nomark _)))) (fun _ _ _ _ _ => (de_var 4 (pv 4))))
  (dss_one (ds_ret (de_bty br_tuple (by rfl) B.tuple_ (by decide +kernel) (da_cons (de_if (dt_cmp (c_ne hr) (de_var 3 (pv 3)) (de_lst da_nil) (nomark _)) (de_var 3 (pv 3)) (de_slice (de_var 2 (pv 2)) do_none (do_some de_int))) da_nil))))))

end
end Dd
/-! GD__law_all_bounds -/
namespace Dd
open PySem PySem.Spec PyProof.Rows L2
section
variable {P : Program} {w : World} {K : PySem.W.Frag} {mg : Str → Option Value} {base : Heap}
theorem o__law_all_bounds (AT : At K mg "_law_all_bounds" s__law_all_bounds)  : Ok P w K mg base 1 "_law_all_bounds" 1 d__law_all_bounds :=
  okOf AT sc__law_all_bounds rfl (by decide) (fun _ _ _ _ _ _ us hl => match us, hl with | [_], _ => rfl) fun f cdv A outer s H E hr =>
  (dss_one (ds_ret (de_add (de_lc (own := [("_law_name", 1), ("_law_low", 2), ("_law_high", 3)]) (t := (.tp [1, 2, 3])) rfl sc__law_all_bounds.nd (di_seq (de_var 0 (pv 0))) (blkOk_by (by kernel_rfl)) rfl (fun _ _ _ _ _ => (pg_tup rfl (pgs_cons (pg_name (i := 1) sc__law_all_bounds.nd rfl (by first | exact Or.inl rfl | exact Or.inr rfl)) (pgs_cons (pg_name (i := 2) sc__law_all_bounds.nd rfl (by first | exact Or.inl rfl | exact Or.inr rfl)) (pgs_cons (pg_name (i := 3) sc__law_all_bounds.nd rfl (by first | exact Or.inl rfl | exact Or.inr rfl)) pgs_nil))))) (fun _ _ _ _ _ => dts_nil) (fun _ _ _ _ _ => (de_var 2 (pv 2)))) (de_lc (own := [("_law_name", 1), ("_law_low", 2), ("_law_high", 3)]) (t := (.tp [1, 2, 3])) rfl sc__law_all_bounds.nd (di_seq (de_var 0 (pv 0))) (blkOk_by (by kernel_rfl)) rfl (fun _ _ _ _ _ => (pg_tup rfl (pgs_cons (pg_name (i := 1) sc__law_all_bounds.nd rfl (by first | exact Or.inl rfl | exact Or.inr rfl)) (pgs_cons (pg_name (i := 2) sc__law_all_bounds.nd rfl (by first | exact Or.inl rfl | exact Or.inr rfl)) (pgs_cons (pg_name (i := 3) sc__law_all_bounds.nd rfl (by first | exact Or.inl rfl | exact Or.inr rfl)) pgs_nil))))) (fun _ _ _ _ _ => dts_nil) (fun _ _ _ _ _ => (de_var 3 (pv 3)))))))

end
end Dd
/-! GD__law_query -/
namespace Dd
open PySem PySem.Spec PyProof.Rows L2
section
variable {P : Program} {w : World} {K : PySem.W.Frag} {mg : Str → Option Value} {base : Heap}
theorem o__law_query (AT : At K mg "_law_query" s__law_query) (G__law_all_bounds : Ok P w K mg base 1 "_law_all_bounds" 1 d__law_all_bounds) (G__law_bound : Ok P w K mg base 3 "_law_bound" 2 d__law_bound) (G__law_choice : Ok P w K mg base 2 "_law_choice" 2 d__law_choice) (G__law_names : Ok P w K mg base 3 "_law_names" 2 d__law_names) (G__law_shuffled : Ok P w K mg base 2 "_law_shuffled" 2 d__law_shuffled) (B : Blt mg) : Ok P w K mg base 4 "_law_query" 2 d__law_query :=
  okOf AT sc__law_query rfl (by decide) (fun _ _ _ _ _ _ us hl => match us, hl with | [_, _], _ => rfl) fun f cdv A outer s H E hr =>
  (dss_cons (ds_set (i := 2) sc__law_query.nd rfl (by first | exact Or.inl rfl | exact Or.inr rfl) (de_callO G__law_choice (hr.mono (by decide)) (by rfl) (fun σ => passAt (takes_of rfl rfl rfl rfl) σ) (da_cons (de_var 0 (pv 0)) (da_cons (de_lst (da_cons de_str (da_cons de_str (da_cons de_str (da_cons de_str (da_cons de_str (da_cons de_str (da_cons de_str da_nil)))))))) da_nil))))
  (dss_cons (ds_set (i := 3) sc__law_query.nd rfl (by first | exact Or.inl rfl | exact Or.inr rfl) (de_callO G__law_names (hr.mono (by decide)) (by rfl) (fun σ => passAt (takes_of rfl rfl rfl rfl) σ) (da_cons (de_var 0 (pv 0)) (da_cons (de_var 1 (pv 1)) da_nil))))
  (dss_cons (ds_if (dw_pt (dw_and (dt_cmp (c_eq hr) (de_var 2 (pv 2)) de_str (nomark _)) (dw_and1 (dt_cmp c_gt (de_b br_len (by rfl) B.len_ (by decide +kernel) (da_cons (de_var 1 (pv 1)) da_nil)) de_int (nomark _))))) (dss_cons (ds_set (i := 4) sc__law_query.nd rfl (by first | exact Or.inl rfl | exact Or.inr rfl) (de_slice (de_callO G__law_shuffled (hr.mono (by decide)) (by rfl) (fun σ => passAt (takes_of rfl rfl rfl rfl) σ) (da_cons (de_var 0 (pv 0)) (da_cons (de_lc (own := [("_law_name", 5), ("_law_low", 6), ("_law_high", 7)]) (t := (.tp [5, 6, 7])) rfl sc__law_query.nd (di_seq (de_var 1 (pv 1))) (blkOk_by (by kernel_rfl)) rfl (fun _ _ _ _ _ => (pg_tup rfl (pgs_cons (pg_name (i := 5) sc__law_query.nd rfl (by first | exact Or.inl rfl | exact Or.inr rfl)) (pgs_cons (pg_name (i := 6) sc__law_query.nd rfl (by first | exact Or.inl rfl | exact Or.inr rfl)) (pgs_cons (pg_name (i := 7) sc__law_query.nd rfl (by first | exact Or.inl rfl | exact Or.inr rfl)) pgs_nil))))) (fun _ _ _ _ _ => dts_nil) (fun _ _ _ _ _ => (de_var 5 (pv 5)))) da_nil))) do_none (do_some de_int)))
  (dss_one (ds_ret (de_tup (da_cons de_str (da_cons (de_ix hr (de_var 4 (pv 4)) de_int (fun _ _ => rfl)) (da_cons (de_ix hr (de_var 4 (pv 4)) de_int (fun _ _ => rfl)) da_nil))))))) dss_nil)
  (dss_cons (ds_if (dt_cmp (c_eq hr) (de_var 2 (pv 2)) de_str (nomark _)) (dss_one (ds_ret (de_tup (da_cons de_str (da_cons (de_var 3 (pv 3)) (da_cons (de_callO G__law_choice (hr.mono (by decide)) (by rfl) (fun σ => passAt (takes_of rfl rfl rfl rfl) σ) (da_cons (de_var 0 (pv 0)) (da_cons (de_add (de_callO G__law_all_bounds (hr.mono (by decide)) (by rfl) (fun σ => passAt (takes_of rfl rfl rfl rfl) σ) (da_cons (de_var 1 (pv 1)) da_nil)) (de_lst (da_cons (de_callO G__law_bound (hr.mono (by decide)) (by rfl) (fun σ => passAt (takes_of rfl rfl rfl rfl) σ) (da_cons (de_var 0 (pv 0)) (da_cons de_int da_nil))) da_nil))) da_nil))) da_nil)))))) dss_nil)
  (dss_one (ds_ret (de_tup (da_cons (de_if (dt_cmp (c_eq hr) (de_var 2 (pv 2)) de_str (nomark _)) de_str (de_var 2 (pv 2))) (da_cons (de_var 3 (pv 3)) da_nil)))))))))

end
end Dd
/-! GD_greatest_divisor -/
namespace Dd
open PySem PySem.Spec PyProof.Rows L2
section
variable {P : Program} {w : World} {K : PySem.W.Frag} {mg : Str → Option Value} {base : Heap}
theorem o_greatest_divisor (AT : At K mg "greatest_divisor" s_greatest_divisor)  (B : Blt mg) : Ok P w K mg base 1 "greatest_divisor" 2 d_greatest_divisor :=
  okOf AT sc_greatest_divisor rfl (by decide) (fun _ _ _ _ _ _ us hl => match us, hl with | [_, _], _ => rfl) fun f cdv A outer s H E hr =>
  (dss_cons (ds_par (i := 0) (j := 1) rfl sc_greatest_divisor.nd rfl rfl (by decide) rfl rfl (de_b br_abs (by rfl) B.abs_ (by decide +kernel) (da_cons (de_var 0 (pv 0)) da_nil)) (de_b br_abs (by rfl) B.abs_ (by decide +kernel) (da_cons (de_var 1 (pv 1)) da_nil)) rfl)
  (dss_cons (ds_while (passes_of rfl) (dt_truth (de_var 1 (pv 1))) (dss_one (ds_par (i := 0) (j := 1) rfl sc_greatest_divisor.nd rfl rfl (by decide) rfl rfl (de_var 1 (pv 1)) (de_mod (de_var 0 (pv 0)) (de_var 1 (pv 1))) rfl)))
  (dss_one (ds_ret (de_var 0 (pv 0))))))

end
end Dd
/-! GD_is_fraction -/
namespace Dd
open PySem PySem.Spec PyProof.Rows L2
section
variable {P : Program} {w : World} {K : PySem.W.Frag} {mg : Str → Option Value} {base : Heap}
theorem o_is_fraction (AT : At K mg "is_fraction" s_is_fraction) (G_greatest_divisor : Ok P w K mg base 1 "greatest_divisor" 2 d_greatest_divisor) (B : Blt mg) : Ok P w K mg base 2 "is_fraction" 1 d_is_fraction :=
  okOf AT sc_is_fraction rfl (by decide) (fun _ _ _ _ _ _ us hl => match us, hl with | [_], _ => rfl) fun f cdv A outer s H E hr =>
  (dss_cons (ds_if (dw_pt (dw_or (dt_not (dt_truth (de_b br_isi (by rfl) B.isinstance_ (by decide +kernel) (da_cons (de_var 0 (pv 0)) (da_cons (de_ty (by rfl) B.tuple_ (by decide +kernel)) da_nil))))) (dw_or1 (dt_cmp (c_ne hr) (de_b br_len (by rfl) B.len_ (by decide +kernel) (da_cons (de_var 0 (pv 0)) da_nil)) de_int (nomark _))))) (dss_one (ds_ret de_bl)) dss_nil)
  (dss_cons (ds_unp (t := (.tp [1, 2])) (de_var 0 (pv 0)) (pg_tup rfl (pgs_cons (pg_name (i := 1) sc_is_fraction.nd rfl (by first | exact Or.inl rfl | exact Or.inr rfl)) (pgs_cons (pg_name (i := 2) sc_is_fraction.nd rfl (by first | exact Or.inl rfl | exact Or.inr rfl)) pgs_nil))))
  (dss_cons (ds_if (dw_pt (dw_or (dt_not (dt_truth (de_b br_isi (by rfl) B.isinstance_ (by decide +kernel) (da_cons (de_var 1 (pv 1)) (da_cons (de_ty (by rfl) B.int_ (by decide +kernel)) da_nil))))) (dw_or1 (dt_not (dt_truth (de_b br_isi (by rfl) B.isinstance_ (by decide +kernel) (da_cons (de_var 2 (pv 2)) (da_cons (de_ty (by rfl) B.int_ (by decide +kernel)) da_nil)))))))) (dss_one (ds_ret de_bl)) dss_nil)
  (dss_one (ds_ret (de_and (de_cmp c_ge (de_var 2 (pv 2)) de_int (nomark _)) (de_one (de_cmp (c_eq hr) (de_callO G_greatest_divisor (hr.mono (by decide)) (by rfl) (fun σ => passAt (takes_of rfl rfl rfl rfl) σ) (da_cons (de_var 1 (pv 1)) (da_cons (de_var 2 (pv 2)) da_nil))) de_int (nomark _)))))))))

end
end Dd
/-! GD_check_fraction -/
namespace Dd
open PySem PySem.Spec PyProof.Rows L2
section
variable {P : Program} {w : World} {K : PySem.W.Frag} {mg : Str → Option Value} {base : Heap}
theorem o_check_fraction (AT : At K mg "check_fraction" s_check_fraction) (G_is_fraction : Ok P w K mg base 2 "is_fraction" 1 d_is_fraction) (R_InvalidFraction : ErrOk P w K mg base 2 "InvalidFraction" ⟨"fraction", none, false⟩) : Ok P w K mg base 4 "check_fraction" 1 d_check_fraction :=
  okOf AT sc_check_fraction rfl (by decide) (fun _ _ _ _ _ _ us hl => match us, hl with | [_], _ => rfl) fun f cdv A outer s H E hr =>
  (dss_one (ds_if (dt_not (dt_truth (de_callO G_is_fraction (hr.mono (by decide)) (by rfl) (fun σ => passAt (takes_of rfl rfl rfl rfl) σ) (da_cons (de_var 0 (pv 0)) da_nil)))) (dss_one (ds_raise rfl (takes_of rfl rfl rfl rfl) R_InvalidFraction (hr.mono (by decide)) (by rfl) (de_js (dj_fmtR hr (de_var 0 (pv 0)) (dj_str (by decide +kernel) dj_nil))))) dss_nil))

end
end Dd
/-! GD_less -/
namespace Dd
open PySem PySem.Spec PyProof.Rows L2
section
variable {P : Program} {w : World} {K : PySem.W.Frag} {mg : Str → Option Value} {base : Heap}
theorem o_less (AT : At K mg "less" s_less)  : Ok P w K mg base 1 "less" 2 d_less :=
  okOf AT sc_less rfl (by decide) (fun _ _ _ _ _ _ us hl => match us, hl with | [_, _], _ => rfl) fun f cdv A outer s H E hr =>
  (dss_one (ds_ret (de_cmp c_lt (de_mul (de_ix hr (de_var 0 (pv 0)) de_int (fun _ _ => rfl)) (de_ix hr (de_var 1 (pv 1)) de_int (fun _ _ => rfl))) (de_mul (de_ix hr (de_var 1 (pv 1)) de_int (fun _ _ => rfl)) (de_ix hr (de_var 0 (pv 0)) de_int (fun _ _ => rfl))) (nomark _))))

end
end Dd
/-! GD_is_name -/
namespace Dd
open PySem PySem.Spec PyProof.Rows L2
section
variable {P : Program} {w : World} {K : PySem.W.Frag} {mg : Str → Option Value} {base : Heap}
theorem o_is_name (AT : At K mg "is_name" s_is_name)  (B : Blt mg) (C : Cst K w mg) : Ok P w K mg base 1 "is_name" 1 d_is_name :=
  okOf AT sc_is_name rfl (by decide) (fun _ _ _ _ _ _ us hl => match us, hl with | [_], _ => rfl) fun f cdv A outer s H E hr =>
  (dss_cons (ds_if (dw_pt (dw_or (dt_not (dt_truth (de_b br_isi (by rfl) B.isinstance_ (by decide +kernel) (da_cons (de_var 0 (pv 0)) (da_cons (de_ty (by rfl) B.str_ (by decide +kernel)) da_nil))))) (dw_or1 (dt_not (dt_chain c_le c_le de_int (de_b br_len (by rfl) B.len_ (by decide +kernel) (da_cons (de_var 0 (pv 0)) da_nil)) (de_glob (v := .int 6) (by rfl) C.MAX_LETTERS_.choose_spec ⟨_, rfl⟩ (fun _ _ => .int _))))))) (dss_one (ds_ret de_bl)) dss_nil)
  (dss_one (ds_ret (de_b (br_all rfl) (by rfl) B.all_ (by decide +kernel) (da_cons (de_lc (own := [("letter", 1)]) (t := (.nm 1)) rfl sc_is_name.nd (di_seq (de_var 0 (pv 0))) (blkOk_by (by kernel_rfl)) rfl (fun _ _ _ _ _ => (pg_name (i := 1) sc_is_name.nd rfl (by first | exact Or.inl rfl | exact Or.inr rfl))) (fun _ _ _ _ _ => dts_nil) (fun _ _ _ _ _ => (de_chain c_le c_le de_str (de_var 1 (pv 1)) de_str))) da_nil)))))

end
end Dd
/-! GD_check_intervals -/
namespace Dd
open PySem PySem.Spec PyProof.Rows L2
section
variable {P : Program} {w : World} {K : PySem.W.Frag} {mg : Str → Option Value} {base : Heap}
theorem o_check_intervals (AT : At K mg "check_intervals" s_check_intervals) (G_check_fraction : Ok P w K mg base 4 "check_fraction" 1 d_check_fraction) (G_is_name : Ok P w K mg base 1 "is_name" 1 d_is_name) (G_less : Ok P w K mg base 1 "less" 2 d_less) (R_InvalidIntervals : ErrOk P w K mg base 2 "InvalidIntervals" ⟨"intervals", none, false⟩) (B : Blt mg) (C : Cst K w mg) : Ok P w K mg base 5 "check_intervals" 1 d_check_intervals :=
  okOf AT sc_check_intervals rfl (by decide) (fun _ _ _ _ _ _ us hl => match us, hl with | [_], _ => rfl) fun f cdv A outer s H E hr =>
  (dss_cons (ds_if (dt_cmp c_gt (de_b br_len (by rfl) B.len_ (by decide +kernel) (da_cons (de_var 0 (pv 0)) da_nil)) (de_glob (v := .int 24) (by rfl) C.CAPACITY_.choose_spec ⟨_, rfl⟩ (fun _ _ => .int _)) (nomark _)) (dss_one (ds_raise rfl (takes_of rfl rfl rfl rfl) R_InvalidIntervals (hr.mono (by decide)) (by rfl) (de_js (dj_str (by decide +kernel) (dj_fmt (de_glob (v := .int 24) (by rfl) C.CAPACITY_.choose_spec ⟨_, rfl⟩ (fun _ _ => .int _)) (dj_str (by decide +kernel) dj_nil)))))) dss_nil)
  (dss_cons (ds_set (i := 1) sc_check_intervals.nd rfl (by first | exact Or.inl rfl | exact Or.inr rfl) de_str)
  (dss_one (ds_for (t := (.tp [2, 3, 4])) (passes_of rfl) rfl (di_seq (de_var 0 (pv 0))) (pg_tup rfl (pgs_cons (pg_name (i := 2) sc_check_intervals.nd rfl (by first | exact Or.inl rfl | exact Or.inr rfl)) (pgs_cons (pg_name (i := 3) sc_check_intervals.nd rfl (by first | exact Or.inl rfl | exact Or.inr rfl)) (pgs_cons (pg_name (i := 4) sc_check_intervals.nd rfl (by first | exact Or.inl rfl | exact Or.inr rfl)) pgs_nil)))) (dss_cons (ds_expr (de_callO G_check_fraction (hr.mono (by decide)) (by rfl) (fun σ => passAt (takes_of rfl rfl rfl rfl) σ) (da_cons (de_var 3 (pv 3)) da_nil)))
  (dss_cons (ds_expr (de_callO G_check_fraction (hr.mono (by decide)) (by rfl) (fun σ => passAt (takes_of rfl rfl rfl rfl) σ) (da_cons (de_var 4 (pv 4)) da_nil)))
  (dss_cons (ds_if (dt_not (dt_truth (de_callO G_is_name (hr.mono (by decide)) (by rfl) (fun σ => passAt (takes_of rfl rfl rfl rfl) σ) (da_cons (de_var 2 (pv 2)) da_nil)))) (dss_one (ds_raise rfl (takes_of rfl rfl rfl rfl) R_InvalidIntervals (hr.mono (by decide)) (by rfl) (de_js (dj_fmtR hr (de_var 2 (pv 2)) (dj_str (by decide +kernel) dj_nil))))) dss_nil)
  (dss_cons (ds_if (dt_cmp c_le (de_var 2 (pv 2)) (de_var 1 (pv 1)) (nomark _)) (dss_one (ds_raise rfl (takes_of rfl rfl rfl rfl) R_InvalidIntervals (hr.mono (by decide)) (by rfl) (de_js (dj_str (by decide +kernel) (dj_fmtR hr (de_var 2 (pv 2)) (dj_str (by decide +kernel) dj_nil)))))) dss_nil)
  (dss_cons (ds_if (dt_truth (de_callO G_less (hr.mono (by decide)) (by rfl) (fun σ => passAt (takes_of rfl rfl rfl rfl) σ) (da_cons (de_var 4 (pv 4)) (da_cons (de_var 3 (pv 3)) da_nil)))) (dss_one (ds_raise rfl (takes_of rfl rfl rfl rfl) R_InvalidIntervals (hr.mono (by decide)) (by rfl) (de_js (dj_str (by decide +kernel) (dj_fmtR hr (de_var 2 (pv 2)) (dj_str (by decide +kernel) dj_nil)))))) dss_nil)
  (dss_one (ds_set (i := 1) sc_check_intervals.nd rfl (by first | exact Or.inl rfl | exact Or.inr rfl) (de_var 2 (pv 2)))))))))))))

end
end Dd
/-! GD_item_names -/
namespace Dd
open PySem PySem.Spec PyProof.Rows L2
section
variable {P : Program} {w : World} {K : PySem.W.Frag} {mg : Str → Option Value} {base : Heap}
theorem o_item_names (AT : At K mg "item_names" s_item_names)  : Ok P w K mg base 1 "item_names" 1 d_item_names :=
  okOf AT sc_item_names rfl (by decide) (fun _ _ _ _ _ _ us hl => match us, hl with | [_], _ => rfl) fun f cdv A outer s H E hr =>
  (dss_one (ds_ret (de_lc (own := [("name", 1), ("low", 2), ("high", 3)]) (t := (.tp [1, 2, 3])) rfl sc_item_names.nd (di_seq (de_var 0 (pv 0))) (blkOk_by (by kernel_rfl)) rfl (fun _ _ _ _ _ => (pg_tup rfl (pgs_cons (pg_name (i := 1) sc_item_names.nd rfl (by first | exact Or.inl rfl | exact Or.inr rfl)) (pgs_cons (pg_name (i := 2) sc_item_names.nd rfl (by first | exact Or.inl rfl | exact Or.inr rfl)) (pgs_cons (pg_name (i := 3) sc_item_names.nd rfl (by first | exact Or.inl rfl | exact Or.inr rfl)) pgs_nil))))) (fun _ _ _ _ _ => dts_nil) (fun _ _ _ _ _ => (de_var 1 (pv 1))))))

end
end Dd
/-! GD_has_query_form -/
namespace Dd
open PySem PySem.Spec PyProof.Rows L2
section
variable {P : Program} {w : World} {K : PySem.W.Frag} {mg : Str → Option Value} {base : Heap}
theorem o_has_query_form (AT : At K mg "has_query_form" s_has_query_form)  (B : Blt mg) (C : Cst K w mg) : Ok P w K mg base 1 "has_query_form" 1 d_has_query_form :=
  okOf AT sc_has_query_form rfl (by decide) (fun _ _ _ _ _ _ us hl => match us, hl with | [_], _ => rfl) fun f cdv A outer s H E hr =>
  (dss_cons (ds_if (dw_pt (dw_or (dt_not (dt_truth (de_b br_isi (by rfl) B.isinstance_ (by decide +kernel) (da_cons (de_var 0 (pv 0)) (da_cons (de_ty (by rfl) B.tuple_ (by decide +kernel)) da_nil))))) (dw_or (dt_cmp (c_eq hr) (de_b br_len (by rfl) B.len_ (by decide +kernel) (da_cons (de_var 0 (pv 0)) da_nil)) de_int (nomark _)) (dw_or1 (dt_not (dt_truth (de_b br_isi (by rfl) B.isinstance_ (by decide +kernel) (da_cons (de_ix hr (de_var 0 (pv 0)) de_int (fun _ _ => rfl)) (da_cons (de_ty (by rfl) B.str_ (by decide +kernel)) da_nil))))))))) (dss_one (ds_ret de_bl)) dss_nil)
  (dss_one (ds_ret (de_cmp (c_eq hr) (de_getK C.QUERY_LENGTHS_.choose_spec.1 (by rfl) C.QUERY_LENGTHS_.choose_spec.2 (de_ix hr (de_var 0 (pv 0)) de_int (fun _ _ => rfl)) ⟨rfl, rfl, rfl, rfl⟩) (de_b br_len (by rfl) B.len_ (by decide +kernel) (da_cons (de_var 0 (pv 0)) da_nil)) (nomark _)))))

end
end Dd
/-! GD_are_query_names -/
namespace Dd
open PySem PySem.Spec PyProof.Rows L2
section
variable {P : Program} {w : World} {K : PySem.W.Frag} {mg : Str → Option Value} {base : Heap}
theorem o_are_query_names (AT : At K mg "are_query_names" s_are_query_names)  (B : Blt mg) : Ok P w K mg base 1 "are_query_names" 2 d_are_query_names :=
  okOf AT sc_are_query_names rfl (by decide) (fun _ _ _ _ _ _ us hl => match us, hl with | [_, _], _ => rfl) fun f cdv A outer s H E hr =>
  (dss_cons (ds_if (dw_pt (dw_or (dt_not (dt_truth (de_b br_isi (by rfl) B.isinstance_ (by decide +kernel) (da_cons (de_var 0 (pv 0)) (da_cons (de_ty (by rfl) B.tuple_ (by decide +kernel)) da_nil))))) (dw_or1 (dt_cmp (c_eq hr) (de_b br_len (by rfl) B.len_ (by decide +kernel) (da_cons (de_var 0 (pv 0)) da_nil)) de_int (nomark _))))) (dss_one (ds_ret de_bl)) dss_nil)
  (dss_cons (ds_if (dt_not (dt_truth (de_b (br_all rfl) (by rfl) B.all_ (by decide +kernel) (da_cons (de_lc (own := [("name", 2)]) (t := (.nm 2)) rfl sc_are_query_names.nd (di_seq (de_var 0 (pv 0))) (blkOk_by (by kernel_rfl)) rfl (fun _ _ _ _ _ => (pg_name (i := 2) sc_are_query_names.nd rfl (by first | exact Or.inl rfl | exact Or.inr rfl))) (fun _ _ _ _ _ => dts_nil) (fun _ _ _ _ _ => (de_and (de_b br_isi (by rfl) B.isinstance_ (by decide +kernel) (da_cons (de_var 2 (pv 2)) (da_cons (de_ty (by rfl) B.str_ (by decide +kernel)) da_nil))) (de_one (de_cmp (c_in hr) (de_var 2 (pv 2)) (de_var 1 (pv 1)) (by rfl)))))) da_nil)))) (dss_one (ds_ret de_bl)) dss_nil)
  (dss_one (ds_ret (de_cmp (c_eq hr) (de_lenSetN rfl (by rfl) B.len_ (by rfl) B.set_ (de_var 0 (pv 0))) (de_b br_len (by rfl) B.len_ (by decide +kernel) (da_cons (de_var 0 (pv 0)) da_nil)) (nomark _))))))

end
end Dd
/-! GD_names_of -/
namespace Dd
open PySem PySem.Spec PyProof.Rows L2
section
variable {P : Program} {w : World} {K : PySem.W.Frag} {mg : Str → Option Value} {base : Heap}
theorem o_names_of (AT : At K mg "names_of" s_names_of)  : Ok P w K mg base 1 "names_of" 1 d_names_of :=
  okOf AT sc_names_of rfl (by decide) (fun _ _ _ _ _ _ us hl => match us, hl with | [_], _ => rfl) fun f cdv A outer s H E hr =>
  (dss_one (ds_ret (de_if (dt_cmp (c_eq hr) (de_ix hr (de_var 0 (pv 0)) de_int (fun _ _ => rfl)) de_str (nomark _)) (de_slice (de_var 0 (pv 0)) (do_some de_int) do_none) (de_ix hr (de_var 0 (pv 0)) de_int (fun _ _ => rfl)))))

end
end Dd
/-! GD_check_query -/
namespace Dd
open PySem PySem.Spec PyProof.Rows L2
section
variable {P : Program} {w : World} {K : PySem.W.Frag} {mg : Str → Option Value} {base : Heap}
theorem o_check_query (AT : At K mg "check_query" s_check_query) (G_are_query_names : Ok P w K mg base 1 "are_query_names" 2 d_are_query_names) (G_check_fraction : Ok P w K mg base 4 "check_fraction" 1 d_check_fraction) (G_has_query_form : Ok P w K mg base 1 "has_query_form" 1 d_has_query_form) (G_names_of : Ok P w K mg base 1 "names_of" 1 d_names_of) (R_InvalidQuery : ErrOk P w K mg base 2 "InvalidQuery" ⟨"query", some "index", true⟩) : Ok P w K mg base 5 "check_query" 3 d_check_query :=
  okOf AT sc_check_query rfl (by decide) (fun _ _ _ _ _ _ us hl => match us, hl with | [_, _, _], _ => rfl) fun f cdv A outer s H E hr =>
  (dss_cons (ds_if (dw_pt (dw_or (dt_not (dt_truth (de_callO G_has_query_form (hr.mono (by decide)) (by rfl) (fun σ => passAt (takes_of rfl rfl rfl rfl) σ) (da_cons (de_var 0 (pv 0)) da_nil)))) (dw_or1 (dt_not (dt_truth (de_callO G_are_query_names (hr.mono (by decide)) (by rfl) (fun σ => passAt (takes_of rfl rfl rfl rfl) σ) (da_cons (de_callO G_names_of (hr.mono (by decide)) (by rfl) (fun σ => passAt (takes_of rfl rfl rfl rfl) σ) (da_cons (de_var 0 (pv 0)) da_nil)) (da_cons (de_var 2 (pv 2)) da_nil)))))))) (dss_one (ds_raise rfl (takes_of rfl rfl rfl rfl) R_InvalidQuery (hr.mono (by decide)) (by rfl) (de_var 1 (pv 1)))) dss_nil)
  (dss_one (ds_if (dt_cmp (c_eq hr) (de_ix hr (de_var 0 (pv 0)) de_int (fun _ _ => rfl)) de_str (nomark _)) (dss_one (ds_expr (de_callO G_check_fraction (hr.mono (by decide)) (by rfl) (fun σ => passAt (takes_of rfl rfl rfl rfl) σ) (da_cons (de_ix hr (de_var 0 (pv 0)) de_int (fun _ _ => rfl)) da_nil)))) dss_nil)))

end
end Dd
/-! GD_check_queries -/
namespace Dd
open PySem PySem.Spec PyProof.Rows L2
section
variable {P : Program} {w : World} {K : PySem.W.Frag} {mg : Str → Option Value} {base : Heap}
theorem o_check_queries (AT : At K mg "check_queries" s_check_queries) (G_check_query : Ok P w K mg base 5 "check_query" 3 d_check_query) (G_item_names : Ok P w K mg base 1 "item_names" 1 d_item_names) (R_InvalidQuery : ErrOk P w K mg base 2 "InvalidQuery" ⟨"query", some "index", true⟩) (B : Blt mg) (C : Cst K w mg) : Ok P w K mg base 6 "check_queries" 2 d_check_queries :=
  okOf AT sc_check_queries rfl (by decide) (fun _ _ _ _ _ _ us hl => match us, hl with | [_, _], _ => rfl) fun f cdv A outer s H E hr =>
  (dss_cons (ds_if (dt_cmp c_gt (de_b br_len (by rfl) B.len_ (by decide +kernel) (da_cons (de_var 1 (pv 1)) da_nil)) (de_glob (v := .int 8) (by rfl) C.MAX_QUERIES_.choose_spec ⟨_, rfl⟩ (fun _ _ => .int _)) (nomark _)) (dss_one (ds_raise rfl (takes_of rfl rfl rfl rfl) R_InvalidQuery (hr.mono (by decide)) (by rfl) (de_glob (v := .int 8) (by rfl) C.MAX_QUERIES_.choose_spec ⟨_, rfl⟩ (fun _ _ => .int _)))) dss_nil)
  (dss_cons (ds_set (i := 2) sc_check_queries.nd rfl (by first | exact Or.inl rfl | exact Or.inr rfl) (de_callO G_item_names (hr.mono (by decide)) (by rfl) (fun σ => passAt (takes_of rfl rfl rfl rfl) σ) (da_cons (de_var 0 (pv 0)) da_nil)))
  (dss_one (ds_for (t := (.tp [3, 4])) (passes_of rfl) rfl (di_enum (by rfl) B.enumerate_ (de_var 1 (pv 1))) (pg_tup rfl (pgs_cons (pg_name (i := 3) sc_check_queries.nd rfl (by first | exact Or.inl rfl | exact Or.inr rfl)) (pgs_cons (pg_name (i := 4) sc_check_queries.nd rfl (by first | exact Or.inl rfl | exact Or.inr rfl)) pgs_nil))) (dss_one (ds_expr (de_callO G_check_query (hr.mono (by decide)) (by rfl) (fun σ => passAt (takes_of rfl rfl rfl rfl) σ) (da_cons (de_var 4 (pv 4)) (da_cons (de_var 3 (pv 3)) (da_cons (de_var 2 (pv 2)) da_nil))))))))))

end
end Dd
/-! GD_check_price -/
namespace Dd
open PySem PySem.Spec PyProof.Rows L2
section
variable {P : Program} {w : World} {K : PySem.W.Frag} {mg : Str → Option Value} {base : Heap}
theorem o_check_price (AT : At K mg "check_price" s_check_price) (R_InvalidPrice : ErrOk P w K mg base 2 "InvalidPrice" ⟨"price", some "name", false⟩) (C : Cst K w mg) : Ok P w K mg base 4 "check_price" 2 d_check_price :=
  okOf AT sc_check_price rfl (by decide) (fun _ _ _ _ _ _ us hl => match us, hl with | [_, _], _ => rfl) fun f cdv A outer s H E hr =>
  (dss_one (ds_if (dt_not (dt_chain c_le c_le de_int (de_var 1 (pv 1)) (de_glob (v := .int 1000) (by rfl) C.MAX_PRICE_.choose_spec ⟨_, rfl⟩ (fun _ _ => .int _)))) (dss_one (ds_raise rfl (takes_of rfl rfl rfl rfl) R_InvalidPrice (hr.mono (by decide)) (by rfl) (de_var 0 (pv 0)))) dss_nil))

end
end Dd
/-! GD_check_prices -/
namespace Dd
open PySem PySem.Spec PyProof.Rows L2
section
variable {P : Program} {w : World} {K : PySem.W.Frag} {mg : Str → Option Value} {base : Heap}
theorem o_check_prices (AT : At K mg "check_prices" s_check_prices) (G_check_price : Ok P w K mg base 4 "check_price" 2 d_check_price) (G_item_names : Ok P w K mg base 1 "item_names" 1 d_item_names) (B : Blt mg) : Ok P w K mg base 5 "check_prices" 2 d_check_prices :=
  okOf AT sc_check_prices rfl (by decide) (fun _ _ _ _ _ _ us hl => match us, hl with | [_, _], _ => rfl) fun f cdv A outer s H E hr =>
  (dss_cons (ds_if (dt_cmp c_isB (de_var 1 (pv 1)) de_non (nomark _)) (dss_one ds_retN) dss_nil)
  (dss_cons (ds_set (i := 2) sc_check_prices.nd rfl (by first | exact Or.inl rfl | exact Or.inr rfl) (de_callO G_item_names (hr.mono (by decide)) (by rfl) (fun σ => passAt (takes_of rfl rfl rfl rfl) σ) (da_cons (de_var 0 (pv 0)) da_nil)))
  (dss_one (ds_for (t := (.nm 3)) (passes_of rfl) rfl (di_seq (de_b (br_sorted2 rfl hr) (by rfl) B.sorted_ (by decide +kernel) (da_cons (de_var 1 (pv 1)) da_nil))) (pg_name (i := 3) sc_check_prices.nd rfl (by first | exact Or.inl rfl | exact Or.inr rfl)) (dss_cons (ds_if (dt_cmp (c_notIn hr) (de_var 3 (pv 3)) (de_var 2 (pv 2)) (by rfl)) (dss_one ds_fail) dss_nil)
  (dss_one (ds_expr (de_callO G_check_price (hr.mono (by decide)) (by rfl) (fun σ => passAt (takes_of rfl rfl rfl rfl) σ) (da_cons (de_var 3 (pv 3)) (da_cons (de_ix hr (de_var 1 (pv 1)) (de_var 3 (pv 3)) (fun _ _ => rfl)) da_nil))))))))))

end
end Dd
/-! GD_check_problem -/
namespace Dd
open PySem PySem.Spec PyProof.Rows L2
section
variable {P : Program} {w : World} {K : PySem.W.Frag} {mg : Str → Option Value} {base : Heap}
theorem o_check_problem (G_check_intervals : Ok P w K mg base 5 "check_intervals" 1 d_check_intervals) (G_check_prices : Ok P w K mg base 5 "check_prices" 2 d_check_prices) (G_check_queries : Ok P w K mg base 6 "check_queries" 2 d_check_queries) : ∀ (f : Addr) (cdv : Value) (A : Around) (outer : List Env) (s : Shared) (H : Hp) (E : XK), Room 6 (A.deeper (envOfC "check_problem" (defScope s_check_problem) s.heap.objs.size f cdv)) → DSs (cxOf (L2.CX P w) P w K mg base ["intervals", "queries", "prices"] "check_problem" (defScope s_check_problem) f cdv A outer s H E) E (defBody s_check_problem) u_check_problem :=
  fun f cdv A outer s H E hr =>
  (dss_cons (ds_expr (de_callO G_check_intervals (hr.mono (by decide)) (by rfl) (fun σ => passAt (takes_of rfl rfl rfl rfl) σ) (da_cons (de_var 0 (pv 0)) da_nil)))
  (dss_cons (ds_expr (de_callO G_check_queries (hr.mono (by decide)) (by rfl) (fun σ => passAt (takes_of rfl rfl rfl rfl) σ) (da_cons (de_var 0 (pv 0)) (da_cons (de_var 1 (pv 1)) da_nil))))
  (dss_one (ds_expr (de_callO G_check_prices (hr.mono (by decide)) (by rfl) (fun σ => passAt (takes_of rfl rfl rfl rfl) σ) (da_cons (de_var 0 (pv 0)) (da_cons (de_var 2 (pv 2)) da_nil)))))))

end
end Dd
/-! GD_asked_rows -/
namespace Dd
open PySem PySem.Spec PyProof.Rows L2
section
variable {P : Program} {w : World} {K : PySem.W.Frag} {mg : Str → Option Value} {base : Heap}
theorem o_asked_rows (AT : At K mg "asked_rows" s_asked_rows) (G_names_of : Ok P w K mg base 1 "names_of" 1 d_names_of) : Ok P w K mg base 2 "asked_rows" 2 d_asked_rows :=
  okOf AT sc_asked_rows rfl (by decide) (fun _ _ _ _ _ _ us hl => match us, hl with | [_, _], _ => rfl) fun f cdv A outer s H E hr =>
  (dss_cons (ds_set (i := 2) sc_asked_rows.nd rfl (by first | exact Or.inl rfl | exact Or.inr rfl) (de_callO G_names_of (hr.mono (by decide)) (by rfl) (fun σ => passAt (takes_of rfl rfl rfl rfl) σ) (da_cons (de_var 1 (pv 1)) da_nil)))
  (dss_one (ds_ret (de_lc (own := [("row", 3)]) (t := (.nm 3)) rfl sc_asked_rows.nd (di_seq (de_var 0 (pv 0))) (blkOk_by (by kernel_rfl)) rfl (fun _ _ _ _ _ => (pg_name (i := 3) sc_asked_rows.nd rfl (by first | exact Or.inl rfl | exact Or.inr rfl))) (fun _ _ _ _ _ => (dts_one (dt_cmp (c_in hr) (de_ix hr (de_var 3 (pv 3)) de_int (fun _ _ => rfl)) (de_var 2 (pv 2)) (by rfl)))) (fun _ _ _ _ _ => (de_var 3 (pv 3)))))))

end
end Dd
/-! GD_negated -/
namespace Dd
open PySem PySem.Spec PyProof.Rows L2
section
variable {P : Program} {w : World} {K : PySem.W.Frag} {mg : Str → Option Value} {base : Heap}
theorem o_negated (AT : At K mg "negated" s_negated)  : Ok P w K mg base 1 "negated" 1 d_negated :=
  okOf AT sc_negated rfl (by decide) (fun _ _ _ _ _ _ us hl => match us, hl with | [_], _ => rfl) fun f cdv A outer s H E hr =>
  (dss_one (ds_ret (de_tup (da_cons (de_neg (de_ix hr (de_var 0 (pv 0)) de_int (fun _ _ => rfl))) (da_cons (de_ix hr (de_var 0 (pv 0)) de_int (fun _ _ => rfl)) da_nil)))))

end
end Dd
/-! GD_mirrored -/
namespace Dd
open PySem PySem.Spec PyProof.Rows L2
section
variable {P : Program} {w : World} {K : PySem.W.Frag} {mg : Str → Option Value} {base : Heap}
theorem o_mirrored (AT : At K mg "mirrored" s_mirrored) (G_negated : Ok P w K mg base 1 "negated" 1 d_negated) : Ok P w K mg base 2 "mirrored" 1 d_mirrored :=
  okOf AT sc_mirrored rfl (by decide) (fun _ _ _ _ _ _ us hl => match us, hl with | [_], _ => rfl) fun f cdv A outer s H E hr =>
  (dss_cons (ds_unp (t := (.tp [1, 2, 3])) (de_var 0 (pv 0)) (pg_tup rfl (pgs_cons (pg_name (i := 1) sc_mirrored.nd rfl (by first | exact Or.inl rfl | exact Or.inr rfl)) (pgs_cons (pg_name (i := 2) sc_mirrored.nd rfl (by first | exact Or.inl rfl | exact Or.inr rfl)) (pgs_cons (pg_name (i := 3) sc_mirrored.nd rfl (by first | exact Or.inl rfl | exact Or.inr rfl)) pgs_nil)))))
  (dss_one (ds_ret (de_tup (da_cons (de_var 1 (pv 1)) (da_cons (de_callO G_negated (hr.mono (by decide)) (by rfl) (fun σ => passAt (takes_of rfl rfl rfl rfl) σ) (da_cons (de_var 3 (pv 3)) da_nil)) (da_cons (de_callO G_negated (hr.mono (by decide)) (by rfl) (fun σ => passAt (takes_of rfl rfl rfl rfl) σ) (da_cons (de_var 2 (pv 2)) da_nil)) da_nil)))))))

end
end Dd
/-! GD_query_rows -/
namespace Dd
open PySem PySem.Spec PyProof.Rows L2
section
variable {P : Program} {w : World} {K : PySem.W.Frag} {mg : Str → Option Value} {base : Heap}
theorem o_query_rows (AT : At K mg "query_rows" s_query_rows) (G_asked_rows : Ok P w K mg base 2 "asked_rows" 2 d_asked_rows) (G_mirrored : Ok P w K mg base 2 "mirrored" 1 d_mirrored) : Ok P w K mg base 3 "query_rows" 2 d_query_rows :=
  okOf AT sc_query_rows rfl (by decide) (fun _ _ _ _ _ _ us hl => match us, hl with | [_, _], _ => rfl) fun f cdv A outer s H E hr =>
  (dss_cons (ds_set (i := 2) sc_query_rows.nd rfl (by first | exact Or.inl rfl | exact Or.inr rfl) (de_callO G_asked_rows (hr.mono (by decide)) (by rfl) (fun σ => passAt (takes_of rfl rfl rfl rfl) σ) (da_cons (de_var 0 (pv 0)) (da_cons (de_var 1 (pv 1)) da_nil))))
  (dss_cons (ds_if (dt_cmp (c_eq hr) (de_ix hr (de_var 1 (pv 1)) de_int (fun _ _ => rfl)) de_str (nomark _)) (dss_one (ds_ret (de_lc (own := [("row", 3)]) (t := (.nm 3)) rfl sc_query_rows.nd (di_seq (de_var 2 (pv 2))) (blkOk_by (by kernel_rfl)) rfl (fun _ _ _ _ _ => (pg_name (i := 3) sc_query_rows.nd rfl (by first | exact Or.inl rfl | exact Or.inr rfl))) (fun _ _ _ _ _ => dts_nil) (fun _ _ _ _ _ => (de_calmO G_mirrored (hr.mono (by decide)) (by rfl) (da_cons (de_var 3 (pv 3)) da_nil)))))) dss_nil)
  (dss_one (ds_ret (de_var 2 (pv 2))))))

end
end Dd
/-! GD_is_known -/
namespace Dd
open PySem PySem.Spec PyProof.Rows L2
section
variable {P : Program} {w : World} {K : PySem.W.Frag} {mg : Str → Option Value} {base : Heap}
theorem o_is_known (AT : At K mg "is_known" s_is_known)  : Ok P w K mg base 1 "is_known" 1 d_is_known :=
  okOf AT sc_is_known rfl (by decide) (fun _ _ _ _ _ _ us hl => match us, hl with | [_], _ => rfl) fun f cdv A outer s H E hr =>
  (dss_one (ds_ret (de_cmp (c_eq hr) (de_ix hr (de_var 0 (pv 0)) de_int (fun _ _ => rfl)) (de_ix hr (de_var 0 (pv 0)) de_int (fun _ _ => rfl)) (nomark _))))

end
end Dd
/-! GD_unknown_rows -/
namespace Dd
open PySem PySem.Spec PyProof.Rows L2
section
variable {P : Program} {w : World} {K : PySem.W.Frag} {mg : Str → Option Value} {base : Heap}
theorem o_unknown_rows (AT : At K mg "unknown_rows" s_unknown_rows) (G_is_known : Ok P w K mg base 1 "is_known" 1 d_is_known) : Ok P w K mg base 2 "unknown_rows" 1 d_unknown_rows :=
  okOf AT sc_unknown_rows rfl (by decide) (fun _ _ _ _ _ _ us hl => match us, hl with | [_], _ => rfl) fun f cdv A outer s H E hr =>
  (dss_one (ds_ret (de_lc (own := [("row", 1)]) (t := (.nm 1)) rfl sc_unknown_rows.nd (di_seq (de_var 0 (pv 0))) (blkOk_by (by kernel_rfl)) rfl (fun _ _ _ _ _ => (pg_name (i := 1) sc_unknown_rows.nd rfl (by first | exact Or.inl rfl | exact Or.inr rfl))) (fun _ _ _ _ _ => (dts_one (dt_not (dt_truth (de_calmO G_is_known (hr.mono (by decide)) (by rfl) (da_cons (de_var 1 (pv 1)) da_nil)))))) (fun _ _ _ _ _ => (de_var 1 (pv 1))))))

end
end Dd
/-! GD_lies_inside -/
namespace Dd
open PySem PySem.Spec PyProof.Rows L2
section
variable {P : Program} {w : World} {K : PySem.W.Frag} {mg : Str → Option Value} {base : Heap}
theorem o_lies_inside (AT : At K mg "lies_inside" s_lies_inside) (G_less : Ok P w K mg base 1 "less" 2 d_less) : Ok P w K mg base 2 "lies_inside" 2 d_lies_inside :=
  okOf AT sc_lies_inside rfl (by decide) (fun _ _ _ _ _ _ us hl => match us, hl with | [_, _], _ => rfl) fun f cdv A outer s H E hr =>
  (dss_one (ds_ret (de_and (de_callO G_less (hr.mono (by decide)) (by rfl) (fun σ => passAt (takes_of rfl rfl rfl rfl) σ) (da_cons (de_ix hr (de_var 1 (pv 1)) de_int (fun _ _ => rfl)) (da_cons (de_var 0 (pv 0)) da_nil))) (de_one (de_callO G_less (hr.mono (by decide)) (by rfl) (fun σ => passAt (takes_of rfl rfl rfl rfl) σ) (da_cons (de_var 0 (pv 0)) (da_cons (de_ix hr (de_var 1 (pv 1)) de_int (fun _ _ => rfl)) da_nil)))))))

end
end Dd
/-! GD_at_most -/
namespace Dd
open PySem PySem.Spec PyProof.Rows L2
section
variable {P : Program} {w : World} {K : PySem.W.Frag} {mg : Str → Option Value} {base : Heap}
theorem o_at_most (AT : At K mg "at_most" s_at_most) (G_less : Ok P w K mg base 1 "less" 2 d_less) : Ok P w K mg base 2 "at_most" 2 d_at_most :=
  okOf AT sc_at_most rfl (by decide) (fun _ _ _ _ _ _ us hl => match us, hl with | [_, _], _ => rfl) fun f cdv A outer s H E hr =>
  (dss_one (ds_ret (de_not (de_callO G_less (hr.mono (by decide)) (by rfl) (fun σ => passAt (takes_of rfl rfl rfl rfl) σ) (da_cons (de_var 1 (pv 1)) (da_cons (de_var 0 (pv 0)) da_nil))))))

end
end Dd
/-! GD_lies_within -/
namespace Dd
open PySem PySem.Spec PyProof.Rows L2
section
variable {P : Program} {w : World} {K : PySem.W.Frag} {mg : Str → Option Value} {base : Heap}
theorem o_lies_within (AT : At K mg "lies_within" s_lies_within) (G_at_most : Ok P w K mg base 2 "at_most" 2 d_at_most) (G_is_known : Ok P w K mg base 1 "is_known" 1 d_is_known) (G_lies_inside : Ok P w K mg base 2 "lies_inside" 2 d_lies_inside) : Ok P w K mg base 3 "lies_within" 2 d_lies_within :=
  okOf AT sc_lies_within rfl (by decide) (fun _ _ _ _ _ _ us hl => match us, hl with | [_, _], _ => rfl) fun f cdv A outer s H E hr =>
  (dss_cons (ds_if (dt_truth (de_callO G_is_known (hr.mono (by decide)) (by rfl) (fun σ => passAt (takes_of rfl rfl rfl rfl) σ) (da_cons (de_var 0 (pv 0)) da_nil))) (dss_one (ds_ret (de_callO G_lies_inside (hr.mono (by decide)) (by rfl) (fun σ => passAt (takes_of rfl rfl rfl rfl) σ) (da_cons (de_ix hr (de_var 0 (pv 0)) de_int (fun _ _ => rfl)) (da_cons (de_var 1 (pv 1)) da_nil))))) dss_nil)
  (dss_one (ds_ret (de_and (de_callO G_at_most (hr.mono (by decide)) (by rfl) (fun σ => passAt (takes_of rfl rfl rfl rfl) σ) (da_cons (de_ix hr (de_var 1 (pv 1)) de_int (fun _ _ => rfl)) (da_cons (de_ix hr (de_var 0 (pv 0)) de_int (fun _ _ => rfl)) da_nil))) (de_one (de_callO G_at_most (hr.mono (by decide)) (by rfl) (fun σ => passAt (takes_of rfl rfl rfl rfl) σ) (da_cons (de_ix hr (de_var 0 (pv 0)) de_int (fun _ _ => rfl)) (da_cons (de_ix hr (de_var 1 (pv 1)) de_int (fun _ _ => rfl)) da_nil))))))))

end
end Dd
/-! GD_sort_required -/
namespace Dd
open PySem PySem.Spec PyProof.Rows L2
section
variable {P : Program} {w : World} {K : PySem.W.Frag} {mg : Str → Option Value} {base : Heap}
theorem o_sort_required (AT : At K mg "sort_required" s_sort_required) (G_lies_within : Ok P w K mg base 3 "lies_within" 2 d_lies_within) (G_unknown_rows : Ok P w K mg base 2 "unknown_rows" 1 d_unknown_rows) (B : Blt mg) : Ok P w K mg base 4 "sort_required" 1 d_sort_required :=
  okOf AT sc_sort_required rfl (by decide) (fun _ _ _ _ _ _ us hl => match us, hl with | [_], _ => rfl) fun f cdv A outer s H E hr =>
  (dss_one (ds_ret (de_lc (own := [("row", 1)]) (t := (.nm 1)) rfl sc_sort_required.nd (di_seq (de_callO G_unknown_rows (hr.mono (by decide)) (by rfl) (fun σ => passAt (takes_of rfl rfl rfl rfl) σ) (da_cons (de_var 0 (pv 0)) da_nil))) (blkOk_by (by kernel_rfl)) rfl (fun _ _ _ _ _ => (pg_name (i := 1) sc_sort_required.nd rfl (by first | exact Or.inl rfl | exact Or.inr rfl))) (fun _ _ _ _ _ => (dts_one (dt_truth (de_b (br_any rfl) (by rfl) B.any_ (by decide +kernel) (da_cons (de_lc (own := [("other", 2)]) (t := (.nm 2)) rfl sc_sort_required.nd (di_seq (de_var 0 (pv 0))) (blkOk_by (by kernel_rfl)) rfl (fun _ _ _ _ _ => (pg_name (i := 2) sc_sort_required.nd rfl (by first | exact Or.inl rfl | exact Or.inr rfl))) (fun _ _ _ _ _ => (dts_one (dt_cmp (c_ne hr) (de_ix hr (de_var 2 (pv 2)) de_int (fun _ _ => rfl)) (de_ix hr (de_var 1 (pv 1)) de_int (fun _ _ => rfl)) (nomark _)))) (fun _ _ _ _ _ => (de_calmO G_lies_within (hr.mono (by decide)) (by rfl) (da_cons (de_var 2 (pv 2)) (da_cons (de_var 1 (pv 1)) da_nil))))) da_nil))))) (fun _ _ _ _ _ => (de_var 1 (pv 1))))))

end
end Dd
/-! GD_keeps_from_frontier -/
namespace Dd
open PySem PySem.Spec PyProof.Rows L2
section
variable {P : Program} {w : World} {K : PySem.W.Frag} {mg : Str → Option Value} {base : Heap}
theorem o_keeps_from_frontier (AT : At K mg "keeps_from_frontier" s_keeps_from_frontier) (G_at_most : Ok P w K mg base 2 "at_most" 2 d_at_most) (G_is_known : Ok P w K mg base 1 "is_known" 1 d_is_known) (G_less : Ok P w K mg base 1 "less" 2 d_less) : Ok P w K mg base 3 "keeps_from_frontier" 2 d_keeps_from_frontier :=
  okOf AT sc_keeps_from_frontier rfl (by decide) (fun _ _ _ _ _ _ us hl => match us, hl with | [_, _], _ => rfl) fun f cdv A outer s H E hr =>
  (dss_cons (ds_if (dt_truth (de_callO G_is_known (hr.mono (by decide)) (by rfl) (fun σ => passAt (takes_of rfl rfl rfl rfl) σ) (da_cons (de_var 0 (pv 0)) da_nil))) (dss_one (ds_ret (de_callO G_at_most (hr.mono (by decide)) (by rfl) (fun σ => passAt (takes_of rfl rfl rfl rfl) σ) (da_cons (de_ix hr (de_var 0 (pv 0)) de_int (fun _ _ => rfl)) (da_cons (de_ix hr (de_var 1 (pv 1)) de_int (fun _ _ => rfl)) da_nil))))) dss_nil)
  (dss_one (ds_ret (de_callO G_less (hr.mono (by decide)) (by rfl) (fun σ => passAt (takes_of rfl rfl rfl rfl) σ) (da_cons (de_ix hr (de_var 0 (pv 0)) de_int (fun _ _ => rfl)) (da_cons (de_ix hr (de_var 1 (pv 1)) de_int (fun _ _ => rfl)) da_nil))))))

end
end Dd
/-! GD_frontier -/
namespace Dd
open PySem PySem.Spec PyProof.Rows L2
section
variable {P : Program} {w : World} {K : PySem.W.Frag} {mg : Str → Option Value} {base : Heap}
theorem o_frontier (AT : At K mg "frontier" s_frontier) (G_keeps_from_frontier : Ok P w K mg base 3 "keeps_from_frontier" 2 d_keeps_from_frontier) (G_unknown_rows : Ok P w K mg base 2 "unknown_rows" 1 d_unknown_rows) (B : Blt mg) : Ok P w K mg base 4 "frontier" 1 d_frontier :=
  okOf AT sc_frontier rfl (by decide) (fun _ _ _ _ _ _ us hl => match us, hl with | [_], _ => rfl) fun f cdv A outer s H E hr =>
  (dss_one (ds_ret (de_lc (own := [("row", 1)]) (t := (.nm 1)) rfl sc_frontier.nd (di_seq (de_callO G_unknown_rows (hr.mono (by decide)) (by rfl) (fun σ => passAt (takes_of rfl rfl rfl rfl) σ) (da_cons (de_var 0 (pv 0)) da_nil))) (blkOk_by (by kernel_rfl)) rfl (fun _ _ _ _ _ => (pg_name (i := 1) sc_frontier.nd rfl (by first | exact Or.inl rfl | exact Or.inr rfl))) (fun _ _ _ _ _ => (dts_one (dt_not (dt_truth (de_b (br_any rfl) (by rfl) B.any_ (by decide +kernel) (da_cons (de_lc (own := [("other", 2)]) (t := (.nm 2)) rfl sc_frontier.nd (di_seq (de_var 0 (pv 0))) (blkOk_by (by kernel_rfl)) rfl (fun _ _ _ _ _ => (pg_name (i := 2) sc_frontier.nd rfl (by first | exact Or.inl rfl | exact Or.inr rfl))) (fun _ _ _ _ _ => dts_nil) (fun _ _ _ _ _ => (de_calmO G_keeps_from_frontier (hr.mono (by decide)) (by rfl) (da_cons (de_var 2 (pv 2)) (da_cons (de_var 1 (pv 1)) da_nil))))) da_nil)))))) (fun _ _ _ _ _ => (de_var 1 (pv 1))))))

end
end Dd
/-! GD_ends_below -/
namespace Dd
open PySem PySem.Spec PyProof.Rows L2
section
variable {P : Program} {w : World} {K : PySem.W.Frag} {mg : Str → Option Value} {base : Heap}
theorem o_ends_below (AT : At K mg "ends_below" s_ends_below) (G_at_most : Ok P w K mg base 2 "at_most" 2 d_at_most) (G_is_known : Ok P w K mg base 1 "is_known" 1 d_is_known) (G_less : Ok P w K mg base 1 "less" 2 d_less) : Ok P w K mg base 3 "ends_below" 2 d_ends_below :=
  okOf AT sc_ends_below rfl (by decide) (fun _ _ _ _ _ _ us hl => match us, hl with | [_, _], _ => rfl) fun f cdv A outer s H E hr =>
  (dss_cons (ds_if (dt_truth (de_callO G_is_known (hr.mono (by decide)) (by rfl) (fun σ => passAt (takes_of rfl rfl rfl rfl) σ) (da_cons (de_var 0 (pv 0)) da_nil))) (dss_one (ds_ret (de_callO G_less (hr.mono (by decide)) (by rfl) (fun σ => passAt (takes_of rfl rfl rfl rfl) σ) (da_cons (de_ix hr (de_var 0 (pv 0)) de_int (fun _ _ => rfl)) (da_cons (de_ix hr (de_var 1 (pv 1)) de_int (fun _ _ => rfl)) da_nil))))) dss_nil)
  (dss_one (ds_ret (de_callO G_at_most (hr.mono (by decide)) (by rfl) (fun σ => passAt (takes_of rfl rfl rfl rfl) σ) (da_cons (de_ix hr (de_var 0 (pv 0)) de_int (fun _ _ => rfl)) (da_cons (de_ix hr (de_var 1 (pv 1)) de_int (fun _ _ => rfl)) da_nil))))))

end
end Dd
/-! GD_min_required -/
namespace Dd
open PySem PySem.Spec PyProof.Rows L2
section
variable {P : Program} {w : World} {K : PySem.W.Frag} {mg : Str → Option Value} {base : Heap}
theorem o_min_required (AT : At K mg "min_required" s_min_required) (G_ends_below : Ok P w K mg base 3 "ends_below" 2 d_ends_below) (G_frontier : Ok P w K mg base 4 "frontier" 1 d_frontier) (B : Blt mg) : Ok P w K mg base 5 "min_required" 1 d_min_required :=
  okOf AT sc_min_required rfl (by decide) (fun _ _ _ _ _ _ us hl => match us, hl with | [_], _ => rfl) fun f cdv A outer s H E hr =>
  (dss_one (ds_ret (de_lc (own := [("row", 1)]) (t := (.nm 1)) rfl sc_min_required.nd (di_seq (de_callO G_frontier (hr.mono (by decide)) (by rfl) (fun σ => passAt (takes_of rfl rfl rfl rfl) σ) (da_cons (de_var 0 (pv 0)) da_nil))) (blkOk_by (by kernel_rfl)) rfl (fun _ _ _ _ _ => (pg_name (i := 1) sc_min_required.nd rfl (by first | exact Or.inl rfl | exact Or.inr rfl))) (fun _ _ _ _ _ => (dts_one (dt_truth (de_b (br_any rfl) (by rfl) B.any_ (by decide +kernel) (da_cons (de_lc (own := [("other", 2)]) (t := (.nm 2)) rfl sc_min_required.nd (di_seq (de_var 0 (pv 0))) (blkOk_by (by kernel_rfl)) rfl (fun _ _ _ _ _ => (pg_name (i := 2) sc_min_required.nd rfl (by first | exact Or.inl rfl | exact Or.inr rfl))) (fun _ _ _ _ _ => (dts_one (dt_cmp (c_ne hr) (de_ix hr (de_var 2 (pv 2)) de_int (fun _ _ => rfl)) (de_ix hr (de_var 1 (pv 1)) de_int (fun _ _ => rfl)) (nomark _)))) (fun _ _ _ _ _ => (de_calmO G_ends_below (hr.mono (by decide)) (by rfl) (da_cons (de_var 2 (pv 2)) (da_cons (de_var 1 (pv 1)) da_nil))))) da_nil))))) (fun _ _ _ _ _ => (de_var 1 (pv 1))))))

end
end Dd
/-! GD_required_names -/
namespace Dd
open PySem PySem.Spec PyProof.Rows L2
section
variable {P : Program} {w : World} {K : PySem.W.Frag} {mg : Str → Option Value} {base : Heap}
theorem o_required_names (AT : At K mg "required_names" s_required_names) (G_lies_inside : Ok P w K mg base 2 "lies_inside" 2 d_lies_inside) (G_min_required : Ok P w K mg base 5 "min_required" 1 d_min_required) (G_query_rows : Ok P w K mg base 3 "query_rows" 2 d_query_rows) (G_sort_required : Ok P w K mg base 4 "sort_required" 1 d_sort_required) : Ok P w K mg base 6 "required_names" 2 d_required_names :=
  okOf AT sc_required_names rfl (by decide) (fun _ _ _ _ _ _ us hl => match us, hl with | [_, _], _ => rfl) fun f cdv A outer s H E hr =>
  (dss_cons (ds_set (i := 2) sc_required_names.nd rfl (by first | exact Or.inl rfl | exact Or.inr rfl) (de_callO G_query_rows (hr.mono (by decide)) (by rfl) (fun σ => passAt (takes_of rfl rfl rfl rfl) σ) (da_cons (de_var 0 (pv 0)) (da_cons (de_var 1 (pv 1)) da_nil))))
  (dss_cons (ds_if (dt_cmp (c_eq hr) (de_ix hr (de_var 1 (pv 1)) de_int (fun _ _ => rfl)) de_str (nomark _)) (dss_one (ds_ret (de_lc (own := [("row", 3)]) (t := (.nm 3)) rfl sc_required_names.nd (di_seq (de_var 2 (pv 2))) (blkOk_by (by kernel_rfl)) rfl (fun _ _ _ _ _ => (pg_name (i := 3) sc_required_names.nd rfl (by first | exact Or.inl rfl | exact Or.inr rfl))) (fun _ _ _ _ _ => (dts_one (dt_truth (de_calmO G_lies_inside (hr.mono (by decide)) (by rfl) (da_cons (de_ix hr (de_var 1 (pv 1)) de_int (fun _ _ => rfl)) (da_cons (de_var 3 (pv 3)) da_nil)))))) (fun _ _ _ _ _ => (de_ix hr (de_var 3 (pv 3)) de_int (fun _ _ => rfl)))))) dss_nil)
  (dss_cons (ds_if (dt_cmp (c_in hr) (de_ix hr (de_var 1 (pv 1)) de_int (fun _ _ => rfl)) (de_tup (da_cons de_str (da_cons de_str da_nil))) (by rfl)) (dss_one (ds_ret (de_lc (own := [("row", 3)]) (t := (.nm 3)) rfl sc_required_names.nd (di_seq (de_callO G_min_required (hr.mono (by decide)) (by rfl) (fun σ => passAt (takes_of rfl rfl rfl rfl) σ) (da_cons (de_var 2 (pv 2)) da_nil))) (blkOk_by (by kernel_rfl)) rfl (fun _ _ _ _ _ => (pg_name (i := 3) sc_required_names.nd rfl (by first | exact Or.inl rfl | exact Or.inr rfl))) (fun _ _ _ _ _ => dts_nil) (fun _ _ _ _ _ => (de_ix hr (de_var 3 (pv 3)) de_int (fun _ _ => rfl)))))) dss_nil)
  (dss_one (ds_ret (de_lc (own := [("row", 3)]) (t := (.nm 3)) rfl sc_required_names.nd (di_seq (de_callO G_sort_required (hr.mono (by decide)) (by rfl) (fun σ => passAt (takes_of rfl rfl rfl rfl) σ) (da_cons (de_var 2 (pv 2)) da_nil))) (blkOk_by (by kernel_rfl)) rfl (fun _ _ _ _ _ => (pg_name (i := 3) sc_required_names.nd rfl (by first | exact Or.inl rfl | exact Or.inr rfl))) (fun _ _ _ _ _ => dts_nil) (fun _ _ _ _ _ => (de_ix hr (de_var 3 (pv 3)) de_int (fun _ _ => rfl)))))))))

end
end Dd
/-! GD_required_items -/
namespace Dd
open PySem PySem.Spec PyProof.Rows L2
section
variable {P : Program} {w : World} {K : PySem.W.Frag} {mg : Str → Option Value} {base : Heap}
theorem o_required_items (AT : At K mg "required_items" s_required_items) (G_required_names : Ok P w K mg base 6 "required_names" 2 d_required_names) (G_check_problem_2 : OkD P w K mg base 7 "check_problem" 3 [V.non] [PyData.none] d_check_problem) : Ok P w K mg base 8 "required_items" 2 d_required_items :=
  okOf AT sc_required_items rfl (by decide) (fun _ _ _ _ _ _ us hl => match us, hl with | [_, _], _ => rfl) fun f cdv A outer s H E hr =>
  (dss_cons (ds_expr (de_callD G_check_problem_2 (hr.mono (by decide)) (by rfl) (fun σ => passAt (takes_of rfl rfl rfl rfl) σ) (da_cons (de_var 0 (pv 0)) (da_cons (de_lst (da_cons (de_var 1 (pv 1)) da_nil)) da_nil))))
  (dss_one (ds_ret (de_callO G_required_names (hr.mono (by decide)) (by rfl) (fun σ => passAt (takes_of rfl rfl rfl rfl) σ) (da_cons (de_var 0 (pv 0)) (da_cons (de_var 1 (pv 1)) da_nil))))))

end
end Dd
/-! GD__law_items -/
namespace Dd
open PySem PySem.Spec PyProof.Rows L2
section
variable {P : Program} {w : World} {K : PySem.W.Frag} {mg : Str → Option Value} {base : Heap}
theorem o__law_items (AT : At K mg "_law_items" s__law_items)  (B : Blt mg) : Ok P w K mg base 1 "_law_items" 1 d__law_items :=
  okOf AT sc__law_items rfl (by decide) (fun _ _ _ _ _ _ us hl => match us, hl with | [_], _ => rfl) fun f cdv A outer s H E hr =>
  (dss_one (ds_ret (de_if (dt_cmp (c_eq hr) (de_ix hr (de_var 0 (pv 0)) de_int (fun _ _ => rfl)) de_str (nomark _)) (de_lst (da_cons (de_ix hr (de_var 0 (pv 0)) de_int (fun _ _ => rfl)) (da_cons (de_ix hr (de_var 0 (pv 0)) de_int (fun _ _ => rfl)) da_nil))) (de_bty (br_list rfl) (by rfl) B.list_ (by decide +kernel) (da_cons (de_ix hr (de_var 0 (pv 0)) de_int (fun _ _ => rfl)) da_nil)))))

end
end Dd
/-! GD__law_is_known -/
namespace Dd
open PySem PySem.Spec PyProof.Rows L2
section
variable {P : Program} {w : World} {K : PySem.W.Frag} {mg : Str → Option Value} {base : Heap}
theorem o__law_is_known (AT : At K mg "_law_is_known" s__law_is_known)  : Ok P w K mg base 1 "_law_is_known" 1 d__law_is_known :=
  okOf AT sc__law_is_known rfl (by decide) (fun _ _ _ _ _ _ us hl => match us, hl with | [_], _ => rfl) fun f cdv A outer s H E hr =>
  (dss_one (ds_ret (de_cmp (c_eq hr) (de_ix hr (de_var 0 (pv 0)) de_int (fun _ _ => rfl)) (de_ix hr (de_var 0 (pv 0)) de_int (fun _ _ => rfl)) (nomark _))))

end
end Dd
/-! GD__law_unknown -/
namespace Dd
open PySem PySem.Spec PyProof.Rows L2
section
variable {P : Program} {w : World} {K : PySem.W.Frag} {mg : Str → Option Value} {base : Heap}
theorem o__law_unknown (AT : At K mg "_law_unknown" s__law_unknown) (G__law_is_known : Ok P w K mg base 1 "_law_is_known" 1 d__law_is_known) (B : Blt mg) : Ok P w K mg base 2 "_law_unknown" 2 d__law_unknown :=
  okOf AT sc__law_unknown rfl (by decide) (fun _ _ _ _ _ _ us hl => match us, hl with | [_, _], _ => rfl) fun f cdv A outer s H E hr =>
  (dss_one (ds_ret (de_lc (own := [("_law_name", 2)]) (t := (.nm 2)) rfl sc__law_unknown.nd (di_seq (de_b (br_sorted2 rfl hr) (by rfl) B.sorted_ (by decide +kernel) (da_cons (de_var 1 (pv 1)) da_nil))) (blkOk_by (by kernel_rfl)) rfl (fun _ _ _ _ _ => (pg_name (i := 2) sc__law_unknown.nd rfl (by first | exact Or.inl rfl | exact Or.inr rfl))) (fun _ _ _ _ _ => (dts_one (dt_not (dt_truth (de_calmO G__law_is_known (hr.mono (by decide)) (by rfl) (da_cons (de_ix hr (de_var 0 (pv 0)) (de_var 2 (pv 2)) (fun _ _ => rfl)) da_nil)))))) (fun _ _ _ _ _ => (de_var 2 (pv 2))))))

end
end Dd
/-! GD__law_at_most -/
namespace Dd
open PySem PySem.Spec PyProof.Rows L2
section
variable {P : Program} {w : World} {K : PySem.W.Frag} {mg : Str → Option Value} {base : Heap}
theorem o__law_at_most (AT : At K mg "_law_at_most" s__law_at_most) (G__law_less : Ok P w K mg base 1 "_law_less" 2 d__law_less) : Ok P w K mg base 2 "_law_at_most" 2 d__law_at_most :=
  okOf AT sc__law_at_most rfl (by decide) (fun _ _ _ _ _ _ us hl => match us, hl with | [_, _], _ => rfl) fun f cdv A outer s H E hr =>
  (dss_one (ds_ret (de_not (de_callO G__law_less (hr.mono (by decide)) (by rfl) (fun σ => passAt (takes_of rfl rfl rfl rfl) σ) (da_cons (de_var 1 (pv 1)) (da_cons (de_var 0 (pv 0)) da_nil))))))

end
end Dd
/-! GD__law_frontier -/
namespace Dd
open PySem PySem.Spec PyProof.Rows L2
section
variable {P : Program} {w : World} {K : PySem.W.Frag} {mg : Str → Option Value} {base : Heap}
theorem o__law_frontier (AT : At K mg "_law_frontier" s__law_frontier) (G__law_at_most : Ok P w K mg base 2 "_law_at_most" 2 d__law_at_most) (G__law_is_known : Ok P w K mg base 1 "_law_is_known" 1 d__law_is_known) (G__law_unknown : Ok P w K mg base 2 "_law_unknown" 2 d__law_unknown) (B : Blt mg) : Ok P w K mg base 3 "_law_frontier" 2 d__law_frontier :=
  okOf AT sc__law_frontier rfl (by decide) (fun _ _ _ _ _ _ us hl => match us, hl with | [_, _], _ => rfl) fun f cdv A outer s H E hr =>
  (dss_cons (ds_set (i := 2) sc__law_frontier.nd rfl (by first | exact Or.inl rfl | exact Or.inr rfl) (de_callO G__law_unknown (hr.mono (by decide)) (by rfl) (fun σ => passAt (takes_of rfl rfl rfl rfl) σ) (da_cons (de_var 0 (pv 0)) (da_cons (de_var 1 (pv 1)) da_nil))))
  (dss_cons (ds_setL (i := 3) sc__law_frontier.nd rfl (by first | exact Or.inl rfl | exact Or.inr rfl) da_nil)
  (dss_cons (ds_for (t := (.nm 4)) (passes_of rfl) rfl (di_seq (de_var 2 (pv 2))) (pg_name (i := 4) sc__law_frontier.nd rfl (by first | exact Or.inl rfl | exact Or.inr rfl)) (dss_cons (ds_set (i := 5) sc__law_frontier.nd rfl (by first | exact Or.inl rfl | exact Or.inr rfl) (de_ix hr (de_ix hr (de_var 0 (pv 0)) (de_var 4 (pv 4)) (fun _ _ => rfl)) de_int (fun _ _ => rfl)))
  (dss_one (ds_if (dt_truth (de_b (br_all rfl) (by rfl) B.all_ (by decide +kernel) (da_cons (de_lc (own := [("_law_other", 7)]) (t := (.nm 7)) rfl sc__law_frontier.nd (di_seq (de_var 2 (pv 2))) (blkOk_by (by kernel_rfl)) rfl (fun _ _ _ _ _ => (pg_name (i := 7) sc__law_frontier.nd rfl (by first | exact Or.inl rfl | exact Or.inr rfl))) (fun _ _ _ _ _ => dts_nil) (fun _ _ _ _ _ => (de_calmO G__law_at_most (hr.mono (by decide)) (by rfl) (da_cons (de_var 5 (pv 5)) (da_cons (de_ix hr (de_ix hr (de_var 0 (pv 0)) (de_var 7 (pv 7)) (fun _ _ => rfl)) de_int (fun _ _ => rfl)) da_nil))))) da_nil))) (dss_cons (ds_setLc (i := 6) (own := [("_law_other", 7)]) (t := (.nm 7)) rfl sc__law_frontier.nd rfl rfl (sw_true rfl rfl rfl (by decide +kernel)) (di_seq (de_var 1 (pv 1))) (blkOk_by (by kernel_rfl)) rfl (fun _ _ _ _ _ => (pg_name (i := 7) sc__law_frontier.nd rfl (by first | exact Or.inl rfl | exact Or.inr rfl))) (fun _ _ _ _ _ => (dts_one (dt_truth (de_calmO G__law_is_known (hr.mono (by decide)) (by rfl) (da_cons (de_ix hr (de_var 0 (pv 0)) (de_var 7 (pv 7)) (fun _ _ => rfl)) da_nil))))) (fun _ _ _ _ _ => (de_var 7 (pv 7))))
  (dss_one (ds_if (dt_not (dt_truth (de_b (br_any rfl) (by rfl) B.any_ (by decide +kernel) (da_cons (de_lc (own := [("_law_other", 7)]) (t := (.nm 7)) rfl sc__law_frontier.nd (di_seq (de_var 6 (pv 6))) (blkOk_by (by kernel_rfl)) rfl (fun _ _ _ _ _ => (pg_name (i := 7) sc__law_frontier.nd rfl (by first | exact Or.inl rfl | exact Or.inr rfl))) (fun _ _ _ _ _ => dts_nil) (fun _ _ _ _ _ => (de_calmO G__law_at_most (hr.mono (by decide)) (by rfl) (da_cons (de_ix hr (de_ix hr (de_var 0 (pv 0)) (de_var 7 (pv 7)) (fun _ _ => rfl)) de_int (fun _ _ => rfl)) (da_cons (de_var 5 (pv 5)) da_nil))))) da_nil)))) (dss_one (ds_append 3 (pv 3) (de_var 4 (pv 4)))) dss_nil))) dss_nil))))
  (dss_one (ds_retO 3 (pv 3))))))

end
end Dd
/-! GD__law_negated -/
namespace Dd
open PySem PySem.Spec PyProof.Rows L2
section
variable {P : Program} {w : World} {K : PySem.W.Frag} {mg : Str → Option Value} {base : Heap}
theorem o__law_negated (AT : At K mg "_law_negated" s__law_negated)  : Ok P w K mg base 1 "_law_negated" 1 d__law_negated :=
  okOf AT sc__law_negated rfl (by decide) (fun _ _ _ _ _ _ us hl => match us, hl with | [_], _ => rfl) fun f cdv A outer s H E hr =>
  (dss_one (ds_ret (de_tup (da_cons (de_tup (da_cons (de_sub de_int (de_ix hr (de_ix hr (de_var 0 (pv 0)) de_int (fun _ _ => rfl)) de_int (fun _ _ => rfl))) (da_cons (de_ix hr (de_ix hr (de_var 0 (pv 0)) de_int (fun _ _ => rfl)) de_int (fun _ _ => rfl)) da_nil))) (da_cons (de_tup (da_cons (de_sub de_int (de_ix hr (de_ix hr (de_var 0 (pv 0)) de_int (fun _ _ => rfl)) de_int (fun _ _ => rfl))) (da_cons (de_ix hr (de_ix hr (de_var 0 (pv 0)) de_int (fun _ _ => rfl)) de_int (fun _ _ => rfl)) da_nil))) da_nil)))))

end
end Dd
/-! GD__law_mirrored -/
namespace Dd
open PySem PySem.Spec PyProof.Rows L2
section
variable {P : Program} {w : World} {K : PySem.W.Frag} {mg : Str → Option Value} {base : Heap}
theorem o__law_mirrored (AT : At K mg "_law_mirrored" s__law_mirrored) (G__law_negated : Ok P w K mg base 1 "_law_negated" 1 d__law_negated) (B : Blt mg) : Ok P w K mg base 2 "_law_mirrored" 1 d__law_mirrored :=
  okOf AT sc__law_mirrored rfl (by decide) (fun _ _ _ _ _ _ us hl => match us, hl with | [_], _ => rfl) fun f cdv A outer s H E hr =>
  (dss_one (ds_ret (de_bty (br_dict rfl) (by rfl) B.dict_ (by decide +kernel) (da_cons (de_lcK (own := [("_law_name", 1)]) (t := (.nm 1)) 0 rfl sc__law_mirrored.nd (pv 0) (blkOk_by (by kernel_rfl)) rfl (fun _ _ _ _ _ => (pg_name (i := 1) sc__law_mirrored.nd rfl (by first | exact Or.inl rfl | exact Or.inr rfl))) (fun _ _ _ _ _ => dts_nil) (fun _ _ _ _ _ => (de_tup (da_cons (de_var 1 (pv 1)) (da_cons (de_calmO G__law_negated (hr.mono (by decide)) (by rfl) (da_cons (de_ix hr (de_var 0 (pv 0)) (de_var 1 (pv 1)) (fun _ _ => rfl)) da_nil)) da_nil))))) da_nil))))

end
end Dd
/-! GD__law_inside -/
namespace Dd
open PySem PySem.Spec PyProof.Rows L2
section
variable {P : Program} {w : World} {K : PySem.W.Frag} {mg : Str → Option Value} {base : Heap}
theorem o__law_inside (AT : At K mg "_law_inside" s__law_inside) (G__law_less : Ok P w K mg base 1 "_law_less" 2 d__law_less) : Ok P w K mg base 2 "_law_inside" 3 d__law_inside :=
  okOf AT sc__law_inside rfl (by decide) (fun _ _ _ _ _ _ us hl => match us, hl with | [_, _, _], _ => rfl) fun f cdv A outer s H E hr =>
  (dss_one (ds_ret (de_and (de_callO G__law_less (hr.mono (by decide)) (by rfl) (fun σ => passAt (takes_of rfl rfl rfl rfl) σ) (da_cons (de_var 1 (pv 1)) (da_cons (de_var 0 (pv 0)) da_nil))) (de_one (de_callO G__law_less (hr.mono (by decide)) (by rfl) (fun σ => passAt (takes_of rfl rfl rfl rfl) σ) (da_cons (de_var 0 (pv 0)) (da_cons (de_var 2 (pv 2)) da_nil)))))))

end
end Dd
/-! GD__law_blocks -/
namespace Dd
open PySem PySem.Spec PyProof.Rows L2
section
variable {P : Program} {w : World} {K : PySem.W.Frag} {mg : Str → Option Value} {base : Heap}
theorem o__law_blocks (AT : At K mg "_law_blocks" s__law_blocks) (G__law_at_most : Ok P w K mg base 2 "_law_at_most" 2 d__law_at_most) (G__law_is_known : Ok P w K mg base 1 "_law_is_known" 1 d__law_is_known) (G__law_less : Ok P w K mg base 1 "_law_less" 2 d__law_less) : Ok P w K mg base 3 "_law_blocks" 2 d__law_blocks :=
  okOf AT sc__law_blocks rfl (by decide) (fun _ _ _ _ _ _ us hl => match us, hl with | [_, _], _ => rfl) fun f cdv A outer s H E hr =>
  (dss_cons (ds_if (dt_truth (de_callO G__law_is_known (hr.mono (by decide)) (by rfl) (fun σ => passAt (takes_of rfl rfl rfl rfl) σ) (da_cons (de_var 1 (pv 1)) da_nil))) (dss_one (ds_ret (de_callO G__law_less (hr.mono (by decide)) (by rfl) (fun σ => passAt (takes_of rfl rfl rfl rfl) σ) (da_cons (de_ix hr (de_var 1 (pv 1)) de_int (fun _ _ => rfl)) (da_cons (de_ix hr (de_var 0 (pv 0)) de_int (fun _ _ => rfl)) da_nil))))) dss_nil)
  (dss_one (ds_ret (de_callO G__law_at_most (hr.mono (by decide)) (by rfl) (fun σ => passAt (takes_of rfl rfl rfl rfl) σ) (da_cons (de_ix hr (de_var 1 (pv 1)) de_int (fun _ _ => rfl)) (da_cons (de_ix hr (de_var 0 (pv 0)) de_int (fun _ _ => rfl)) da_nil))))))

end
end Dd
/-! GD__law_contains -/
namespace Dd
open PySem PySem.Spec PyProof.Rows L2
section
variable {P : Program} {w : World} {K : PySem.W.Frag} {mg : Str → Option Value} {base : Heap}
theorem o__law_contains (AT : At K mg "_law_contains" s__law_contains) (G__law_at_most : Ok P w K mg base 2 "_law_at_most" 2 d__law_at_most) (G__law_inside : Ok P w K mg base 2 "_law_inside" 3 d__law_inside) (G__law_is_known : Ok P w K mg base 1 "_law_is_known" 1 d__law_is_known) : Ok P w K mg base 3 "_law_contains" 2 d__law_contains :=
  okOf AT sc__law_contains rfl (by decide) (fun _ _ _ _ _ _ us hl => match us, hl with | [_, _], _ => rfl) fun f cdv A outer s H E hr =>
  (dss_cons (ds_if (dt_truth (de_callO G__law_is_known (hr.mono (by decide)) (by rfl) (fun σ => passAt (takes_of rfl rfl rfl rfl) σ) (da_cons (de_var 1 (pv 1)) da_nil))) (dss_one (ds_ret (de_callO G__law_inside (hr.mono (by decide)) (by rfl) (fun σ => passAt (takes_of rfl rfl rfl rfl) σ) (da_cons (de_ix hr (de_var 1 (pv 1)) de_int (fun _ _ => rfl)) (da_cons (de_ix hr (de_var 0 (pv 0)) de_int (fun _ _ => rfl)) (da_cons (de_ix hr (de_var 0 (pv 0)) de_int (fun _ _ => rfl)) da_nil)))))) dss_nil)
  (dss_one (ds_ret (de_and (de_callO G__law_at_most (hr.mono (by decide)) (by rfl) (fun σ => passAt (takes_of rfl rfl rfl rfl) σ) (da_cons (de_ix hr (de_var 0 (pv 0)) de_int (fun _ _ => rfl)) (da_cons (de_ix hr (de_var 1 (pv 1)) de_int (fun _ _ => rfl)) da_nil))) (de_one (de_callO G__law_at_most (hr.mono (by decide)) (by rfl) (fun σ => passAt (takes_of rfl rfl rfl rfl) σ) (da_cons (de_ix hr (de_var 1 (pv 1)) de_int (fun _ _ => rfl)) (da_cons (de_ix hr (de_var 0 (pv 0)) de_int (fun _ _ => rfl)) da_nil))))))))

end
end Dd
/-! GD__law_required_r0 -/
namespace Dd
open PySem PySem.Spec PyProof.Rows L2
section
variable {P : Program} {w : World} {K : PySem.W.Frag} {mg : Str → Option Value} {base : Heap}
theorem o__law_required_r0 (AT : At K mg "_law_required" s__law_required_r0) (G__law_blocks : Ok P w K mg base 3 "_law_blocks" 2 d__law_blocks) (G__law_contains : Ok P w K mg base 3 "_law_contains" 2 d__law_contains) (G__law_frontier : Ok P w K mg base 3 "_law_frontier" 2 d__law_frontier) (G__law_inside : Ok P w K mg base 2 "_law_inside" 3 d__law_inside) (G__law_items : Ok P w K mg base 1 "_law_items" 1 d__law_items) (G__law_unknown : Ok P w K mg base 2 "_law_unknown" 2 d__law_unknown) (B : Blt mg) : Ok P w K mg base 4 "_law_required" 2 d__law_required_r0 :=
  okOf AT sc__law_required_r0 rfl (by decide) (fun _ _ _ _ _ _ us hl => match us, hl with | [_, _], _ => rfl) fun f cdv A outer s H E hr =>
  (dss_cons (ds_set (i := 2) sc__law_required_r0.nd rfl (by first | exact Or.inl rfl | exact Or.inr rfl) (de_callO G__law_items (hr.mono (by decide)) (by rfl) (fun σ => passAt (takes_of rfl rfl rfl rfl) σ) (da_cons (de_var 1 (pv 1)) da_nil)))
  (dss_cons (ds_set (i := 3) sc__law_required_r0.nd rfl (by first | exact Or.inl rfl | exact Or.inr rfl) (de_callO G__law_unknown (hr.mono (by decide)) (by rfl) (fun σ => passAt (takes_of rfl rfl rfl rfl) σ) (da_cons (de_var 0 (pv 0)) (da_cons (de_var 2 (pv 2)) da_nil))))
  (dss_cons (ds_if (dt_cmp (c_eq hr) (de_ix hr (de_var 1 (pv 1)) de_int (fun _ _ => rfl)) de_str (nomark _)) (dss_one (ds_retF de_fail)) dss_nil)
  (dss_cons (ds_if (dt_cmp (c_eq hr) (de_ix hr (de_var 1 (pv 1)) de_int (fun _ _ => rfl)) de_str (nomark _)) (dss_one (ds_retF (de_lc (own := [("_law_name", 5)]) (t := (.nm 5)) rfl sc__law_required_r0.nd (di_seq (de_var 3 (pv 3))) (blkOk_by (by kernel_rfl)) rfl (fun _ _ _ _ _ => (pg_name (i := 5) sc__law_required_r0.nd rfl (by first | exact Or.inl rfl | exact Or.inr rfl))) (fun _ _ _ _ _ => (dts_one (dt_truth (de_calmO G__law_inside (hr.mono (by decide)) (by rfl) (da_cons (de_ix hr (de_var 1 (pv 1)) de_int (fun _ _ => rfl)) (da_cons (de_ix hr (de_ix hr (de_var 0 (pv 0)) (de_var 5 (pv 5)) (fun _ _ => rfl)) de_int (fun _ _ => rfl)) (da_cons (de_ix hr (de_ix hr (de_var 0 (pv 0)) (de_var 5 (pv 5)) (fun _ _ => rfl)) de_int (fun _ _ => rfl)) da_nil))))))) (fun _ _ _ _ _ => (de_var 5 (pv 5)))))) dss_nil)
  (dss_cons (ds_setL (i := 4) sc__law_required_r0.nd rfl (by first | exact Or.inl rfl | exact Or.inr rfl) da_nil)
  (dss_cons (ds_for (t := (.nm 5)) (passes_of rfl) rfl (di_seq (de_if (dt_cmp (c_eq hr) (de_ix hr (de_var 1 (pv 1)) de_int (fun _ _ => rfl)) de_str (nomark _)) (de_callO G__law_frontier (hr.mono (by decide)) (by rfl) (fun σ => passAt (takes_of rfl rfl rfl rfl) σ) (da_cons (de_var 0 (pv 0)) (da_cons (de_var 2 (pv 2)) da_nil))) (de_var 3 (pv 3)))) (pg_name (i := 5) sc__law_required_r0.nd rfl (by first | exact Or.inl rfl | exact Or.inr rfl)) (dss_cons (ds_setLc (i := 6) (own := [("_law_other", 7)]) (t := (.nm 7)) rfl sc__law_required_r0.nd rfl rfl (sw_true rfl rfl rfl (by decide +kernel)) (di_seq (de_var 2 (pv 2))) (blkOk_by (by kernel_rfl)) rfl (fun _ _ _ _ _ => (pg_name (i := 7) sc__law_required_r0.nd rfl (by first | exact Or.inl rfl | exact Or.inr rfl))) (fun _ _ _ _ _ => (dts_one (dt_cmp (c_ne hr) (de_var 7 (pv 7)) (de_var 5 (pv 5)) (nomark _)))) (fun _ _ _ _ _ => (de_ix hr (de_var 0 (pv 0)) (de_var 7 (pv 7)) (fun _ _ => rfl))))
  (dss_cons (ds_if (dw_pt (dw_and (dt_cmp (c_eq hr) (de_ix hr (de_var 1 (pv 1)) de_int (fun _ _ => rfl)) de_str (nomark _)) (dw_and1 (dt_truth (de_b (br_any rfl) (by rfl) B.any_ (by decide +kernel) (da_cons (de_lc (own := [("_law_other", 7)]) (t := (.nm 7)) rfl sc__law_required_r0.nd (di_seq (de_var 6 (pv 6))) (blkOk_by (by kernel_rfl)) rfl (fun _ _ _ _ _ => (pg_name (i := 7) sc__law_required_r0.nd rfl (by first | exact Or.inl rfl | exact Or.inr rfl))) (fun _ _ _ _ _ => dts_nil) (fun _ _ _ _ _ => (de_calmO G__law_blocks (hr.mono (by decide)) (by rfl) (da_cons (de_ix hr (de_var 0 (pv 0)) (de_var 5 (pv 5)) (fun _ _ => rfl)) (da_cons (de_var 7 (pv 7)) da_nil))))) da_nil)))))) (dss_one (ds_append 4 (pv 4) (de_var 5 (pv 5)))) dss_nil)
  (dss_one (ds_if (dw_pt (dw_and (dt_cmp (c_ne hr) (de_ix hr (de_var 1 (pv 1)) de_int (fun _ _ => rfl)) de_str (nomark _)) (dw_and1 (dt_truth (de_b (br_any rfl) (by rfl) B.any_ (by decide +kernel) (da_cons (de_lc (own := [("_law_other", 7)]) (t := (.nm 7)) rfl sc__law_required_r0.nd (di_seq (de_var 6 (pv 6))) (blkOk_by (by kernel_rfl)) rfl (fun _ _ _ _ _ => (pg_name (i := 7) sc__law_required_r0.nd rfl (by first | exact Or.inl rfl | exact Or.inr rfl))) (fun _ _ _ _ _ => dts_nil) (fun _ _ _ _ _ => (de_calmO G__law_contains (hr.mono (by decide)) (by rfl) (da_cons (de_ix hr (de_var 0 (pv 0)) (de_var 5 (pv 5)) (fun _ _ => rfl)) (da_cons (de_var 7 (pv 7)) da_nil))))) da_nil)))))) (dss_one (ds_append 4 (pv 4) (de_var 5 (pv 5)))) dss_nil)))))
  (dss_one (ds_retO 4 (pv 4)))))))))

end
end Dd
/-! GD__law_required -/
namespace Dd
open PySem PySem.Spec PyProof.Rows L2
section
variable {P : Program} {w : World} {K : PySem.W.Frag} {mg : Str → Option Value} {base : Heap}
theorem o__law_required (AT : At K mg "_law_required" s__law_required) (G__law_blocks : Ok P w K mg base 3 "_law_blocks" 2 d__law_blocks) (G__law_contains : Ok P w K mg base 3 "_law_contains" 2 d__law_contains) (G__law_frontier : Ok P w K mg base 3 "_law_frontier" 2 d__law_frontier) (G__law_inside : Ok P w K mg base 2 "_law_inside" 3 d__law_inside) (G__law_items : Ok P w K mg base 1 "_law_items" 1 d__law_items) (G__law_mirrored : Ok P w K mg base 2 "_law_mirrored" 1 d__law_mirrored) (G__law_unknown : Ok P w K mg base 2 "_law_unknown" 2 d__law_unknown) (G__law_required_r0 : Ok P w K mg base 4 "_law_required" 2 d__law_required_r0) (B : Blt mg) : Ok P w K mg base 5 "_law_required" 2 d__law_required :=
  okOf AT sc__law_required rfl (by decide) (fun _ _ _ _ _ _ us hl => match us, hl with | [_, _], _ => rfl) fun f cdv A outer s H E hr =>
  (dss_cons (ds_set (i := 2) sc__law_required.nd rfl (by first | exact Or.inl rfl | exact Or.inr rfl) (de_callO G__law_items (hr.mono (by decide)) (by rfl) (fun σ => passAt (takes_of rfl rfl rfl rfl) σ) (da_cons (de_var 1 (pv 1)) da_nil)))
  (dss_cons (ds_set (i := 3) sc__law_required.nd rfl (by first | exact Or.inl rfl | exact Or.inr rfl) (de_callO G__law_unknown (hr.mono (by decide)) (by rfl) (fun σ => passAt (takes_of rfl rfl rfl rfl) σ) (da_cons (de_var 0 (pv 0)) (da_cons (de_var 2 (pv 2)) da_nil))))
  (dss_cons (ds_if (dt_cmp (c_eq hr) (de_ix hr (de_var 1 (pv 1)) de_int (fun _ _ => rfl)) de_str (nomark _)) (dss_one (ds_retF (de_callO G__law_required_r0 (hr.mono (by decide)) (by rfl) (fun σ => passAt (takes_of rfl rfl rfl rfl) σ) (da_cons (de_callO G__law_mirrored (hr.mono (by decide)) (by rfl) (fun σ => passAt (takes_of rfl rfl rfl rfl) σ) (da_cons (de_var 0 (pv 0)) da_nil)) (da_cons (de_tup (da_cons de_str (da_cons (de_ix hr (de_var 1 (pv 1)) de_int (fun _ _ => rfl)) da_nil))) da_nil))))) dss_nil)
  (dss_cons (ds_if (dt_cmp (c_eq hr) (de_ix hr (de_var 1 (pv 1)) de_int (fun _ _ => rfl)) de_str (nomark _)) (dss_one (ds_retF (de_lc (own := [("_law_name", 5)]) (t := (.nm 5)) rfl sc__law_required.nd (di_seq (de_var 3 (pv 3))) (blkOk_by (by kernel_rfl)) rfl (fun _ _ _ _ _ => (pg_name (i := 5) sc__law_required.nd rfl (by first | exact Or.inl rfl | exact Or.inr rfl))) (fun _ _ _ _ _ => (dts_one (dt_truth (de_calmO G__law_inside (hr.mono (by decide)) (by rfl) (da_cons (de_ix hr (de_var 1 (pv 1)) de_int (fun _ _ => rfl)) (da_cons (de_ix hr (de_ix hr (de_var 0 (pv 0)) (de_var 5 (pv 5)) (fun _ _ => rfl)) de_int (fun _ _ => rfl)) (da_cons (de_ix hr (de_ix hr (de_var 0 (pv 0)) (de_var 5 (pv 5)) (fun _ _ => rfl)) de_int (fun _ _ => rfl)) da_nil))))))) (fun _ _ _ _ _ => (de_var 5 (pv 5)))))) dss_nil)
  (dss_cons (ds_setL (i := 4) sc__law_required.nd rfl (by first | exact Or.inl rfl | exact Or.inr rfl) da_nil)
  (dss_cons (ds_for (t := (.nm 5)) (passes_of rfl) rfl (di_seq (de_if (dt_cmp (c_eq hr) (de_ix hr (de_var 1 (pv 1)) de_int (fun _ _ => rfl)) de_str (nomark _)) (de_callO G__law_frontier (hr.mono (by decide)) (by rfl) (fun σ => passAt (takes_of rfl rfl rfl rfl) σ) (da_cons (de_var 0 (pv 0)) (da_cons (de_var 2 (pv 2)) da_nil))) (de_var 3 (pv 3)))) (pg_name (i := 5) sc__law_required.nd rfl (by first | exact Or.inl rfl | exact Or.inr rfl)) (dss_cons (ds_setLc (i := 6) (own := [("_law_other", 7)]) (t := (.nm 7)) rfl sc__law_required.nd rfl rfl (sw_true rfl rfl rfl (by decide +kernel)) (di_seq (de_var 2 (pv 2))) (blkOk_by (by kernel_rfl)) rfl (fun _ _ _ _ _ => (pg_name (i := 7) sc__law_required.nd rfl (by first | exact Or.inl rfl | exact Or.inr rfl))) (fun _ _ _ _ _ => (dts_one (dt_cmp (c_ne hr) (de_var 7 (pv 7)) (de_var 5 (pv 5)) (nomark _)))) (fun _ _ _ _ _ => (de_ix hr (de_var 0 (pv 0)) (de_var 7 (pv 7)) (fun _ _ => rfl))))
  (dss_cons (ds_if (dw_pt (dw_and (dt_cmp (c_eq hr) (de_ix hr (de_var 1 (pv 1)) de_int (fun _ _ => rfl)) de_str (nomark _)) (dw_and1 (dt_truth (de_b (br_any rfl) (by rfl) B.any_ (by decide +kernel) (da_cons (de_lc (own := [("_law_other", 7)]) (t := (.nm 7)) rfl sc__law_required.nd (di_seq (de_var 6 (pv 6))) (blkOk_by (by kernel_rfl)) rfl (fun _ _ _ _ _ => (pg_name (i := 7) sc__law_required.nd rfl (by first | exact Or.inl rfl | exact Or.inr rfl))) (fun _ _ _ _ _ => dts_nil) (fun _ _ _ _ _ => (de_calmO G__law_blocks (hr.mono (by decide)) (by rfl) (da_cons (de_ix hr (de_var 0 (pv 0)) (de_var 5 (pv 5)) (fun _ _ => rfl)) (da_cons (de_var 7 (pv 7)) da_nil))))) da_nil)))))) (dss_one (ds_append 4 (pv 4) (de_var 5 (pv 5)))) dss_nil)
  (dss_one (ds_if (dw_pt (dw_and (dt_cmp (c_ne hr) (de_ix hr (de_var 1 (pv 1)) de_int (fun _ _ => rfl)) de_str (nomark _)) (dw_and1 (dt_truth (de_b (br_any rfl) (by rfl) B.any_ (by decide +kernel) (da_cons (de_lc (own := [("_law_other", 7)]) (t := (.nm 7)) rfl sc__law_required.nd (di_seq (de_var 6 (pv 6))) (blkOk_by (by kernel_rfl)) rfl (fun _ _ _ _ _ => (pg_name (i := 7) sc__law_required.nd rfl (by first | exact Or.inl rfl | exact Or.inr rfl))) (fun _ _ _ _ _ => dts_nil) (fun _ _ _ _ _ => (de_calmO G__law_contains (hr.mono (by decide)) (by rfl) (da_cons (de_ix hr (de_var 0 (pv 0)) (de_var 5 (pv 5)) (fun _ _ => rfl)) (da_cons (de_var 7 (pv 7)) da_nil))))) da_nil)))))) (dss_one (ds_append 4 (pv 4) (de_var 5 (pv 5)))) dss_nil)))))
  (dss_one (ds_retO 4 (pv 4)))))))))

end
end Dd
/-! GD__law_by_name -/
namespace Dd
open PySem PySem.Spec PyProof.Rows L2
section
variable {P : Program} {w : World} {K : PySem.W.Frag} {mg : Str → Option Value} {base : Heap}
theorem o__law_by_name (AT : At K mg "_law_by_name" s__law_by_name)  (B : Blt mg) : Ok P w K mg base 1 "_law_by_name" 1 d__law_by_name :=
  okOf AT sc__law_by_name rfl (by decide) (fun _ _ _ _ _ _ us hl => match us, hl with | [_], _ => rfl) fun f cdv A outer s H E hr =>
  (dss_one (ds_ret (de_bty (br_dict rfl) (by rfl) B.dict_ (by decide +kernel) (da_cons (de_lc (own := [("_law_name", 1), ("_law_low", 2), ("_law_high", 3)]) (t := (.tp [1, 2, 3])) rfl sc__law_by_name.nd (di_seq (de_var 0 (pv 0))) (blkOk_by (by kernel_rfl)) rfl (fun _ _ _ _ _ => (pg_tup rfl (pgs_cons (pg_name (i := 1) sc__law_by_name.nd rfl (by first | exact Or.inl rfl | exact Or.inr rfl)) (pgs_cons (pg_name (i := 2) sc__law_by_name.nd rfl (by first | exact Or.inl rfl | exact Or.inr rfl)) (pgs_cons (pg_name (i := 3) sc__law_by_name.nd rfl (by first | exact Or.inl rfl | exact Or.inr rfl)) pgs_nil))))) (fun _ _ _ _ _ => dts_nil) (fun _ _ _ _ _ => (de_tup (da_cons (de_var 1 (pv 1)) (da_cons (de_tup (da_cons (de_var 2 (pv 2)) (da_cons (de_var 3 (pv 3)) da_nil))) da_nil))))) da_nil))))

end
end Dd
/-! GD_law -/
namespace Dd
open PySem PySem.Spec PyProof.Rows L2
section
variable {P : Program} {w : World} {K : PySem.W.Frag} {mg : Str → Option Value} {base : Heap}
theorem o_law (G__law_by_name : Ok P w K mg base 1 "_law_by_name" 1 d__law_by_name) (G__law_intervals : Ok P w K mg base 5 "_law_intervals" 3 d__law_intervals) (G__law_query : Ok P w K mg base 4 "_law_query" 2 d__law_query) (G__law_required : Ok P w K mg base 5 "_law_required" 2 d__law_required) (G__law_same : Ok P w K mg base 5 "_law_same" 2 (sameM 3)) (G_required_items : Ok P w K mg base 8 "required_items" 2 d_required_items) (B : Blt mg) : ∀ (f : Addr) (cdv : Value) (A : Around) (outer : List Env) (s : Shared) (H : Hp) (E : XK), Room 8 (A.deeper (envOfC "law" (defScope s_law) s.heap.objs.size f cdv)) → DSs (cxOf (L2.CX P w) P w K mg base ["_law_script", "_law_source_here", "_law_k", "_law_intervals_here", "_law_query_here", "_law_snapshot", "_law_found"] "law" (defScope s_law) f cdv A outer s H E) E (defBody s_law).tail u_law :=
  fun f cdv A outer s H E hr =>
  (dss_cons (ds_for (t := (.nm 2)) (passes_of rfl) rfl (di_range1 (by rfl) B.range_ de_int) (pg_name (i := 2) sc_law.nd rfl (by first | exact Or.inl rfl | exact Or.inr rfl)) (dss_cons (ds_set (i := 3) sc_law.nd rfl (by first | exact Or.inl rfl | exact Or.inr rfl) (de_callO G__law_intervals (hr.mono (by decide)) (by rfl) (fun σ => passAt (takes_of rfl rfl rfl rfl) σ) (da_cons (de_var 1 (pv 1)) (da_cons de_int (da_cons de_int da_nil)))))
  (dss_cons (ds_set (i := 4) sc_law.nd rfl (by first | exact Or.inl rfl | exact Or.inr rfl) (de_callO G__law_query (hr.mono (by decide)) (by rfl) (fun σ => passAt (takes_of rfl rfl rfl rfl) σ) (da_cons (de_var 1 (pv 1)) (da_cons (de_var 3 (pv 3)) da_nil))))
  (dss_cons (ds_set (i := 5) sc_law.nd rfl (by first | exact Or.inl rfl | exact Or.inr rfl) (de_bty (br_list rfl) (by rfl) B.list_ (by decide +kernel) (da_cons (de_var 3 (pv 3)) da_nil)))
  (dss_cons (ds_setN (i := 6) [3, 4] sc_law.nd rfl (by first | exact Or.inl rfl | exact Or.inr rfl) (de_callO G_required_items (hr.mono (by decide)) (by rfl) (fun σ => passAt (takes_of rfl rfl rfl rfl) σ) (da_cons (de_var 3 (pv 3)) (da_cons (de_var 4 (pv 4)) da_nil))))
  (dss_cons (ds_if (dw_pt (dw_or (dt_not (dt_truth (de_callO G__law_same (hr.mono (by decide)) (by rfl) (fun σ => passAt (takes_of rfl rfl rfl rfl) σ) (da_cons (de_var 6 (pv 6)) (da_cons (de_callO G__law_required (hr.mono (by decide)) (by rfl) (fun σ => passAt (takes_of rfl rfl rfl rfl) σ) (da_cons (de_callO G__law_by_name (hr.mono (by decide)) (by rfl) (fun σ => passAt (takes_of rfl rfl rfl rfl) σ) (da_cons (de_var 3 (pv 3)) da_nil)) (da_cons (de_var 4 (pv 4)) da_nil))) da_nil))))) (dw_or1 (dt_cmp (c_ne hr) (de_var 3 (pv 3)) (de_var 5 (pv 5)) (nomark _))))) (dss_one (ds_retF de_bl)) dss_nil)
  (dss_cons (ds_append 6 (pv 6) de_str)
  (dss_one (ds_if (dt_cmp (c_in hr) de_str (de_callO G_required_items (hr.mono (by decide)) (by rfl) (fun σ => passAt (takes_of rfl rfl rfl rfl) σ) (da_cons (de_var 3 (pv 3)) (da_cons (de_var 4 (pv 4)) da_nil))) (by rfl)) (dss_one (ds_retF de_bl)) dss_nil)))))))))
  (dss_one (ds_retF de_bl)))
end
end Dd
/-! EndH -/
namespace Dd
open PySem PySem.Spec PyProof.Rows L2
theorem exm_of {K : PySem.W.Frag} {C S : Addr} {v : Bool} (b : PySem.W.subIn K (.ref S) (.type "BaseException") = some true) (i : PySem.W.isClsIn K S = true) (t : PySem.W.typeIn K (.ref S) = some (.type "type")) (s : PySem.W.subIn K (.ref C) (.ref S) = some v) :
    PySem.W.exmOne K (.ref C) (.ref S) = some v := by
  have i' : (PySem.W.clsIn K S).isSome = true := i
  show (if (PySem.W.subIn K (.ref S) (.type "BaseException") == some true) = true then
    (if ((PySem.W.clsIn K S).isSome && PySem.W.typeIn K (.ref S) == some (.type "type")) = true then PySem.W.subIn K (.ref C) (.ref S) else none) else none) = _
  rw [b, i', t, s]
  rfl
theorem all_mk {l : PySem.W.OpenLaw} {w : World} {K : PySem.W.Frag} {h : Heap} {mg : Str → Option Value} {fa f0 f1 f2 f3 f4 f5 f6 f7 f8 f9 f10 f11 f12 f13 f14 f15 f16 f17 f18 f19 f20 f21 f22 f23 f24 f25 f26 f27 f28 T28 f29 f30 f31 f32 f33 f34 f35 f36 f37 f38 f39 f40 f41 f42 f43 f44 f45 f46 f47 f48 f49 f50 f51 f52 f53 f54 f55 f56 f57 Q0 C_QueryError C_InvalidFraction C_InvalidIntervals C_InvalidPrice C_InvalidQuery f_QueryError f_InvalidFraction f_InvalidIntervals f_InvalidPrice f_InvalidQuery T_QueryError T_InvalidFraction T_InvalidIntervals : Addr} (X : K.In h) (G : h.Ns mainGlobals mg) (hfa : mg "law" = some (.ref fa))
    {od0 an0 : Option Addr} {sl0 : Array (Option Value)} {oc0 kV0 dc0 pm0 cd0 ct0 : Value}
    {od1 an1 : Option Addr} {sl1 : Array (Option Value)} {oc1 kV1 dc1 pm1 cd1 ct1 : Value}
    {od2 an2 : Option Addr} {sl2 : Array (Option Value)} {oc2 kV2 dc2 pm2 cd2 ct2 : Value}
    {od3 an3 : Option Addr} {sl3 : Array (Option Value)} {oc3 kV3 dc3 pm3 cd3 ct3 : Value}
    {od4 an4 : Option Addr} {sl4 : Array (Option Value)} {oc4 kV4 dc4 pm4 cd4 ct4 : Value}
    {od5 an5 : Option Addr} {sl5 : Array (Option Value)} {oc5 kV5 dc5 pm5 cd5 ct5 : Value}
    {od6 an6 : Option Addr} {sl6 : Array (Option Value)} {oc6 kV6 dc6 pm6 cd6 ct6 : Value}
    {od7 an7 : Option Addr} {sl7 : Array (Option Value)} {oc7 kV7 dc7 pm7 cd7 ct7 : Value}
    {od8 an8 : Option Addr} {sl8 : Array (Option Value)} {oc8 kV8 dc8 pm8 cd8 ct8 : Value}
    {od9 an9 : Option Addr} {sl9 : Array (Option Value)} {oc9 kV9 dc9 pm9 cd9 ct9 : Value}
    {od10 an10 : Option Addr} {sl10 : Array (Option Value)} {oc10 kV10 dc10 pm10 cd10 ct10 : Value}
    {od11 an11 : Option Addr} {sl11 : Array (Option Value)} {oc11 kV11 dc11 pm11 cd11 ct11 : Value}
    {od12 an12 : Option Addr} {sl12 : Array (Option Value)} {oc12 kV12 dc12 pm12 cd12 ct12 : Value}
    {od13 an13 : Option Addr} {sl13 : Array (Option Value)} {oc13 kV13 dc13 pm13 cd13 ct13 : Value}
    {od14 an14 : Option Addr} {sl14 : Array (Option Value)} {oc14 kV14 dc14 pm14 cd14 ct14 : Value}
    {od15 an15 : Option Addr} {sl15 : Array (Option Value)} {oc15 kV15 dc15 pm15 cd15 ct15 : Value}
    {od16 an16 : Option Addr} {sl16 : Array (Option Value)} {oc16 kV16 dc16 pm16 cd16 ct16 : Value}
    {od17 an17 : Option Addr} {sl17 : Array (Option Value)} {oc17 kV17 dc17 pm17 cd17 ct17 : Value}
    {od18 an18 : Option Addr} {sl18 : Array (Option Value)} {oc18 kV18 dc18 pm18 cd18 ct18 : Value}
    {od19 an19 : Option Addr} {sl19 : Array (Option Value)} {oc19 kV19 dc19 pm19 cd19 ct19 : Value}
    {od20 an20 : Option Addr} {sl20 : Array (Option Value)} {oc20 kV20 dc20 pm20 cd20 ct20 : Value}
    {od21 an21 : Option Addr} {sl21 : Array (Option Value)} {oc21 kV21 dc21 pm21 cd21 ct21 : Value}
    {od22 an22 : Option Addr} {sl22 : Array (Option Value)} {oc22 kV22 dc22 pm22 cd22 ct22 : Value}
    {od23 an23 : Option Addr} {sl23 : Array (Option Value)} {oc23 kV23 dc23 pm23 cd23 ct23 : Value}
    {od24 an24 : Option Addr} {sl24 : Array (Option Value)} {oc24 kV24 dc24 pm24 cd24 ct24 : Value}
    {od25 an25 : Option Addr} {sl25 : Array (Option Value)} {oc25 kV25 dc25 pm25 cd25 ct25 : Value}
    {od26 an26 : Option Addr} {sl26 : Array (Option Value)} {oc26 kV26 dc26 pm26 cd26 ct26 : Value}
    {od27 an27 : Option Addr} {sl27 : Array (Option Value)} {oc27 kV27 dc27 pm27 cd27 ct27 : Value}
    {od28 an28 : Option Addr} {sl28 : Array (Option Value)} {oc28 kV28 dc28 pm28 cd28 ct28 : Value}
    {oD28 : Option Addr} {sD28 : Array (Option Value)} {oC28 : Value} {n28 : Nat}
    {od29 an29 : Option Addr} {sl29 : Array (Option Value)} {oc29 kV29 dc29 pm29 cd29 ct29 : Value}
    {od30 an30 : Option Addr} {sl30 : Array (Option Value)} {oc30 kV30 dc30 pm30 cd30 ct30 : Value}
    {od31 an31 : Option Addr} {sl31 : Array (Option Value)} {oc31 kV31 dc31 pm31 cd31 ct31 : Value}
    {od32 an32 : Option Addr} {sl32 : Array (Option Value)} {oc32 kV32 dc32 pm32 cd32 ct32 : Value}
    {od33 an33 : Option Addr} {sl33 : Array (Option Value)} {oc33 kV33 dc33 pm33 cd33 ct33 : Value}
    {od34 an34 : Option Addr} {sl34 : Array (Option Value)} {oc34 kV34 dc34 pm34 cd34 ct34 : Value}
    {od35 an35 : Option Addr} {sl35 : Array (Option Value)} {oc35 kV35 dc35 pm35 cd35 ct35 : Value}
    {od36 an36 : Option Addr} {sl36 : Array (Option Value)} {oc36 kV36 dc36 pm36 cd36 ct36 : Value}
    {od37 an37 : Option Addr} {sl37 : Array (Option Value)} {oc37 kV37 dc37 pm37 cd37 ct37 : Value}
    {od38 an38 : Option Addr} {sl38 : Array (Option Value)} {oc38 kV38 dc38 pm38 cd38 ct38 : Value}
    {od39 an39 : Option Addr} {sl39 : Array (Option Value)} {oc39 kV39 dc39 pm39 cd39 ct39 : Value}
    {od40 an40 : Option Addr} {sl40 : Array (Option Value)} {oc40 kV40 dc40 pm40 cd40 ct40 : Value}
    {od41 an41 : Option Addr} {sl41 : Array (Option Value)} {oc41 kV41 dc41 pm41 cd41 ct41 : Value}
    {od42 an42 : Option Addr} {sl42 : Array (Option Value)} {oc42 kV42 dc42 pm42 cd42 ct42 : Value}
    {od43 an43 : Option Addr} {sl43 : Array (Option Value)} {oc43 kV43 dc43 pm43 cd43 ct43 : Value}
    {od44 an44 : Option Addr} {sl44 : Array (Option Value)} {oc44 kV44 dc44 pm44 cd44 ct44 : Value}
    {od45 an45 : Option Addr} {sl45 : Array (Option Value)} {oc45 kV45 dc45 pm45 cd45 ct45 : Value}
    {od46 an46 : Option Addr} {sl46 : Array (Option Value)} {oc46 kV46 dc46 pm46 cd46 ct46 : Value}
    {od47 an47 : Option Addr} {sl47 : Array (Option Value)} {oc47 kV47 dc47 pm47 cd47 ct47 : Value}
    {od48 an48 : Option Addr} {sl48 : Array (Option Value)} {oc48 kV48 dc48 pm48 cd48 ct48 : Value}
    {od49 an49 : Option Addr} {sl49 : Array (Option Value)} {oc49 kV49 dc49 pm49 cd49 ct49 : Value}
    {od50 an50 : Option Addr} {sl50 : Array (Option Value)} {oc50 kV50 dc50 pm50 cd50 ct50 : Value}
    {od51 an51 : Option Addr} {sl51 : Array (Option Value)} {oc51 kV51 dc51 pm51 cd51 ct51 : Value}
    {od52 an52 : Option Addr} {sl52 : Array (Option Value)} {oc52 kV52 dc52 pm52 cd52 ct52 : Value}
    {od53 an53 : Option Addr} {sl53 : Array (Option Value)} {oc53 kV53 dc53 pm53 cd53 ct53 : Value}
    {od54 an54 : Option Addr} {sl54 : Array (Option Value)} {oc54 kV54 dc54 pm54 cd54 ct54 : Value}
    {od55 an55 : Option Addr} {sl55 : Array (Option Value)} {oc55 kV55 dc55 pm55 cd55 ct55 : Value}
    {od56 an56 : Option Addr} {sl56 : Array (Option Value)} {oc56 kV56 dc56 pm56 cd56 ct56 : Value}
    {od57 an57 : Option Addr} {sl57 : Array (Option Value)} {oc57 kV57 dc57 pm57 cd57 ct57 : Value}
    {tc0 : Tok}
    {tc1 : Tok}
    {tc2 : Tok}
    {tc3 : Tok}
    {es0 : Array DictEntry} {nn0 : Nat} {tt0_0 tt0_1 tt0_2 tt0_3 tt0_4 : Tok}
    {nm_InvalidFraction q_InvalidFraction : Str} {N_InvalidFraction : Addr} {bs_InvalidFraction bm_InvalidFraction : List Value} {sn_InvalidFraction : List Str} {su_InvalidFraction : List Value} {ab_InvalidFraction : Bool} {co_InvalidFraction : Option Bool} {dd_InvalidFraction : Option Addr} {m0_InvalidFraction m1_InvalidFraction m2_InvalidFraction m3_InvalidFraction m5_InvalidFraction : Option Value}
    {nm_InvalidIntervals q_InvalidIntervals : Str} {N_InvalidIntervals : Addr} {bs_InvalidIntervals bm_InvalidIntervals : List Value} {sn_InvalidIntervals : List Str} {su_InvalidIntervals : List Value} {ab_InvalidIntervals : Bool} {co_InvalidIntervals : Option Bool} {dd_InvalidIntervals : Option Addr} {m0_InvalidIntervals m1_InvalidIntervals m2_InvalidIntervals m3_InvalidIntervals m5_InvalidIntervals : Option Value}
    {nm_InvalidPrice q_InvalidPrice : Str} {N_InvalidPrice : Addr} {bs_InvalidPrice bm_InvalidPrice : List Value} {sn_InvalidPrice : List Str} {su_InvalidPrice : List Value} {ab_InvalidPrice : Bool} {co_InvalidPrice : Option Bool} {dd_InvalidPrice : Option Addr} {m0_InvalidPrice m1_InvalidPrice m2_InvalidPrice m3_InvalidPrice m5_InvalidPrice : Option Value}
    {nm_InvalidQuery q_InvalidQuery : Str} {N_InvalidQuery : Addr} {bs_InvalidQuery bm_InvalidQuery : List Value} {sn_InvalidQuery : List Str} {su_InvalidQuery : List Value} {ab_InvalidQuery : Bool} {co_InvalidQuery : Option Bool} {dd_InvalidQuery : Option Addr} {m0_InvalidQuery m1_InvalidQuery m2_InvalidQuery m3_InvalidQuery m5_InvalidQuery : Option Value}
    {od_QueryError an_QueryError : Option Addr} {sl_QueryError : Array (Option Value)} {oc_QueryError kV_QueryError dc_QueryError pm_QueryError cd_QueryError ct_QueryError : Value}
    {oD_QueryError : Option Addr} {sD_QueryError : Array (Option Value)} {oC_QueryError : Value} {nD_QueryError : Nat} {t0_QueryError t1_QueryError : Tok}
    {od_InvalidFraction an_InvalidFraction : Option Addr} {sl_InvalidFraction : Array (Option Value)} {oc_InvalidFraction kV_InvalidFraction dc_InvalidFraction pm_InvalidFraction cd_InvalidFraction ct_InvalidFraction : Value}
    {oD_InvalidFraction : Option Addr} {sD_InvalidFraction : Array (Option Value)} {oC_InvalidFraction : Value} {nD_InvalidFraction : Nat} {t0_InvalidFraction : Tok}
    {od_InvalidIntervals an_InvalidIntervals : Option Addr} {sl_InvalidIntervals : Array (Option Value)} {oc_InvalidIntervals kV_InvalidIntervals dc_InvalidIntervals pm_InvalidIntervals cd_InvalidIntervals ct_InvalidIntervals : Value}
    {oD_InvalidIntervals : Option Addr} {sD_InvalidIntervals : Array (Option Value)} {oC_InvalidIntervals : Value} {nD_InvalidIntervals : Nat} {t0_InvalidIntervals : Tok}
    {od_InvalidPrice an_InvalidPrice : Option Addr} {sl_InvalidPrice : Array (Option Value)} {oc_InvalidPrice kV_InvalidPrice dc_InvalidPrice pm_InvalidPrice cd_InvalidPrice ct_InvalidPrice : Value}
    {od_InvalidQuery an_InvalidQuery : Option Addr} {sl_InvalidQuery : Array (Option Value)} {oc_InvalidQuery kV_InvalidQuery dc_InvalidQuery pm_InvalidQuery cd_InvalidQuery ct_InvalidQuery : Value}
    (a0 : PySem.W.nsIn K mainGlobals "_law_source" = some (some (.ref f0))) (l0 : K.lookup f0 = some ⟨oc0, od0, .func (PySem.W.fnOf "_law_source" "_law_source" (defArgs Dw.sSrc) (defBody Dw.sSrc) (defScope Dw.sSrc) .none kV0 dc0 pm0 an0 cd0 ct0), sl0⟩) (c0 : PySem.W.codeIn K cd0 "_law_source" = true) (k0 : PySem.W.keepIn K (.ref f0) = true)
    (a1 : PySem.W.nsIn K mainGlobals "_law_draw" = some (some (.ref f1))) (l1 : K.lookup f1 = some ⟨oc1, od1, .func (PySem.W.fnOf "_law_draw" "_law_draw" (defArgs Dw.sDraw) (defBody Dw.sDraw) (defScope Dw.sDraw) .none kV1 dc1 pm1 an1 cd1 ct1), sl1⟩) (c1 : PySem.W.codeIn K cd1 "_law_draw" = true) (k1 : PySem.W.keepIn K (.ref f1) = true)
    (a2 : PySem.W.nsIn K mainGlobals "_law_same" = some (some (.ref f2))) (l2 : K.lookup f2 = some ⟨oc2, od2, .func (PySem.W.fnOf "_law_same" "_law_same" (defArgs Dw.sSame) (defBody Dw.sSame) (defScope Dw.sSame) .none kV2 dc2 pm2 an2 cd2 ct2), sl2⟩) (c2 : PySem.W.codeIn K cd2 "_law_same" = true) (k2 : PySem.W.keepIn K (.ref f2) = true)
    (a3 : PySem.W.nsIn K mainGlobals "_law_shuffled" = some (some (.ref f3))) (l3 : K.lookup f3 = some ⟨oc3, od3, .func (PySem.W.fnOf "_law_shuffled" "_law_shuffled" (defArgs s__law_shuffled) (defBody s__law_shuffled) (defScope s__law_shuffled) .none kV3 dc3 pm3 an3 cd3 ct3), sl3⟩) (c3 : PySem.W.codeIn K cd3 "_law_shuffled" = true) (k3 : PySem.W.keepIn K (.ref f3) = true)
    (a4 : PySem.W.nsIn K mainGlobals "_law_gcd" = some (some (.ref f4))) (l4 : K.lookup f4 = some ⟨oc4, od4, .func (PySem.W.fnOf "_law_gcd" "_law_gcd" (defArgs s__law_gcd) (defBody s__law_gcd) (defScope s__law_gcd) .none kV4 dc4 pm4 an4 cd4 ct4), sl4⟩) (c4 : PySem.W.codeIn K cd4 "_law_gcd" = true) (k4 : PySem.W.keepIn K (.ref f4) = true)
    (a5 : PySem.W.nsIn K mainGlobals "_law_reduced" = some (some (.ref f5))) (l5 : K.lookup f5 = some ⟨oc5, od5, .func (PySem.W.fnOf "_law_reduced" "_law_reduced" (defArgs s__law_reduced) (defBody s__law_reduced) (defScope s__law_reduced) .none kV5 dc5 pm5 an5 cd5 ct5), sl5⟩) (c5 : PySem.W.codeIn K cd5 "_law_reduced" = true) (k5 : PySem.W.keepIn K (.ref f5) = true)
    (a6 : PySem.W.nsIn K mainGlobals "_law_bound" = some (some (.ref f6))) (l6 : K.lookup f6 = some ⟨oc6, od6, .func (PySem.W.fnOf "_law_bound" "_law_bound" (defArgs s__law_bound) (defBody s__law_bound) (defScope s__law_bound) .none kV6 dc6 pm6 an6 cd6 ct6), sl6⟩) (c6 : PySem.W.codeIn K cd6 "_law_bound" = true) (k6 : PySem.W.keepIn K (.ref f6) = true)
    (a7 : PySem.W.nsIn K mainGlobals "_law_less" = some (some (.ref f7))) (l7 : K.lookup f7 = some ⟨oc7, od7, .func (PySem.W.fnOf "_law_less" "_law_less" (defArgs s__law_less) (defBody s__law_less) (defScope s__law_less) .none kV7 dc7 pm7 an7 cd7 ct7), sl7⟩) (c7 : PySem.W.codeIn K cd7 "_law_less" = true) (k7 : PySem.W.keepIn K (.ref f7) = true)
    (a8 : PySem.W.nsIn K mainGlobals "_law_choice" = some (some (.ref f8))) (l8 : K.lookup f8 = some ⟨oc8, od8, .func (PySem.W.fnOf "_law_choice" "_law_choice" (defArgs s__law_choice) (defBody s__law_choice) (defScope s__law_choice) .none kV8 dc8 pm8 an8 cd8 ct8), sl8⟩) (c8 : PySem.W.codeIn K cd8 "_law_choice" = true) (k8 : PySem.W.keepIn K (.ref f8) = true)
    (a9 : PySem.W.nsIn K mainGlobals "_law_interval" = some (some (.ref f9))) (l9 : K.lookup f9 = some ⟨oc9, od9, .func (PySem.W.fnOf "_law_interval" "_law_interval" (defArgs s__law_interval) (defBody s__law_interval) (defScope s__law_interval) .none kV9 dc9 pm9 an9 cd9 ct9), sl9⟩) (c9 : PySem.W.codeIn K cd9 "_law_interval" = true) (k9 : PySem.W.keepIn K (.ref f9) = true)
    (a10 : PySem.W.nsIn K mainGlobals "_law_intervals" = some (some (.ref f10))) (l10 : K.lookup f10 = some ⟨oc10, od10, .func (PySem.W.fnOf "_law_intervals" "_law_intervals" (defArgs s__law_intervals) (defBody s__law_intervals) (defScope s__law_intervals) .none kV10 dc10 pm10 an10 cd10 ct10), sl10⟩) (c10 : PySem.W.codeIn K cd10 "_law_intervals" = true) (k10 : PySem.W.keepIn K (.ref f10) = true)
    (a11 : PySem.W.nsIn K mainGlobals "_law_names" = some (some (.ref f11))) (l11 : K.lookup f11 = some ⟨oc11, od11, .func (PySem.W.fnOf "_law_names" "_law_names" (defArgs s__law_names) (defBody s__law_names) (defScope s__law_names) .none kV11 dc11 pm11 an11 cd11 ct11), sl11⟩) (c11 : PySem.W.codeIn K cd11 "_law_names" = true) (k11 : PySem.W.keepIn K (.ref f11) = true)
    (a12 : PySem.W.nsIn K mainGlobals "_law_all_bounds" = some (some (.ref f12))) (l12 : K.lookup f12 = some ⟨oc12, od12, .func (PySem.W.fnOf "_law_all_bounds" "_law_all_bounds" (defArgs s__law_all_bounds) (defBody s__law_all_bounds) (defScope s__law_all_bounds) .none kV12 dc12 pm12 an12 cd12 ct12), sl12⟩) (c12 : PySem.W.codeIn K cd12 "_law_all_bounds" = true) (k12 : PySem.W.keepIn K (.ref f12) = true)
    (a13 : PySem.W.nsIn K mainGlobals "_law_query" = some (some (.ref f13))) (l13 : K.lookup f13 = some ⟨oc13, od13, .func (PySem.W.fnOf "_law_query" "_law_query" (defArgs s__law_query) (defBody s__law_query) (defScope s__law_query) .none kV13 dc13 pm13 an13 cd13 ct13), sl13⟩) (c13 : PySem.W.codeIn K cd13 "_law_query" = true) (k13 : PySem.W.keepIn K (.ref f13) = true)
    (a14 : PySem.W.nsIn K mainGlobals "greatest_divisor" = some (some (.ref f14))) (l14 : K.lookup f14 = some ⟨oc14, od14, .func (PySem.W.fnOf "greatest_divisor" "greatest_divisor" (defArgs s_greatest_divisor) (defBody s_greatest_divisor) (defScope s_greatest_divisor) .none kV14 dc14 pm14 an14 cd14 ct14), sl14⟩) (c14 : PySem.W.codeIn K cd14 "greatest_divisor" = true) (k14 : PySem.W.keepIn K (.ref f14) = true)
    (a15 : PySem.W.nsIn K mainGlobals "is_fraction" = some (some (.ref f15))) (l15 : K.lookup f15 = some ⟨oc15, od15, .func (PySem.W.fnOf "is_fraction" "is_fraction" (defArgs s_is_fraction) (defBody s_is_fraction) (defScope s_is_fraction) .none kV15 dc15 pm15 an15 cd15 ct15), sl15⟩) (c15 : PySem.W.codeIn K cd15 "is_fraction" = true) (k15 : PySem.W.keepIn K (.ref f15) = true)
    (a16 : PySem.W.nsIn K mainGlobals "check_fraction" = some (some (.ref f16))) (l16 : K.lookup f16 = some ⟨oc16, od16, .func (PySem.W.fnOf "check_fraction" "check_fraction" (defArgs s_check_fraction) (defBody s_check_fraction) (defScope s_check_fraction) .none kV16 dc16 pm16 an16 cd16 ct16), sl16⟩) (c16 : PySem.W.codeIn K cd16 "check_fraction" = true) (k16 : PySem.W.keepIn K (.ref f16) = true)
    (a17 : PySem.W.nsIn K mainGlobals "less" = some (some (.ref f17))) (l17 : K.lookup f17 = some ⟨oc17, od17, .func (PySem.W.fnOf "less" "less" (defArgs s_less) (defBody s_less) (defScope s_less) .none kV17 dc17 pm17 an17 cd17 ct17), sl17⟩) (c17 : PySem.W.codeIn K cd17 "less" = true) (k17 : PySem.W.keepIn K (.ref f17) = true)
    (a18 : PySem.W.nsIn K mainGlobals "is_name" = some (some (.ref f18))) (l18 : K.lookup f18 = some ⟨oc18, od18, .func (PySem.W.fnOf "is_name" "is_name" (defArgs s_is_name) (defBody s_is_name) (defScope s_is_name) .none kV18 dc18 pm18 an18 cd18 ct18), sl18⟩) (c18 : PySem.W.codeIn K cd18 "is_name" = true) (k18 : PySem.W.keepIn K (.ref f18) = true)
    (a19 : PySem.W.nsIn K mainGlobals "check_intervals" = some (some (.ref f19))) (l19 : K.lookup f19 = some ⟨oc19, od19, .func (PySem.W.fnOf "check_intervals" "check_intervals" (defArgs s_check_intervals) (defBody s_check_intervals) (defScope s_check_intervals) .none kV19 dc19 pm19 an19 cd19 ct19), sl19⟩) (c19 : PySem.W.codeIn K cd19 "check_intervals" = true) (k19 : PySem.W.keepIn K (.ref f19) = true)
    (a20 : PySem.W.nsIn K mainGlobals "item_names" = some (some (.ref f20))) (l20 : K.lookup f20 = some ⟨oc20, od20, .func (PySem.W.fnOf "item_names" "item_names" (defArgs s_item_names) (defBody s_item_names) (defScope s_item_names) .none kV20 dc20 pm20 an20 cd20 ct20), sl20⟩) (c20 : PySem.W.codeIn K cd20 "item_names" = true) (k20 : PySem.W.keepIn K (.ref f20) = true)
    (a21 : PySem.W.nsIn K mainGlobals "has_query_form" = some (some (.ref f21))) (l21 : K.lookup f21 = some ⟨oc21, od21, .func (PySem.W.fnOf "has_query_form" "has_query_form" (defArgs s_has_query_form) (defBody s_has_query_form) (defScope s_has_query_form) .none kV21 dc21 pm21 an21 cd21 ct21), sl21⟩) (c21 : PySem.W.codeIn K cd21 "has_query_form" = true) (k21 : PySem.W.keepIn K (.ref f21) = true)
    (a22 : PySem.W.nsIn K mainGlobals "are_query_names" = some (some (.ref f22))) (l22 : K.lookup f22 = some ⟨oc22, od22, .func (PySem.W.fnOf "are_query_names" "are_query_names" (defArgs s_are_query_names) (defBody s_are_query_names) (defScope s_are_query_names) .none kV22 dc22 pm22 an22 cd22 ct22), sl22⟩) (c22 : PySem.W.codeIn K cd22 "are_query_names" = true) (k22 : PySem.W.keepIn K (.ref f22) = true)
    (a23 : PySem.W.nsIn K mainGlobals "names_of" = some (some (.ref f23))) (l23 : K.lookup f23 = some ⟨oc23, od23, .func (PySem.W.fnOf "names_of" "names_of" (defArgs s_names_of) (defBody s_names_of) (defScope s_names_of) .none kV23 dc23 pm23 an23 cd23 ct23), sl23⟩) (c23 : PySem.W.codeIn K cd23 "names_of" = true) (k23 : PySem.W.keepIn K (.ref f23) = true)
    (a24 : PySem.W.nsIn K mainGlobals "check_query" = some (some (.ref f24))) (l24 : K.lookup f24 = some ⟨oc24, od24, .func (PySem.W.fnOf "check_query" "check_query" (defArgs s_check_query) (defBody s_check_query) (defScope s_check_query) .none kV24 dc24 pm24 an24 cd24 ct24), sl24⟩) (c24 : PySem.W.codeIn K cd24 "check_query" = true) (k24 : PySem.W.keepIn K (.ref f24) = true)
    (a25 : PySem.W.nsIn K mainGlobals "check_queries" = some (some (.ref f25))) (l25 : K.lookup f25 = some ⟨oc25, od25, .func (PySem.W.fnOf "check_queries" "check_queries" (defArgs s_check_queries) (defBody s_check_queries) (defScope s_check_queries) .none kV25 dc25 pm25 an25 cd25 ct25), sl25⟩) (c25 : PySem.W.codeIn K cd25 "check_queries" = true) (k25 : PySem.W.keepIn K (.ref f25) = true)
    (a26 : PySem.W.nsIn K mainGlobals "check_price" = some (some (.ref f26))) (l26 : K.lookup f26 = some ⟨oc26, od26, .func (PySem.W.fnOf "check_price" "check_price" (defArgs s_check_price) (defBody s_check_price) (defScope s_check_price) .none kV26 dc26 pm26 an26 cd26 ct26), sl26⟩) (c26 : PySem.W.codeIn K cd26 "check_price" = true) (k26 : PySem.W.keepIn K (.ref f26) = true)
    (a27 : PySem.W.nsIn K mainGlobals "check_prices" = some (some (.ref f27))) (l27 : K.lookup f27 = some ⟨oc27, od27, .func (PySem.W.fnOf "check_prices" "check_prices" (defArgs s_check_prices) (defBody s_check_prices) (defScope s_check_prices) .none kV27 dc27 pm27 an27 cd27 ct27), sl27⟩) (c27 : PySem.W.codeIn K cd27 "check_prices" = true) (k27 : PySem.W.keepIn K (.ref f27) = true)
    (a28 : PySem.W.nsIn K mainGlobals "check_problem" = some (some (.ref f28))) (l28 : K.lookup f28 = some ⟨oc28, od28, .func (PySem.W.fnOf "check_problem" "check_problem" (defArgs s_check_problem) (defBody s_check_problem) (defScope s_check_problem) (.ref T28) kV28 dc28 pm28 an28 cd28 ct28), sl28⟩) (c28 : PySem.W.codeIn K cd28 "check_problem" = true) (k28 : PySem.W.keepIn K (.ref f28) = true)
    (d28 : K.lookup T28 = some ⟨oC28, oD28, .seq #[.none] n28, sD28⟩)
    (a29 : PySem.W.nsIn K mainGlobals "asked_rows" = some (some (.ref f29))) (l29 : K.lookup f29 = some ⟨oc29, od29, .func (PySem.W.fnOf "asked_rows" "asked_rows" (defArgs s_asked_rows) (defBody s_asked_rows) (defScope s_asked_rows) .none kV29 dc29 pm29 an29 cd29 ct29), sl29⟩) (c29 : PySem.W.codeIn K cd29 "asked_rows" = true) (k29 : PySem.W.keepIn K (.ref f29) = true)
    (a30 : PySem.W.nsIn K mainGlobals "negated" = some (some (.ref f30))) (l30 : K.lookup f30 = some ⟨oc30, od30, .func (PySem.W.fnOf "negated" "negated" (defArgs s_negated) (defBody s_negated) (defScope s_negated) .none kV30 dc30 pm30 an30 cd30 ct30), sl30⟩) (c30 : PySem.W.codeIn K cd30 "negated" = true) (k30 : PySem.W.keepIn K (.ref f30) = true)
    (a31 : PySem.W.nsIn K mainGlobals "mirrored" = some (some (.ref f31))) (l31 : K.lookup f31 = some ⟨oc31, od31, .func (PySem.W.fnOf "mirrored" "mirrored" (defArgs s_mirrored) (defBody s_mirrored) (defScope s_mirrored) .none kV31 dc31 pm31 an31 cd31 ct31), sl31⟩) (c31 : PySem.W.codeIn K cd31 "mirrored" = true) (k31 : PySem.W.keepIn K (.ref f31) = true)
    (a32 : PySem.W.nsIn K mainGlobals "query_rows" = some (some (.ref f32))) (l32 : K.lookup f32 = some ⟨oc32, od32, .func (PySem.W.fnOf "query_rows" "query_rows" (defArgs s_query_rows) (defBody s_query_rows) (defScope s_query_rows) .none kV32 dc32 pm32 an32 cd32 ct32), sl32⟩) (c32 : PySem.W.codeIn K cd32 "query_rows" = true) (k32 : PySem.W.keepIn K (.ref f32) = true)
    (a33 : PySem.W.nsIn K mainGlobals "is_known" = some (some (.ref f33))) (l33 : K.lookup f33 = some ⟨oc33, od33, .func (PySem.W.fnOf "is_known" "is_known" (defArgs s_is_known) (defBody s_is_known) (defScope s_is_known) .none kV33 dc33 pm33 an33 cd33 ct33), sl33⟩) (c33 : PySem.W.codeIn K cd33 "is_known" = true) (k33 : PySem.W.keepIn K (.ref f33) = true)
    (a34 : PySem.W.nsIn K mainGlobals "unknown_rows" = some (some (.ref f34))) (l34 : K.lookup f34 = some ⟨oc34, od34, .func (PySem.W.fnOf "unknown_rows" "unknown_rows" (defArgs s_unknown_rows) (defBody s_unknown_rows) (defScope s_unknown_rows) .none kV34 dc34 pm34 an34 cd34 ct34), sl34⟩) (c34 : PySem.W.codeIn K cd34 "unknown_rows" = true) (k34 : PySem.W.keepIn K (.ref f34) = true)
    (a35 : PySem.W.nsIn K mainGlobals "lies_inside" = some (some (.ref f35))) (l35 : K.lookup f35 = some ⟨oc35, od35, .func (PySem.W.fnOf "lies_inside" "lies_inside" (defArgs s_lies_inside) (defBody s_lies_inside) (defScope s_lies_inside) .none kV35 dc35 pm35 an35 cd35 ct35), sl35⟩) (c35 : PySem.W.codeIn K cd35 "lies_inside" = true) (k35 : PySem.W.keepIn K (.ref f35) = true)
    (a36 : PySem.W.nsIn K mainGlobals "at_most" = some (some (.ref f36))) (l36 : K.lookup f36 = some ⟨oc36, od36, .func (PySem.W.fnOf "at_most" "at_most" (defArgs s_at_most) (defBody s_at_most) (defScope s_at_most) .none kV36 dc36 pm36 an36 cd36 ct36), sl36⟩) (c36 : PySem.W.codeIn K cd36 "at_most" = true) (k36 : PySem.W.keepIn K (.ref f36) = true)
    (a37 : PySem.W.nsIn K mainGlobals "lies_within" = some (some (.ref f37))) (l37 : K.lookup f37 = some ⟨oc37, od37, .func (PySem.W.fnOf "lies_within" "lies_within" (defArgs s_lies_within) (defBody s_lies_within) (defScope s_lies_within) .none kV37 dc37 pm37 an37 cd37 ct37), sl37⟩) (c37 : PySem.W.codeIn K cd37 "lies_within" = true) (k37 : PySem.W.keepIn K (.ref f37) = true)
    (a38 : PySem.W.nsIn K mainGlobals "sort_required" = some (some (.ref f38))) (l38 : K.lookup f38 = some ⟨oc38, od38, .func (PySem.W.fnOf "sort_required" "sort_required" (defArgs s_sort_required) (defBody s_sort_required) (defScope s_sort_required) .none kV38 dc38 pm38 an38 cd38 ct38), sl38⟩) (c38 : PySem.W.codeIn K cd38 "sort_required" = true) (k38 : PySem.W.keepIn K (.ref f38) = true)
    (a39 : PySem.W.nsIn K mainGlobals "keeps_from_frontier" = some (some (.ref f39))) (l39 : K.lookup f39 = some ⟨oc39, od39, .func (PySem.W.fnOf "keeps_from_frontier" "keeps_from_frontier" (defArgs s_keeps_from_frontier) (defBody s_keeps_from_frontier) (defScope s_keeps_from_frontier) .none kV39 dc39 pm39 an39 cd39 ct39), sl39⟩) (c39 : PySem.W.codeIn K cd39 "keeps_from_frontier" = true) (k39 : PySem.W.keepIn K (.ref f39) = true)
    (a40 : PySem.W.nsIn K mainGlobals "frontier" = some (some (.ref f40))) (l40 : K.lookup f40 = some ⟨oc40, od40, .func (PySem.W.fnOf "frontier" "frontier" (defArgs s_frontier) (defBody s_frontier) (defScope s_frontier) .none kV40 dc40 pm40 an40 cd40 ct40), sl40⟩) (c40 : PySem.W.codeIn K cd40 "frontier" = true) (k40 : PySem.W.keepIn K (.ref f40) = true)
    (a41 : PySem.W.nsIn K mainGlobals "ends_below" = some (some (.ref f41))) (l41 : K.lookup f41 = some ⟨oc41, od41, .func (PySem.W.fnOf "ends_below" "ends_below" (defArgs s_ends_below) (defBody s_ends_below) (defScope s_ends_below) .none kV41 dc41 pm41 an41 cd41 ct41), sl41⟩) (c41 : PySem.W.codeIn K cd41 "ends_below" = true) (k41 : PySem.W.keepIn K (.ref f41) = true)
    (a42 : PySem.W.nsIn K mainGlobals "min_required" = some (some (.ref f42))) (l42 : K.lookup f42 = some ⟨oc42, od42, .func (PySem.W.fnOf "min_required" "min_required" (defArgs s_min_required) (defBody s_min_required) (defScope s_min_required) .none kV42 dc42 pm42 an42 cd42 ct42), sl42⟩) (c42 : PySem.W.codeIn K cd42 "min_required" = true) (k42 : PySem.W.keepIn K (.ref f42) = true)
    (a43 : PySem.W.nsIn K mainGlobals "required_names" = some (some (.ref f43))) (l43 : K.lookup f43 = some ⟨oc43, od43, .func (PySem.W.fnOf "required_names" "required_names" (defArgs s_required_names) (defBody s_required_names) (defScope s_required_names) .none kV43 dc43 pm43 an43 cd43 ct43), sl43⟩) (c43 : PySem.W.codeIn K cd43 "required_names" = true) (k43 : PySem.W.keepIn K (.ref f43) = true)
    (a44 : PySem.W.nsIn K mainGlobals "required_items" = some (some (.ref f44))) (l44 : K.lookup f44 = some ⟨oc44, od44, .func (PySem.W.fnOf "required_items" "required_items" (defArgs s_required_items) (defBody s_required_items) (defScope s_required_items) .none kV44 dc44 pm44 an44 cd44 ct44), sl44⟩) (c44 : PySem.W.codeIn K cd44 "required_items" = true) (k44 : PySem.W.keepIn K (.ref f44) = true)
    (a45 : PySem.W.nsIn K mainGlobals "_law_items" = some (some (.ref f45))) (l45 : K.lookup f45 = some ⟨oc45, od45, .func (PySem.W.fnOf "_law_items" "_law_items" (defArgs s__law_items) (defBody s__law_items) (defScope s__law_items) .none kV45 dc45 pm45 an45 cd45 ct45), sl45⟩) (c45 : PySem.W.codeIn K cd45 "_law_items" = true) (k45 : PySem.W.keepIn K (.ref f45) = true)
    (a46 : PySem.W.nsIn K mainGlobals "_law_is_known" = some (some (.ref f46))) (l46 : K.lookup f46 = some ⟨oc46, od46, .func (PySem.W.fnOf "_law_is_known" "_law_is_known" (defArgs s__law_is_known) (defBody s__law_is_known) (defScope s__law_is_known) .none kV46 dc46 pm46 an46 cd46 ct46), sl46⟩) (c46 : PySem.W.codeIn K cd46 "_law_is_known" = true) (k46 : PySem.W.keepIn K (.ref f46) = true)
    (a47 : PySem.W.nsIn K mainGlobals "_law_unknown" = some (some (.ref f47))) (l47 : K.lookup f47 = some ⟨oc47, od47, .func (PySem.W.fnOf "_law_unknown" "_law_unknown" (defArgs s__law_unknown) (defBody s__law_unknown) (defScope s__law_unknown) .none kV47 dc47 pm47 an47 cd47 ct47), sl47⟩) (c47 : PySem.W.codeIn K cd47 "_law_unknown" = true) (k47 : PySem.W.keepIn K (.ref f47) = true)
    (a48 : PySem.W.nsIn K mainGlobals "_law_at_most" = some (some (.ref f48))) (l48 : K.lookup f48 = some ⟨oc48, od48, .func (PySem.W.fnOf "_law_at_most" "_law_at_most" (defArgs s__law_at_most) (defBody s__law_at_most) (defScope s__law_at_most) .none kV48 dc48 pm48 an48 cd48 ct48), sl48⟩) (c48 : PySem.W.codeIn K cd48 "_law_at_most" = true) (k48 : PySem.W.keepIn K (.ref f48) = true)
    (a49 : PySem.W.nsIn K mainGlobals "_law_frontier" = some (some (.ref f49))) (l49 : K.lookup f49 = some ⟨oc49, od49, .func (PySem.W.fnOf "_law_frontier" "_law_frontier" (defArgs s__law_frontier) (defBody s__law_frontier) (defScope s__law_frontier) .none kV49 dc49 pm49 an49 cd49 ct49), sl49⟩) (c49 : PySem.W.codeIn K cd49 "_law_frontier" = true) (k49 : PySem.W.keepIn K (.ref f49) = true)
    (a50 : PySem.W.nsIn K mainGlobals "_law_negated" = some (some (.ref f50))) (l50 : K.lookup f50 = some ⟨oc50, od50, .func (PySem.W.fnOf "_law_negated" "_law_negated" (defArgs s__law_negated) (defBody s__law_negated) (defScope s__law_negated) .none kV50 dc50 pm50 an50 cd50 ct50), sl50⟩) (c50 : PySem.W.codeIn K cd50 "_law_negated" = true) (k50 : PySem.W.keepIn K (.ref f50) = true)
    (a51 : PySem.W.nsIn K mainGlobals "_law_mirrored" = some (some (.ref f51))) (l51 : K.lookup f51 = some ⟨oc51, od51, .func (PySem.W.fnOf "_law_mirrored" "_law_mirrored" (defArgs s__law_mirrored) (defBody s__law_mirrored) (defScope s__law_mirrored) .none kV51 dc51 pm51 an51 cd51 ct51), sl51⟩) (c51 : PySem.W.codeIn K cd51 "_law_mirrored" = true) (k51 : PySem.W.keepIn K (.ref f51) = true)
    (a52 : PySem.W.nsIn K mainGlobals "_law_inside" = some (some (.ref f52))) (l52 : K.lookup f52 = some ⟨oc52, od52, .func (PySem.W.fnOf "_law_inside" "_law_inside" (defArgs s__law_inside) (defBody s__law_inside) (defScope s__law_inside) .none kV52 dc52 pm52 an52 cd52 ct52), sl52⟩) (c52 : PySem.W.codeIn K cd52 "_law_inside" = true) (k52 : PySem.W.keepIn K (.ref f52) = true)
    (a53 : PySem.W.nsIn K mainGlobals "_law_blocks" = some (some (.ref f53))) (l53 : K.lookup f53 = some ⟨oc53, od53, .func (PySem.W.fnOf "_law_blocks" "_law_blocks" (defArgs s__law_blocks) (defBody s__law_blocks) (defScope s__law_blocks) .none kV53 dc53 pm53 an53 cd53 ct53), sl53⟩) (c53 : PySem.W.codeIn K cd53 "_law_blocks" = true) (k53 : PySem.W.keepIn K (.ref f53) = true)
    (a54 : PySem.W.nsIn K mainGlobals "_law_contains" = some (some (.ref f54))) (l54 : K.lookup f54 = some ⟨oc54, od54, .func (PySem.W.fnOf "_law_contains" "_law_contains" (defArgs s__law_contains) (defBody s__law_contains) (defScope s__law_contains) .none kV54 dc54 pm54 an54 cd54 ct54), sl54⟩) (c54 : PySem.W.codeIn K cd54 "_law_contains" = true) (k54 : PySem.W.keepIn K (.ref f54) = true)
    (a55 : PySem.W.nsIn K mainGlobals "_law_required" = some (some (.ref f55))) (l55 : K.lookup f55 = some ⟨oc55, od55, .func (PySem.W.fnOf "_law_required" "_law_required" (defArgs s__law_required) (defBody s__law_required) (defScope s__law_required) .none kV55 dc55 pm55 an55 cd55 ct55), sl55⟩) (c55 : PySem.W.codeIn K cd55 "_law_required" = true) (k55 : PySem.W.keepIn K (.ref f55) = true)
    (a56 : PySem.W.nsIn K mainGlobals "_law_by_name" = some (some (.ref f56))) (l56 : K.lookup f56 = some ⟨oc56, od56, .func (PySem.W.fnOf "_law_by_name" "_law_by_name" (defArgs s__law_by_name) (defBody s__law_by_name) (defScope s__law_by_name) .none kV56 dc56 pm56 an56 cd56 ct56), sl56⟩) (c56 : PySem.W.codeIn K cd56 "_law_by_name" = true) (k56 : PySem.W.keepIn K (.ref f56) = true)
    (a57 : PySem.W.nsIn K mainGlobals "law" = some (some (.ref f57))) (l57 : K.lookup f57 = some ⟨oc57, od57, .func (PySem.W.fnOf "law" "law" (defArgs s_law) (defBody s_law) (defScope s_law) .none kV57 dc57 pm57 an57 cd57 ct57), sl57⟩) (c57 : PySem.W.codeIn K cd57 "law" = true) (k57 : PySem.W.keepIn K (.ref f57) = true)
    (v0 : PySem.W.nsIn K mainGlobals "CAPACITY" = some (some (.int 24 tc0)))
    (v1 : PySem.W.nsIn K mainGlobals "MAX_LETTERS" = some (some (.int 6 tc1)))
    (v2 : PySem.W.nsIn K mainGlobals "MAX_PRICE" = some (some (.int 1000 tc2)))
    (v3 : PySem.W.nsIn K mainGlobals "MAX_QUERIES" = some (some (.int 8 tc3)))
    (yq0 : PySem.W.nsIn K mainGlobals "QUERY_LENGTHS" = some (some (.ref Q0))) (ye0 : K.lookup Q0 = some ⟨.type "dict", none, .dict es0 nn0, #[]⟩) (yg0 : PySem.W.KeysLit w.params es0.toList) (yw0 : (Q0 == sysModules) = false)
    (yr0_0 : PySem.W.nsIn K Q0 "sort" = some (some (.int 2 tt0_0)))
    (yr0_1 : PySem.W.nsIn K Q0 "min" = some (some (.int 2 tt0_1)))
    (yr0_2 : PySem.W.nsIn K Q0 "max" = some (some (.int 2 tt0_2)))
    (yr0_3 : PySem.W.nsIn K Q0 "above" = some (some (.int 3 tt0_3)))
    (yr0_4 : PySem.W.nsIn K Q0 "compare" = some (some (.int 3 tt0_4)))
    (g_QueryError : PySem.W.nsIn K mainGlobals "QueryError" = some (some (.ref C_QueryError)))
    (g_InvalidFraction : PySem.W.nsIn K mainGlobals "InvalidFraction" = some (some (.ref C_InvalidFraction)))
    (g_InvalidIntervals : PySem.W.nsIn K mainGlobals "InvalidIntervals" = some (some (.ref C_InvalidIntervals)))
    (g_InvalidPrice : PySem.W.nsIn K mainGlobals "InvalidPrice" = some (some (.ref C_InvalidPrice)))
    (g_InvalidQuery : PySem.W.nsIn K mainGlobals "InvalidQuery" = some (some (.ref C_InvalidQuery)))
    (zb_QueryError : PySem.W.subIn K (.ref C_QueryError) (.type "BaseException") = some true) (zi_QueryError : PySem.W.isClsIn K C_QueryError = true) (zt_QueryError : PySem.W.typeIn K (.ref C_QueryError) = some (.type "type"))
    (fQi : PySem.W.findCls K (.ref C_QueryError) (.type "type") "__init__" = some (.val (.ref f_QueryError))) (rQ : PySem.W.readsIn K C_QueryError (.type "type") = true) (gQ : PySem.W.specialIn K (.ref C_QueryError) "__getattribute__" = some (some (.builtin "type.__getattribute__"))) (vV : PySem.W.findCls K (.type "ValueError") (.type "type") "__init__" = some (.val (.builtin "ValueError.__init__")))
    (x_InvalidFraction : K.lookup C_InvalidFraction = some (excClassObj nm_InvalidFraction q_InvalidFraction C_InvalidFraction N_InvalidFraction bs_InvalidFraction bm_InvalidFraction true sn_InvalidFraction su_InvalidFraction ab_InvalidFraction co_InvalidFraction dd_InvalidFraction m0_InvalidFraction m1_InvalidFraction m2_InvalidFraction m3_InvalidFraction m5_InvalidFraction "ValueError.__new__")) (r_InvalidFraction : PySem.HandSPX.refsVE bm_InvalidFraction = true) (s_InvalidFraction_ : PySem.W.findIn K (.ref C_InvalidFraction) "__setattr__" = some (some (.builtin "object.__setattr__"))) (e_InvalidFraction : PySem.W.subIn K (.ref C_InvalidFraction) (.type "BaseException") = some true) (y_InvalidFraction : PySem.W.typeIn K (.ref C_InvalidFraction) = some (.type "type")) (p_InvalidFraction : PySem.W.keepIn K (.ref C_InvalidFraction) = true)
    (i_InvalidFraction : PySem.W.findIn K (.ref C_InvalidFraction) "__init__" = some (some (.ref f_InvalidFraction))) (u_InvalidFraction_ : PySem.W.typeIn K (.ref f_InvalidFraction) = some (.type "function")) (wg_InvalidFraction : PySem.W.findIn K (.ref C_InvalidFraction) "__getattribute__" = some (some (.builtin "BaseException.__getattribute__"))) (wh_InvalidFraction : PySem.W.findIn K (.ref C_InvalidFraction) "__getattr__" = some none) (we_InvalidFraction : PySem.W.hasDictIn K C_InvalidFraction = true)
    (ncode_InvalidFraction : PySem.W.findIn K (.ref C_InvalidFraction) "code" = some none)
    (nname_InvalidFraction : PySem.W.findIn K (.ref C_InvalidFraction) "name" = some none)
    (nindex_InvalidFraction : PySem.W.findIn K (.ref C_InvalidFraction) "index" = some none)
    (ncount_InvalidFraction : PySem.W.findIn K (.ref C_InvalidFraction) "count" = some none)
    (x_InvalidIntervals : K.lookup C_InvalidIntervals = some (excClassObj nm_InvalidIntervals q_InvalidIntervals C_InvalidIntervals N_InvalidIntervals bs_InvalidIntervals bm_InvalidIntervals true sn_InvalidIntervals su_InvalidIntervals ab_InvalidIntervals co_InvalidIntervals dd_InvalidIntervals m0_InvalidIntervals m1_InvalidIntervals m2_InvalidIntervals m3_InvalidIntervals m5_InvalidIntervals "ValueError.__new__")) (r_InvalidIntervals : PySem.HandSPX.refsVE bm_InvalidIntervals = true) (s_InvalidIntervals_ : PySem.W.findIn K (.ref C_InvalidIntervals) "__setattr__" = some (some (.builtin "object.__setattr__"))) (e_InvalidIntervals : PySem.W.subIn K (.ref C_InvalidIntervals) (.type "BaseException") = some true) (y_InvalidIntervals : PySem.W.typeIn K (.ref C_InvalidIntervals) = some (.type "type")) (p_InvalidIntervals : PySem.W.keepIn K (.ref C_InvalidIntervals) = true)
    (i_InvalidIntervals : PySem.W.findIn K (.ref C_InvalidIntervals) "__init__" = some (some (.ref f_InvalidIntervals))) (u_InvalidIntervals_ : PySem.W.typeIn K (.ref f_InvalidIntervals) = some (.type "function")) (wg_InvalidIntervals : PySem.W.findIn K (.ref C_InvalidIntervals) "__getattribute__" = some (some (.builtin "BaseException.__getattribute__"))) (wh_InvalidIntervals : PySem.W.findIn K (.ref C_InvalidIntervals) "__getattr__" = some none) (we_InvalidIntervals : PySem.W.hasDictIn K C_InvalidIntervals = true)
    (ncode_InvalidIntervals : PySem.W.findIn K (.ref C_InvalidIntervals) "code" = some none)
    (nname_InvalidIntervals : PySem.W.findIn K (.ref C_InvalidIntervals) "name" = some none)
    (nindex_InvalidIntervals : PySem.W.findIn K (.ref C_InvalidIntervals) "index" = some none)
    (ncount_InvalidIntervals : PySem.W.findIn K (.ref C_InvalidIntervals) "count" = some none)
    (x_InvalidPrice : K.lookup C_InvalidPrice = some (excClassObj nm_InvalidPrice q_InvalidPrice C_InvalidPrice N_InvalidPrice bs_InvalidPrice bm_InvalidPrice true sn_InvalidPrice su_InvalidPrice ab_InvalidPrice co_InvalidPrice dd_InvalidPrice m0_InvalidPrice m1_InvalidPrice m2_InvalidPrice m3_InvalidPrice m5_InvalidPrice "ValueError.__new__")) (r_InvalidPrice : PySem.HandSPX.refsVE bm_InvalidPrice = true) (s_InvalidPrice_ : PySem.W.findIn K (.ref C_InvalidPrice) "__setattr__" = some (some (.builtin "object.__setattr__"))) (e_InvalidPrice : PySem.W.subIn K (.ref C_InvalidPrice) (.type "BaseException") = some true) (y_InvalidPrice : PySem.W.typeIn K (.ref C_InvalidPrice) = some (.type "type")) (p_InvalidPrice : PySem.W.keepIn K (.ref C_InvalidPrice) = true)
    (i_InvalidPrice : PySem.W.findIn K (.ref C_InvalidPrice) "__init__" = some (some (.ref f_InvalidPrice))) (u_InvalidPrice_ : PySem.W.typeIn K (.ref f_InvalidPrice) = some (.type "function")) (wg_InvalidPrice : PySem.W.findIn K (.ref C_InvalidPrice) "__getattribute__" = some (some (.builtin "BaseException.__getattribute__"))) (wh_InvalidPrice : PySem.W.findIn K (.ref C_InvalidPrice) "__getattr__" = some none) (we_InvalidPrice : PySem.W.hasDictIn K C_InvalidPrice = true)
    (ncode_InvalidPrice : PySem.W.findIn K (.ref C_InvalidPrice) "code" = some none)
    (nname_InvalidPrice : PySem.W.findIn K (.ref C_InvalidPrice) "name" = some none)
    (nindex_InvalidPrice : PySem.W.findIn K (.ref C_InvalidPrice) "index" = some none)
    (ncount_InvalidPrice : PySem.W.findIn K (.ref C_InvalidPrice) "count" = some none)
    (x_InvalidQuery : K.lookup C_InvalidQuery = some (excClassObj nm_InvalidQuery q_InvalidQuery C_InvalidQuery N_InvalidQuery bs_InvalidQuery bm_InvalidQuery true sn_InvalidQuery su_InvalidQuery ab_InvalidQuery co_InvalidQuery dd_InvalidQuery m0_InvalidQuery m1_InvalidQuery m2_InvalidQuery m3_InvalidQuery m5_InvalidQuery "ValueError.__new__")) (r_InvalidQuery : PySem.HandSPX.refsVE bm_InvalidQuery = true) (s_InvalidQuery_ : PySem.W.findIn K (.ref C_InvalidQuery) "__setattr__" = some (some (.builtin "object.__setattr__"))) (e_InvalidQuery : PySem.W.subIn K (.ref C_InvalidQuery) (.type "BaseException") = some true) (y_InvalidQuery : PySem.W.typeIn K (.ref C_InvalidQuery) = some (.type "type")) (p_InvalidQuery : PySem.W.keepIn K (.ref C_InvalidQuery) = true)
    (i_InvalidQuery : PySem.W.findIn K (.ref C_InvalidQuery) "__init__" = some (some (.ref f_InvalidQuery))) (u_InvalidQuery_ : PySem.W.typeIn K (.ref f_InvalidQuery) = some (.type "function")) (wg_InvalidQuery : PySem.W.findIn K (.ref C_InvalidQuery) "__getattribute__" = some (some (.builtin "BaseException.__getattribute__"))) (wh_InvalidQuery : PySem.W.findIn K (.ref C_InvalidQuery) "__getattr__" = some none) (we_InvalidQuery : PySem.W.hasDictIn K C_InvalidQuery = true)
    (ncode_InvalidQuery : PySem.W.findIn K (.ref C_InvalidQuery) "code" = some none)
    (nname_InvalidQuery : PySem.W.findIn K (.ref C_InvalidQuery) "name" = some none)
    (nindex_InvalidQuery : PySem.W.findIn K (.ref C_InvalidQuery) "index" = some none)
    (ncount_InvalidQuery : PySem.W.findIn K (.ref C_InvalidQuery) "count" = some none)
    (l_QueryError : K.lookup f_QueryError = some ⟨oc_QueryError, od_QueryError, .func (PySem.W.fnOf "__init__" "QueryError.__init__" (defArgs s_QueryError) (defBody s_QueryError) (defScope s_QueryError) (.ref T_QueryError) kV_QueryError dc_QueryError pm_QueryError an_QueryError cd_QueryError ct_QueryError), sl_QueryError⟩) (c_QueryError : PySem.W.codeIn K cd_QueryError "QueryError.__init__" = true) (k_QueryError : PySem.W.keepIn K (.ref f_QueryError) = true)
    (d_QueryError_ : K.lookup T_QueryError = some ⟨oC_QueryError, oD_QueryError, .seq #[.str "" t0_QueryError, .str "" t1_QueryError] nD_QueryError, sD_QueryError⟩)
    (l_InvalidFraction : K.lookup f_InvalidFraction = some ⟨oc_InvalidFraction, od_InvalidFraction, .func (PySem.W.fnOf "__init__" "InvalidFraction.__init__" (defArgs s_InvalidFraction) (defBody s_InvalidFraction) (defScope s_InvalidFraction) (.ref T_InvalidFraction) kV_InvalidFraction dc_InvalidFraction pm_InvalidFraction an_InvalidFraction cd_InvalidFraction ct_InvalidFraction), sl_InvalidFraction⟩) (c_InvalidFraction : PySem.W.codeIn K cd_InvalidFraction "InvalidFraction.__init__" = true) (k_InvalidFraction : PySem.W.keepIn K (.ref f_InvalidFraction) = true)
    (d_InvalidFraction_ : K.lookup T_InvalidFraction = some ⟨oC_InvalidFraction, oD_InvalidFraction, .seq #[.str "not a reduced fraction" t0_InvalidFraction] nD_InvalidFraction, sD_InvalidFraction⟩)
    (l_InvalidIntervals : K.lookup f_InvalidIntervals = some ⟨oc_InvalidIntervals, od_InvalidIntervals, .func (PySem.W.fnOf "__init__" "InvalidIntervals.__init__" (defArgs s_InvalidIntervals) (defBody s_InvalidIntervals) (defScope s_InvalidIntervals) (.ref T_InvalidIntervals) kV_InvalidIntervals dc_InvalidIntervals pm_InvalidIntervals an_InvalidIntervals cd_InvalidIntervals ct_InvalidIntervals), sl_InvalidIntervals⟩) (c_InvalidIntervals : PySem.W.codeIn K cd_InvalidIntervals "InvalidIntervals.__init__" = true) (k_InvalidIntervals : PySem.W.keepIn K (.ref f_InvalidIntervals) = true)
    (d_InvalidIntervals_ : K.lookup T_InvalidIntervals = some ⟨oC_InvalidIntervals, oD_InvalidIntervals, .seq #[.str "not an interval list" t0_InvalidIntervals] nD_InvalidIntervals, sD_InvalidIntervals⟩)
    (l_InvalidPrice : K.lookup f_InvalidPrice = some ⟨oc_InvalidPrice, od_InvalidPrice, .func (PySem.W.fnOf "__init__" "InvalidPrice.__init__" (defArgs s_InvalidPrice) (defBody s_InvalidPrice) (defScope s_InvalidPrice) .none kV_InvalidPrice dc_InvalidPrice pm_InvalidPrice an_InvalidPrice cd_InvalidPrice ct_InvalidPrice), sl_InvalidPrice⟩) (c_InvalidPrice : PySem.W.codeIn K cd_InvalidPrice "InvalidPrice.__init__" = true) (k_InvalidPrice : PySem.W.keepIn K (.ref f_InvalidPrice) = true)
    (l_InvalidQuery : K.lookup f_InvalidQuery = some ⟨oc_InvalidQuery, od_InvalidQuery, .func (PySem.W.fnOf "__init__" "InvalidQuery.__init__" (defArgs s_InvalidQuery) (defBody s_InvalidQuery) (defScope s_InvalidQuery) .none kV_InvalidQuery dc_InvalidQuery pm_InvalidQuery an_InvalidQuery cd_InvalidQuery ct_InvalidQuery), sl_InvalidQuery⟩) (c_InvalidQuery : PySem.W.codeIn K cd_InvalidQuery "InvalidQuery.__init__" = true) (k_InvalidQuery : PySem.W.keepIn K (.ref f_InvalidQuery) = true)
    (b_ValueError : PySem.W.nsIn K mainGlobals "ValueError" = some none)
    (b_abs : PySem.W.nsIn K mainGlobals "abs" = some none)
    (b_all : PySem.W.nsIn K mainGlobals "all" = some none)
    (b_any : PySem.W.nsIn K mainGlobals "any" = some none)
    (b_bool : PySem.W.nsIn K mainGlobals "bool" = some none)
    (b_dict : PySem.W.nsIn K mainGlobals "dict" = some none)
    (b_enumerate : PySem.W.nsIn K mainGlobals "enumerate" = some none)
    (b_int : PySem.W.nsIn K mainGlobals "int" = some none)
    (b_isinstance : PySem.W.nsIn K mainGlobals "isinstance" = some none)
    (b_len : PySem.W.nsIn K mainGlobals "len" = some none)
    (b_list : PySem.W.nsIn K mainGlobals "list" = some none)
    (b_range : PySem.W.nsIn K mainGlobals "range" = some none)
    (b_set : PySem.W.nsIn K mainGlobals "set" = some none)
    (b_sorted : PySem.W.nsIn K mainGlobals "sorted" = some none)
    (b_str : PySem.W.nsIn K mainGlobals "str" = some none)
    (b_tuple : PySem.W.nsIn K mainGlobals "tuple" = some none)
    (b_zip : PySem.W.nsIn K mainGlobals "zip" = some none) :
    ∃ fd : FuncData, (∀ (s : Shared) (u : Value), BindsTo s fd ⟨[u], []⟩ [("_law_script", u)]) ∧ ∀ base : Heap, K.In base → base.Ns mainGlobals mg → FnOk l.prog w K mg base (L2.CX l.prog w) 9 fa fd ["_law_script"] (spLawD K) := by
  have ee := hfa.symm.trans (PySem.W.mg_of X G a57)
  cases ee
  have F0 := fun_mk (st := Dw.sSrc) l0 c0 k0
  have A0 : At K mg "_law_source" Dw.sSrc := ⟨_, _, F0, PySem.W.mg_of X G a0⟩
  have F1 := fun_mk (st := Dw.sDraw) l1 c1 k1
  have A1 : At K mg "_law_draw" Dw.sDraw := ⟨_, _, F1, PySem.W.mg_of X G a1⟩
  have F2 := fun_mk (st := Dw.sSame) l2 c2 k2
  have A2 : At K mg "_law_same" Dw.sSame := ⟨_, _, F2, PySem.W.mg_of X G a2⟩
  have F3 := fun_mk (st := s__law_shuffled) l3 c3 k3
  have A3 : At K mg "_law_shuffled" s__law_shuffled := ⟨_, _, F3, PySem.W.mg_of X G a3⟩
  have F4 := fun_mk (st := s__law_gcd) l4 c4 k4
  have A4 : At K mg "_law_gcd" s__law_gcd := ⟨_, _, F4, PySem.W.mg_of X G a4⟩
  have F5 := fun_mk (st := s__law_reduced) l5 c5 k5
  have A5 : At K mg "_law_reduced" s__law_reduced := ⟨_, _, F5, PySem.W.mg_of X G a5⟩
  have F6 := fun_mk (st := s__law_bound) l6 c6 k6
  have A6 : At K mg "_law_bound" s__law_bound := ⟨_, _, F6, PySem.W.mg_of X G a6⟩
  have F7 := fun_mk (st := s__law_less) l7 c7 k7
  have A7 : At K mg "_law_less" s__law_less := ⟨_, _, F7, PySem.W.mg_of X G a7⟩
  have F8 := fun_mk (st := s__law_choice) l8 c8 k8
  have A8 : At K mg "_law_choice" s__law_choice := ⟨_, _, F8, PySem.W.mg_of X G a8⟩
  have F9 := fun_mk (st := s__law_interval) l9 c9 k9
  have A9 : At K mg "_law_interval" s__law_interval := ⟨_, _, F9, PySem.W.mg_of X G a9⟩
  have F10 := fun_mk (st := s__law_intervals) l10 c10 k10
  have A10 : At K mg "_law_intervals" s__law_intervals := ⟨_, _, F10, PySem.W.mg_of X G a10⟩
  have F11 := fun_mk (st := s__law_names) l11 c11 k11
  have A11 : At K mg "_law_names" s__law_names := ⟨_, _, F11, PySem.W.mg_of X G a11⟩
  have F12 := fun_mk (st := s__law_all_bounds) l12 c12 k12
  have A12 : At K mg "_law_all_bounds" s__law_all_bounds := ⟨_, _, F12, PySem.W.mg_of X G a12⟩
  have F13 := fun_mk (st := s__law_query) l13 c13 k13
  have A13 : At K mg "_law_query" s__law_query := ⟨_, _, F13, PySem.W.mg_of X G a13⟩
  have F14 := fun_mk (st := s_greatest_divisor) l14 c14 k14
  have A14 : At K mg "greatest_divisor" s_greatest_divisor := ⟨_, _, F14, PySem.W.mg_of X G a14⟩
  have F15 := fun_mk (st := s_is_fraction) l15 c15 k15
  have A15 : At K mg "is_fraction" s_is_fraction := ⟨_, _, F15, PySem.W.mg_of X G a15⟩
  have F16 := fun_mk (st := s_check_fraction) l16 c16 k16
  have A16 : At K mg "check_fraction" s_check_fraction := ⟨_, _, F16, PySem.W.mg_of X G a16⟩
  have F17 := fun_mk (st := s_less) l17 c17 k17
  have A17 : At K mg "less" s_less := ⟨_, _, F17, PySem.W.mg_of X G a17⟩
  have F18 := fun_mk (st := s_is_name) l18 c18 k18
  have A18 : At K mg "is_name" s_is_name := ⟨_, _, F18, PySem.W.mg_of X G a18⟩
  have F19 := fun_mk (st := s_check_intervals) l19 c19 k19
  have A19 : At K mg "check_intervals" s_check_intervals := ⟨_, _, F19, PySem.W.mg_of X G a19⟩
  have F20 := fun_mk (st := s_item_names) l20 c20 k20
  have A20 : At K mg "item_names" s_item_names := ⟨_, _, F20, PySem.W.mg_of X G a20⟩
  have F21 := fun_mk (st := s_has_query_form) l21 c21 k21
  have A21 : At K mg "has_query_form" s_has_query_form := ⟨_, _, F21, PySem.W.mg_of X G a21⟩
  have F22 := fun_mk (st := s_are_query_names) l22 c22 k22
  have A22 : At K mg "are_query_names" s_are_query_names := ⟨_, _, F22, PySem.W.mg_of X G a22⟩
  have F23 := fun_mk (st := s_names_of) l23 c23 k23
  have A23 : At K mg "names_of" s_names_of := ⟨_, _, F23, PySem.W.mg_of X G a23⟩
  have F24 := fun_mk (st := s_check_query) l24 c24 k24
  have A24 : At K mg "check_query" s_check_query := ⟨_, _, F24, PySem.W.mg_of X G a24⟩
  have F25 := fun_mk (st := s_check_queries) l25 c25 k25
  have A25 : At K mg "check_queries" s_check_queries := ⟨_, _, F25, PySem.W.mg_of X G a25⟩
  have F26 := fun_mk (st := s_check_price) l26 c26 k26
  have A26 : At K mg "check_price" s_check_price := ⟨_, _, F26, PySem.W.mg_of X G a26⟩
  have F27 := fun_mk (st := s_check_prices) l27 c27 k27
  have A27 : At K mg "check_prices" s_check_prices := ⟨_, _, F27, PySem.W.mg_of X G a27⟩
  have F28 : FunD K "check_problem" "check_problem" (defArgs s_check_problem) (defBody s_check_problem) (defScope s_check_problem) [V.non] [] f28 _ := ⟨⟨_, _, _, _, _, _, _, _, _, _, rfl, l28, c28, .inr ⟨by simp, T28, _, _, _, rfl, d28, rfl, (.cons rfl .nil)⟩, .inl rfl⟩, k28⟩
  have F29 := fun_mk (st := s_asked_rows) l29 c29 k29
  have A29 : At K mg "asked_rows" s_asked_rows := ⟨_, _, F29, PySem.W.mg_of X G a29⟩
  have F30 := fun_mk (st := s_negated) l30 c30 k30
  have A30 : At K mg "negated" s_negated := ⟨_, _, F30, PySem.W.mg_of X G a30⟩
  have F31 := fun_mk (st := s_mirrored) l31 c31 k31
  have A31 : At K mg "mirrored" s_mirrored := ⟨_, _, F31, PySem.W.mg_of X G a31⟩
  have F32 := fun_mk (st := s_query_rows) l32 c32 k32
  have A32 : At K mg "query_rows" s_query_rows := ⟨_, _, F32, PySem.W.mg_of X G a32⟩
  have F33 := fun_mk (st := s_is_known) l33 c33 k33
  have A33 : At K mg "is_known" s_is_known := ⟨_, _, F33, PySem.W.mg_of X G a33⟩
  have F34 := fun_mk (st := s_unknown_rows) l34 c34 k34
  have A34 : At K mg "unknown_rows" s_unknown_rows := ⟨_, _, F34, PySem.W.mg_of X G a34⟩
  have F35 := fun_mk (st := s_lies_inside) l35 c35 k35
  have A35 : At K mg "lies_inside" s_lies_inside := ⟨_, _, F35, PySem.W.mg_of X G a35⟩
  have F36 := fun_mk (st := s_at_most) l36 c36 k36
  have A36 : At K mg "at_most" s_at_most := ⟨_, _, F36, PySem.W.mg_of X G a36⟩
  have F37 := fun_mk (st := s_lies_within) l37 c37 k37
  have A37 : At K mg "lies_within" s_lies_within := ⟨_, _, F37, PySem.W.mg_of X G a37⟩
  have F38 := fun_mk (st := s_sort_required) l38 c38 k38
  have A38 : At K mg "sort_required" s_sort_required := ⟨_, _, F38, PySem.W.mg_of X G a38⟩
  have F39 := fun_mk (st := s_keeps_from_frontier) l39 c39 k39
  have A39 : At K mg "keeps_from_frontier" s_keeps_from_frontier := ⟨_, _, F39, PySem.W.mg_of X G a39⟩
  have F40 := fun_mk (st := s_frontier) l40 c40 k40
  have A40 : At K mg "frontier" s_frontier := ⟨_, _, F40, PySem.W.mg_of X G a40⟩
  have F41 := fun_mk (st := s_ends_below) l41 c41 k41
  have A41 : At K mg "ends_below" s_ends_below := ⟨_, _, F41, PySem.W.mg_of X G a41⟩
  have F42 := fun_mk (st := s_min_required) l42 c42 k42
  have A42 : At K mg "min_required" s_min_required := ⟨_, _, F42, PySem.W.mg_of X G a42⟩
  have F43 := fun_mk (st := s_required_names) l43 c43 k43
  have A43 : At K mg "required_names" s_required_names := ⟨_, _, F43, PySem.W.mg_of X G a43⟩
  have F44 := fun_mk (st := s_required_items) l44 c44 k44
  have A44 : At K mg "required_items" s_required_items := ⟨_, _, F44, PySem.W.mg_of X G a44⟩
  have F45 := fun_mk (st := s__law_items) l45 c45 k45
  have A45 : At K mg "_law_items" s__law_items := ⟨_, _, F45, PySem.W.mg_of X G a45⟩
  have F46 := fun_mk (st := s__law_is_known) l46 c46 k46
  have A46 : At K mg "_law_is_known" s__law_is_known := ⟨_, _, F46, PySem.W.mg_of X G a46⟩
  have F47 := fun_mk (st := s__law_unknown) l47 c47 k47
  have A47 : At K mg "_law_unknown" s__law_unknown := ⟨_, _, F47, PySem.W.mg_of X G a47⟩
  have F48 := fun_mk (st := s__law_at_most) l48 c48 k48
  have A48 : At K mg "_law_at_most" s__law_at_most := ⟨_, _, F48, PySem.W.mg_of X G a48⟩
  have F49 := fun_mk (st := s__law_frontier) l49 c49 k49
  have A49 : At K mg "_law_frontier" s__law_frontier := ⟨_, _, F49, PySem.W.mg_of X G a49⟩
  have F50 := fun_mk (st := s__law_negated) l50 c50 k50
  have A50 : At K mg "_law_negated" s__law_negated := ⟨_, _, F50, PySem.W.mg_of X G a50⟩
  have F51 := fun_mk (st := s__law_mirrored) l51 c51 k51
  have A51 : At K mg "_law_mirrored" s__law_mirrored := ⟨_, _, F51, PySem.W.mg_of X G a51⟩
  have F52 := fun_mk (st := s__law_inside) l52 c52 k52
  have A52 : At K mg "_law_inside" s__law_inside := ⟨_, _, F52, PySem.W.mg_of X G a52⟩
  have F53 := fun_mk (st := s__law_blocks) l53 c53 k53
  have A53 : At K mg "_law_blocks" s__law_blocks := ⟨_, _, F53, PySem.W.mg_of X G a53⟩
  have F54 := fun_mk (st := s__law_contains) l54 c54 k54
  have A54 : At K mg "_law_contains" s__law_contains := ⟨_, _, F54, PySem.W.mg_of X G a54⟩
  have F55 := fun_mk (st := s__law_required) l55 c55 k55
  have A55 : At K mg "_law_required" s__law_required := ⟨_, _, F55, PySem.W.mg_of X G a55⟩
  have F56 := fun_mk (st := s__law_by_name) l56 c56 k56
  have A56 : At K mg "_law_by_name" s__law_by_name := ⟨_, _, F56, PySem.W.mg_of X G a56⟩
  have F57 := fun_mk (st := s_law) l57 c57 k57
  have F_QueryError : FunD K "__init__" "QueryError.__init__" (defArgs s_QueryError) (defBody s_QueryError) (defScope s_QueryError) [.str "", .str ""] [] f_QueryError _ := ⟨⟨_, _, _, _, _, _, _, _, _, _, rfl, l_QueryError, c_QueryError, .inr ⟨by simp, T_QueryError, _, _, _, rfl, d_QueryError_, rfl, (.cons ⟨_, rfl⟩ (.cons ⟨_, rfl⟩ .nil))⟩, .inl rfl⟩, k_QueryError⟩
  obtain ⟨ds_QueryError, v_QueryError, B_QueryError⟩ := F_QueryError.binds1 (ps := ["self", "message", "code"]) 3 2 (by simp) rfl (fun T kV doc pm an cdv ct us its h1 h2 => match us, h1, its, h2 with | [_, _, _], _, [_, _], _ => ⟨_, rfl, rfl⟩)
  cases v_QueryError
  have F_InvalidFraction : FunD K "__init__" "InvalidFraction.__init__" (defArgs s_InvalidFraction) (defBody s_InvalidFraction) (defScope s_InvalidFraction) [.str "not a reduced fraction"] [] f_InvalidFraction _ := ⟨⟨_, _, _, _, _, _, _, _, _, _, rfl, l_InvalidFraction, c_InvalidFraction, .inr ⟨by simp, T_InvalidFraction, _, _, _, rfl, d_InvalidFraction_, rfl, (.cons ⟨_, rfl⟩ .nil)⟩, .inl rfl⟩, k_InvalidFraction⟩
  obtain ⟨ds_InvalidFraction, v_InvalidFraction, B_InvalidFraction⟩ := F_InvalidFraction.binds1 (ps := ["self", "message"]) 2 1 (by simp) rfl (fun T kV doc pm an cdv ct us its h1 h2 => match us, h1, its, h2 with | [_, _], _, [_], _ => ⟨_, rfl, rfl⟩)
  cases v_InvalidFraction
  have F_InvalidIntervals : FunD K "__init__" "InvalidIntervals.__init__" (defArgs s_InvalidIntervals) (defBody s_InvalidIntervals) (defScope s_InvalidIntervals) [.str "not an interval list"] [] f_InvalidIntervals _ := ⟨⟨_, _, _, _, _, _, _, _, _, _, rfl, l_InvalidIntervals, c_InvalidIntervals, .inr ⟨by simp, T_InvalidIntervals, _, _, _, rfl, d_InvalidIntervals_, rfl, (.cons ⟨_, rfl⟩ .nil)⟩, .inl rfl⟩, k_InvalidIntervals⟩
  obtain ⟨ds_InvalidIntervals, v_InvalidIntervals, B_InvalidIntervals⟩ := F_InvalidIntervals.binds1 (ps := ["self", "message"]) 2 1 (by simp) rfl (fun T kV doc pm an cdv ct us its h1 h2 => match us, h1, its, h2 with | [_, _], _, [_], _ => ⟨_, rfl, rfl⟩)
  cases v_InvalidIntervals
  have F_InvalidPrice := fun_mk (st := s_InvalidPrice) l_InvalidPrice c_InvalidPrice k_InvalidPrice
  have B_InvalidPrice := F_InvalidPrice.binds (ps := ["self", "name"]) fun _ _ _ _ _ _ us hl => match us, hl with | [_, _], _ => rfl
  have F_InvalidQuery := fun_mk (st := s_InvalidQuery) l_InvalidQuery c_InvalidQuery k_InvalidQuery
  have B_InvalidQuery := F_InvalidQuery.binds (ps := ["self", "index"]) fun _ _ _ _ _ _ us hl => match us, hl with | [_, _], _ => rfl
  have oe_InvalidFraction : OexC K C_InvalidFraction := ⟨⟨_, _, _, _, _, _, _, _, _, _, _, _, _, _, _, x_InvalidFraction, r_InvalidFraction⟩, s_InvalidFraction_, e_InvalidFraction, y_InvalidFraction, p_InvalidFraction⟩
  have oe_InvalidIntervals : OexC K C_InvalidIntervals := ⟨⟨_, _, _, _, _, _, _, _, _, _, _, _, _, _, _, x_InvalidIntervals, r_InvalidIntervals⟩, s_InvalidIntervals_, e_InvalidIntervals, y_InvalidIntervals, p_InvalidIntervals⟩
  have oe_InvalidPrice : OexC K C_InvalidPrice := ⟨⟨_, _, _, _, _, _, _, _, _, _, _, _, _, _, _, x_InvalidPrice, r_InvalidPrice⟩, s_InvalidPrice_, e_InvalidPrice, y_InvalidPrice, p_InvalidPrice⟩
  have oe_InvalidQuery : OexC K C_InvalidQuery := ⟨⟨_, _, _, _, _, _, _, _, _, _, _, _, _, _, _, x_InvalidQuery, r_InvalidQuery⟩, s_InvalidQuery_, e_InvalidQuery, y_InvalidQuery, p_InvalidQuery⟩
  refine ⟨PySem.W.fnOf "law" "law" (defArgs s_law) (defBody s_law) (defScope s_law) .none kV57 dc57 pm57 an57 cd57 ct57, fun s v => .of_eq rfl, fun base _ _ => ?_⟩
  have B : Blt mg := ⟨(PySem.W.mg_none_of X G b_abs), (PySem.W.mg_none_of X G b_all), (PySem.W.mg_none_of X G b_any), (PySem.W.mg_none_of X G b_dict), (PySem.W.mg_none_of X G b_enumerate), (PySem.W.mg_none_of X G b_int), (PySem.W.mg_none_of X G b_isinstance), (PySem.W.mg_none_of X G b_len), (PySem.W.mg_none_of X G b_list), (PySem.W.mg_none_of X G b_range), (PySem.W.mg_none_of X G b_set), (PySem.W.mg_none_of X G b_sorted), (PySem.W.mg_none_of X G b_str), (PySem.W.mg_none_of X G b_tuple)⟩
  have GT0 : GetK K w Q0 tb_QUERY_LENGTHS := by
    refine ⟨⟨es0, nn0, ye0, yg0, yw0⟩, fun z y e => ?_⟩
    unfold tb_QUERY_LENGTHS at e
    simp only [List.lookup] at e
    split at e
    · rename_i hz
      cases e
      have hz := eq_of_beq hz
      subst hz
      exact ⟨_, yr0_0, .int 2, ⟨_, rfl⟩, fun _ _ => .int _⟩
    split at e
    · rename_i hz
      cases e
      have hz := eq_of_beq hz
      subst hz
      exact ⟨_, yr0_1, .int 2, ⟨_, rfl⟩, fun _ _ => .int _⟩
    split at e
    · rename_i hz
      cases e
      have hz := eq_of_beq hz
      subst hz
      exact ⟨_, yr0_2, .int 2, ⟨_, rfl⟩, fun _ _ => .int _⟩
    split at e
    · rename_i hz
      cases e
      have hz := eq_of_beq hz
      subst hz
      exact ⟨_, yr0_3, .int 3, ⟨_, rfl⟩, fun _ _ => .int _⟩
    split at e
    · rename_i hz
      cases e
      have hz := eq_of_beq hz
      subst hz
      exact ⟨_, yr0_4, .int 3, ⟨_, rfl⟩, fun _ _ => .int _⟩
    · cases e
  have C : Cst K w mg := ⟨⟨_, PySem.W.mg_of X G v0⟩, ⟨_, PySem.W.mg_of X G v1⟩, ⟨_, PySem.W.mg_of X G v2⟩, ⟨_, PySem.W.mg_of X G v3⟩, ⟨_, GT0, PySem.W.mg_of X G yq0⟩⟩
  have GQ : FnOk l.prog w K mg base CX0 1 f_QueryError _ ["self", "message", "code"] (spQE K) := ok_QueryError F_QueryError (PySem.W.mg_none_of X G b_ValueError) vV
  have R_InvalidFraction : ErrOk l.prog w K mg base 2 "InvalidFraction" ⟨"fraction", none, false⟩ := ⟨_, _, _, _, PySem.W.mg_of X G g_InvalidFraction, g_InvalidFraction, oe_InvalidFraction, i_InvalidFraction, u_InvalidFraction_, B_InvalidFraction, ok_InvalidFraction F_InvalidFraction GQ (PySem.W.mg_of X G g_QueryError) ⟨rQ, gQ⟩ fQi k_QueryError B_QueryError oe_InvalidFraction ncode_InvalidFraction⟩
  have R_InvalidIntervals : ErrOk l.prog w K mg base 2 "InvalidIntervals" ⟨"intervals", none, false⟩ := ⟨_, _, _, _, PySem.W.mg_of X G g_InvalidIntervals, g_InvalidIntervals, oe_InvalidIntervals, i_InvalidIntervals, u_InvalidIntervals_, B_InvalidIntervals, ok_InvalidIntervals F_InvalidIntervals GQ (PySem.W.mg_of X G g_QueryError) ⟨rQ, gQ⟩ fQi k_QueryError B_QueryError oe_InvalidIntervals ncode_InvalidIntervals⟩
  have R_InvalidPrice : ErrOk l.prog w K mg base 2 "InvalidPrice" ⟨"price", some "name", false⟩ := ⟨_, _, _, _, PySem.W.mg_of X G g_InvalidPrice, g_InvalidPrice, oe_InvalidPrice, i_InvalidPrice, u_InvalidPrice_, B_InvalidPrice, ok_InvalidPrice F_InvalidPrice GQ (PySem.W.mg_of X G g_QueryError) ⟨rQ, gQ⟩ fQi k_QueryError B_QueryError oe_InvalidPrice ncode_InvalidPrice nname_InvalidPrice⟩
  have R_InvalidQuery : ErrOk l.prog w K mg base 2 "InvalidQuery" ⟨"query", some "index", true⟩ := ⟨_, _, _, _, PySem.W.mg_of X G g_InvalidQuery, g_InvalidQuery, oe_InvalidQuery, i_InvalidQuery, u_InvalidQuery_, B_InvalidQuery, ok_InvalidQuery F_InvalidQuery GQ (PySem.W.mg_of X G g_QueryError) ⟨rQ, gQ⟩ fQi k_QueryError B_QueryError oe_InvalidQuery ncode_InvalidQuery nindex_InvalidQuery⟩
  have BS := F0.binds (ps := ["_law_script"]) fun _ _ _ _ _ _ us hl => match us, hl with | [_], _ => rfl
  have GS : FnOk l.prog w K mg base CX0 1 f0 _ ["_law_script"] (Dw.spSrc K) := Dw.ok_src F0 (PySem.W.mg_none_of X G b_list)
  have G__law_draw : Ok l.prog w K mg base 1 "_law_draw" 2 drawD := ⟨_, _, _, PySem.W.mg_of X G a1, k1, F1.binds (ps := ["_law_source_here", "_law_count"]) (fun _ _ _ _ _ _ us hl => match us, hl with | [_, _], _ => rfl), ok_drawD (Dw.ok_draw F1 (PySem.W.mg_none_of X G b_len) (PySem.W.mg_none_of X G b_abs)) rfl⟩
  have BM := F2.binds (ps := ["_law_found", "_law_expected"]) fun _ _ _ _ _ _ us hl => match us, hl with | [_, _], _ => rfl
  have G__law_same : Ok l.prog w K mg base 5 "_law_same" 2 (sameM 3) := ⟨_, _, _, PySem.W.mg_of X G a2, k2, BM, ok_sameD (Dw.ok_same F2 (PySem.W.mg_of X G a2) BM ⟨(PySem.W.mg_none_of X G b_isinstance), (PySem.W.mg_none_of X G b_list), (PySem.W.mg_none_of X G b_tuple), (PySem.W.mg_none_of X G b_len), (PySem.W.mg_none_of X G b_all), (PySem.W.mg_none_of X G b_zip), (PySem.W.mg_none_of X G b_bool), (PySem.W.mg_none_of X G b_int), (PySem.W.mg_none_of X G b_dict), (PySem.W.mg_none_of X G b_str)⟩ 3)⟩
  have G__law_shuffled := o__law_shuffled (P := l.prog) (w := w) (base := base) A3 G__law_draw B
  have G__law_gcd := o__law_gcd (P := l.prog) (w := w) (base := base) A4 B
  have G__law_reduced := o__law_reduced (P := l.prog) (w := w) (base := base) A5 G__law_gcd
  have G__law_bound := o__law_bound (P := l.prog) (w := w) (base := base) A6 G__law_draw G__law_reduced
  have G__law_less := o__law_less (P := l.prog) (w := w) (base := base) A7 
  have G__law_choice := o__law_choice (P := l.prog) (w := w) (base := base) A8 G__law_draw B
  have G__law_interval := o__law_interval (P := l.prog) (w := w) (base := base) A9 G__law_bound G__law_choice G__law_draw G__law_less
  have G__law_intervals := o__law_intervals (P := l.prog) (w := w) (base := base) A10 G__law_draw G__law_interval G__law_shuffled B
  have G__law_names := o__law_names (P := l.prog) (w := w) (base := base) A11 G__law_draw G__law_shuffled B
  have G__law_all_bounds := o__law_all_bounds (P := l.prog) (w := w) (base := base) A12 
  have G__law_query := o__law_query (P := l.prog) (w := w) (base := base) A13 G__law_all_bounds G__law_bound G__law_choice G__law_names G__law_shuffled B
  have G_greatest_divisor := o_greatest_divisor (P := l.prog) (w := w) (base := base) A14 B
  have G_is_fraction := o_is_fraction (P := l.prog) (w := w) (base := base) A15 G_greatest_divisor B
  have G_check_fraction := o_check_fraction (P := l.prog) (w := w) (base := base) A16 G_is_fraction R_InvalidFraction
  have G_less := o_less (P := l.prog) (w := w) (base := base) A17 
  have G_is_name := o_is_name (P := l.prog) (w := w) (base := base) A18 B C
  have G_check_intervals := o_check_intervals (P := l.prog) (w := w) (base := base) A19 G_check_fraction G_is_name G_less R_InvalidIntervals B C
  have G_item_names := o_item_names (P := l.prog) (w := w) (base := base) A20 
  have G_has_query_form := o_has_query_form (P := l.prog) (w := w) (base := base) A21 B C
  have G_are_query_names := o_are_query_names (P := l.prog) (w := w) (base := base) A22 B
  have G_names_of := o_names_of (P := l.prog) (w := w) (base := base) A23 
  have G_check_query := o_check_query (P := l.prog) (w := w) (base := base) A24 G_are_query_names G_check_fraction G_has_query_form G_names_of R_InvalidQuery
  have G_check_queries := o_check_queries (P := l.prog) (w := w) (base := base) A25 G_check_query G_item_names R_InvalidQuery B C
  have G_check_price := o_check_price (P := l.prog) (w := w) (base := base) A26 R_InvalidPrice C
  have G_check_prices := o_check_prices (P := l.prog) (w := w) (base := base) A27 G_check_price G_item_names B
  have H28 : FnOk l.prog w K mg base (L2.CX l.prog w) 7 f28 _ ["intervals", "queries", "prices"] (spX K 3 d_check_problem) := ok_defFD F28 sc_check_problem rfl (by decide) (o_check_problem (P := l.prog) (w := w) (base := base) G_check_intervals G_check_prices G_check_queries _)
  obtain ⟨ds28, vv28, bb28⟩ := F28.binds1 (ps := ["intervals", "queries", "prices"]) 3 1 (by simp) rfl (fun T kV doc pm an cdv ct us its h1 h2 => match us, h1, its, h2 with | [_, _, _], _, [_], _ => ⟨_, rfl, rfl⟩)
  cases vv28
  have G_check_problem : Ok l.prog w K mg base 7 "check_problem" 3 d_check_problem := ⟨_, _, _, PySem.W.mg_of X G a28, k28, bb28, H28⟩
  obtain ⟨ds28_2, vv28_2, bb28_2⟩ := F28.binds1 (ps := ["intervals", "queries", "prices"]) 2 0 (by simp) rfl (fun T kV doc pm an cdv ct us its h1 h2 => match us, h1, its, h2 with | [_, _], _, [_], _ => ⟨_, rfl, rfl⟩)
  have G_check_problem_2 : OkD l.prog w K mg base 7 "check_problem" 3 [V.non] [PyData.none] d_check_problem := ⟨_, _, _, ds28_2, PySem.W.mg_of X G a28, k28, bb28_2, vv28_2, fun _ _ => (.cons .non .nil), H28⟩
  have G_asked_rows := o_asked_rows (P := l.prog) (w := w) (base := base) A29 G_names_of
  have G_negated := o_negated (P := l.prog) (w := w) (base := base) A30 
  have G_mirrored := o_mirrored (P := l.prog) (w := w) (base := base) A31 G_negated
  have G_query_rows := o_query_rows (P := l.prog) (w := w) (base := base) A32 G_asked_rows G_mirrored
  have G_is_known := o_is_known (P := l.prog) (w := w) (base := base) A33 
  have G_unknown_rows := o_unknown_rows (P := l.prog) (w := w) (base := base) A34 G_is_known
  have G_lies_inside := o_lies_inside (P := l.prog) (w := w) (base := base) A35 G_less
  have G_at_most := o_at_most (P := l.prog) (w := w) (base := base) A36 G_less
  have G_lies_within := o_lies_within (P := l.prog) (w := w) (base := base) A37 G_at_most G_is_known G_lies_inside
  have G_sort_required := o_sort_required (P := l.prog) (w := w) (base := base) A38 G_lies_within G_unknown_rows B
  have G_keeps_from_frontier := o_keeps_from_frontier (P := l.prog) (w := w) (base := base) A39 G_at_most G_is_known G_less
  have G_frontier := o_frontier (P := l.prog) (w := w) (base := base) A40 G_keeps_from_frontier G_unknown_rows B
  have G_ends_below := o_ends_below (P := l.prog) (w := w) (base := base) A41 G_at_most G_is_known G_less
  have G_min_required := o_min_required (P := l.prog) (w := w) (base := base) A42 G_ends_below G_frontier B
  have G_required_names := o_required_names (P := l.prog) (w := w) (base := base) A43 G_lies_inside G_min_required G_query_rows G_sort_required
  have G_required_items := o_required_items (P := l.prog) (w := w) (base := base) A44 G_required_names G_check_problem_2
  have G__law_items := o__law_items (P := l.prog) (w := w) (base := base) A45 B
  have G__law_is_known := o__law_is_known (P := l.prog) (w := w) (base := base) A46 
  have G__law_unknown := o__law_unknown (P := l.prog) (w := w) (base := base) A47 G__law_is_known B
  have G__law_at_most := o__law_at_most (P := l.prog) (w := w) (base := base) A48 G__law_less
  have G__law_frontier := o__law_frontier (P := l.prog) (w := w) (base := base) A49 G__law_at_most G__law_is_known G__law_unknown B
  have G__law_negated := o__law_negated (P := l.prog) (w := w) (base := base) A50 
  have G__law_mirrored := o__law_mirrored (P := l.prog) (w := w) (base := base) A51 G__law_negated B
  have G__law_inside := o__law_inside (P := l.prog) (w := w) (base := base) A52 G__law_less
  have G__law_blocks := o__law_blocks (P := l.prog) (w := w) (base := base) A53 G__law_at_most G__law_is_known G__law_less
  have G__law_contains := o__law_contains (P := l.prog) (w := w) (base := base) A54 G__law_at_most G__law_inside G__law_is_known
  have G__law_required_r0 := o__law_required_r0 (P := l.prog) (w := w) (base := base) A55 G__law_blocks G__law_contains G__law_frontier G__law_inside G__law_items G__law_unknown B
  have G__law_required := o__law_required (P := l.prog) (w := w) (base := base) A55 G__law_blocks G__law_contains G__law_frontier G__law_inside G__law_items G__law_mirrored G__law_unknown G__law_required_r0 B
  have G__law_by_name := o__law_by_name (P := l.prog) (w := w) (base := base) A56 B
  exact ok_lawD (k := 8) (m := 5) F57 sc_law rfl rfl 
    (fun cdv A outer s H E hr => ps_set (i := 1) sc_law.nd rfl (by first | exact .inl rfl | exact .inr rfl) (pe_call (E := E0) (CX := CX0) GS (hr.mono (by decide)) (by rfl) (PySem.W.mg_of X G a0) k0 BS .nil pass0 (pa_cons (pv 0) pa_nil)))
    (fun cdv A outer s H E hr => o_law G__law_by_name G__law_intervals G__law_query G__law_required G__law_same G_required_items B _ cdv A outer s H E hr) law_run
end Dd
open PySem PySem.W PyProof.Rows
set_option maxRecDepth 100000 in
set_option maxHeartbeats 0 in
theorem PySem.Challenge.cw_doubtwell_k12_required_items_by_bounds_holds : PySem.Challenge.rw_doubtwell_k12_required_items_by_bounds.Holds := by
  w_on; o_law; k_head; (case hw => w_witness2)
  k_fill
  refine L2.walk_of (l := PySem.Challenge.rw_doubtwell_k12_required_items_by_bounds) (n := 63) (k := 9) (x := "_law_script") (CX := fun w => L2.CX (PySem.Challenge.rw_doubtwell_k12_required_items_by_bounds.prog) w) (sp := fun w => Dd.spLawD _) rfl (by decide) rfl ⟨rfl, by decide, by decide⟩ (fun w h Y => PySem.W.kIn_of Y) ?F (fun _ _ a ns hl _ hS => ⟨a, ns, rfl, hS, ⟨fun p hp => absurd (show p ∈ ([] : List (Addr × Str)) from hp) List.not_mem_nil, fun _ => rfl⟩⟩) ?CC
  case CC => exact Dd.cx_never
  case F =>
    intro w mg fa h KX G hmg
    refine' Dd.all_mk KX G hmg ?a0 ?l0 ?c0 ?k0 ?a1 ?l1 ?c1 ?k1 ?a2 ?l2 ?c2 ?k2 ?a3 ?l3 ?c3 ?k3 ?a4 ?l4 ?c4 ?k4 ?a5 ?l5 ?c5 ?k5 ?a6 ?l6 ?c6 ?k6 ?a7 ?l7 ?c7 ?k7 ?a8 ?l8 ?c8 ?k8 ?a9 ?l9 ?c9 ?k9 ?a10 ?l10 ?c10 ?k10 ?a11 ?l11 ?c11 ?k11 ?a12 ?l12 ?c12 ?k12 ?a13 ?l13 ?c13 ?k13 ?a14 ?l14 ?c14 ?k14 ?a15 ?l15 ?c15 ?k15 ?a16 ?l16 ?c16 ?k16 ?a17 ?l17 ?c17 ?k17 ?a18 ?l18 ?c18 ?k18 ?a19 ?l19 ?c19 ?k19 ?a20 ?l20 ?c20 ?k20 ?a21 ?l21 ?c21 ?k21 ?a22 ?l22 ?c22 ?k22 ?a23 ?l23 ?c23 ?k23 ?a24 ?l24 ?c24 ?k24 ?a25 ?l25 ?c25 ?k25 ?a26 ?l26 ?c26 ?k26 ?a27 ?l27 ?c27 ?k27 ?a28 ?l28 ?c28 ?k28 ?d28 ?a29 ?l29 ?c29 ?k29 ?a30 ?l30 ?c30 ?k30 ?a31 ?l31 ?c31 ?k31 ?a32 ?l32 ?c32 ?k32 ?a33 ?l33 ?c33 ?k33 ?a34 ?l34 ?c34 ?k34 ?a35 ?l35 ?c35 ?k35 ?a36 ?l36 ?c36 ?k36 ?a37 ?l37 ?c37 ?k37 ?a38 ?l38 ?c38 ?k38 ?a39 ?l39 ?c39 ?k39 ?a40 ?l40 ?c40 ?k40 ?a41 ?l41 ?c41 ?k41 ?a42 ?l42 ?c42 ?k42 ?a43 ?l43 ?c43 ?k43 ?a44 ?l44 ?c44 ?k44 ?a45 ?l45 ?c45 ?k45 ?a46 ?l46 ?c46 ?k46 ?a47 ?l47 ?c47 ?k47 ?a48 ?l48 ?c48 ?k48 ?a49 ?l49 ?c49 ?k49 ?a50 ?l50 ?c50 ?k50 ?a51 ?l51 ?c51 ?k51 ?a52 ?l52 ?c52 ?k52 ?a53 ?l53 ?c53 ?k53 ?a54 ?l54 ?c54 ?k54 ?a55 ?l55 ?c55 ?k55 ?a56 ?l56 ?c56 ?k56 ?a57 ?l57 ?c57 ?k57 ?v0 ?v1 ?v2 ?v3 ?yq0 ?ye0 ?yg0 ?yw0 ?yr0_0 ?yr0_1 ?yr0_2 ?yr0_3 ?yr0_4 ?g_QueryError ?g_InvalidFraction ?g_InvalidIntervals ?g_InvalidPrice ?g_InvalidQuery ?zb_QueryError ?zi_QueryError ?zt_QueryError ?fQi ?rQ ?gQ ?vV ?x_InvalidFraction ?r_InvalidFraction ?s_InvalidFraction_ ?e_InvalidFraction ?y_InvalidFraction ?p_InvalidFraction ?i_InvalidFraction ?u_InvalidFraction_ ?wg_InvalidFraction ?wh_InvalidFraction ?we_InvalidFraction ?ncode_InvalidFraction ?nname_InvalidFraction ?nindex_InvalidFraction ?ncount_InvalidFraction ?x_InvalidIntervals ?r_InvalidIntervals ?s_InvalidIntervals_ ?e_InvalidIntervals ?y_InvalidIntervals ?p_InvalidIntervals ?i_InvalidIntervals ?u_InvalidIntervals_ ?wg_InvalidIntervals ?wh_InvalidIntervals ?we_InvalidIntervals ?ncode_InvalidIntervals ?nname_InvalidIntervals ?nindex_InvalidIntervals ?ncount_InvalidIntervals ?x_InvalidPrice ?r_InvalidPrice ?s_InvalidPrice_ ?e_InvalidPrice ?y_InvalidPrice ?p_InvalidPrice ?i_InvalidPrice ?u_InvalidPrice_ ?wg_InvalidPrice ?wh_InvalidPrice ?we_InvalidPrice ?ncode_InvalidPrice ?nname_InvalidPrice ?nindex_InvalidPrice ?ncount_InvalidPrice ?x_InvalidQuery ?r_InvalidQuery ?s_InvalidQuery_ ?e_InvalidQuery ?y_InvalidQuery ?p_InvalidQuery ?i_InvalidQuery ?u_InvalidQuery_ ?wg_InvalidQuery ?wh_InvalidQuery ?we_InvalidQuery ?ncode_InvalidQuery ?nname_InvalidQuery ?nindex_InvalidQuery ?ncount_InvalidQuery ?l_QueryError ?c_QueryError ?k_QueryError ?d_QueryError_ ?l_InvalidFraction ?c_InvalidFraction ?k_InvalidFraction ?d_InvalidFraction_ ?l_InvalidIntervals ?c_InvalidIntervals ?k_InvalidIntervals ?d_InvalidIntervals_ ?l_InvalidPrice ?c_InvalidPrice ?k_InvalidPrice ?l_InvalidQuery ?c_InvalidQuery ?k_InvalidQuery ?b_ValueError ?b_abs ?b_all ?b_any ?b_bool ?b_dict ?b_enumerate ?b_int ?b_isinstance ?b_len ?b_list ?b_range ?b_set ?b_sorted ?b_str ?b_tuple ?b_zip
    (case a0 => k_is)
    (case l0 => k_is)
    (case c0 => k_is)
    (case k0 => k_is)
    (case a1 => k_is)
    (case l1 => k_is)
    (case c1 => k_is)
    (case k1 => k_is)
    (case a2 => k_is)
    (case l2 => k_is)
    (case c2 => k_is)
    (case k2 => k_is)
    (case a3 => k_is)
    (case l3 => k_is)
    (case c3 => k_is)
    (case k3 => k_is)
    (case a4 => k_is)
    (case l4 => k_is)
    (case c4 => k_is)
    (case k4 => k_is)
    (case a5 => k_is)
    (case l5 => k_is)
    (case c5 => k_is)
    (case k5 => k_is)
    (case a6 => k_is)
    (case l6 => k_is)
    (case c6 => k_is)
    (case k6 => k_is)
    (case a7 => k_is)
    (case l7 => k_is)
    (case c7 => k_is)
    (case k7 => k_is)
    (case a8 => k_is)
    (case l8 => k_is)
    (case c8 => k_is)
    (case k8 => k_is)
    (case a9 => k_is)
    (case l9 => k_is)
    (case c9 => k_is)
    (case k9 => k_is)
    (case a10 => k_is)
    (case l10 => k_is)
    (case c10 => k_is)
    (case k10 => k_is)
    (case a11 => k_is)
    (case l11 => k_is)
    (case c11 => k_is)
    (case k11 => k_is)
    (case a12 => k_is)
    (case l12 => k_is)
    (case c12 => k_is)
    (case k12 => k_is)
    (case a13 => k_is)
    (case l13 => k_is)
    (case c13 => k_is)
    (case k13 => k_is)
    (case a14 => k_is)
    (case l14 => k_is)
    (case c14 => k_is)
    (case k14 => k_is)
    (case a15 => k_is)
    (case l15 => k_is)
    (case c15 => k_is)
    (case k15 => k_is)
    (case a16 => k_is)
    (case l16 => k_is)
    (case c16 => k_is)
    (case k16 => k_is)
    (case a17 => k_is)
    (case l17 => k_is)
    (case c17 => k_is)
    (case k17 => k_is)
    (case a18 => k_is)
    (case l18 => k_is)
    (case c18 => k_is)
    (case k18 => k_is)
    (case a19 => k_is)
    (case l19 => k_is)
    (case c19 => k_is)
    (case k19 => k_is)
    (case a20 => k_is)
    (case l20 => k_is)
    (case c20 => k_is)
    (case k20 => k_is)
    (case a21 => k_is)
    (case l21 => k_is)
    (case c21 => k_is)
    (case k21 => k_is)
    (case a22 => k_is)
    (case l22 => k_is)
    (case c22 => k_is)
    (case k22 => k_is)
    (case a23 => k_is)
    (case l23 => k_is)
    (case c23 => k_is)
    (case k23 => k_is)
    (case a24 => k_is)
    (case l24 => k_is)
    (case c24 => k_is)
    (case k24 => k_is)
    (case a25 => k_is)
    (case l25 => k_is)
    (case c25 => k_is)
    (case k25 => k_is)
    (case a26 => k_is)
    (case l26 => k_is)
    (case c26 => k_is)
    (case k26 => k_is)
    (case a27 => k_is)
    (case l27 => k_is)
    (case c27 => k_is)
    (case k27 => k_is)
    (case a28 => k_is)
    (case l28 => k_is)
    (case c28 => k_is)
    (case k28 => k_is)
    (case d28 => k_is)
    (case a29 => k_is)
    (case l29 => k_is)
    (case c29 => k_is)
    (case k29 => k_is)
    (case a30 => k_is)
    (case l30 => k_is)
    (case c30 => k_is)
    (case k30 => k_is)
    (case a31 => k_is)
    (case l31 => k_is)
    (case c31 => k_is)
    (case k31 => k_is)
    (case a32 => k_is)
    (case l32 => k_is)
    (case c32 => k_is)
    (case k32 => k_is)
    (case a33 => k_is)
    (case l33 => k_is)
    (case c33 => k_is)
    (case k33 => k_is)
    (case a34 => k_is)
    (case l34 => k_is)
    (case c34 => k_is)
    (case k34 => k_is)
    (case a35 => k_is)
    (case l35 => k_is)
    (case c35 => k_is)
    (case k35 => k_is)
    (case a36 => k_is)
    (case l36 => k_is)
    (case c36 => k_is)
    (case k36 => k_is)
    (case a37 => k_is)
    (case l37 => k_is)
    (case c37 => k_is)
    (case k37 => k_is)
    (case a38 => k_is)
    (case l38 => k_is)
    (case c38 => k_is)
    (case k38 => k_is)
    (case a39 => k_is)
    (case l39 => k_is)
    (case c39 => k_is)
    (case k39 => k_is)
    (case a40 => k_is)
    (case l40 => k_is)
    (case c40 => k_is)
    (case k40 => k_is)
    (case a41 => k_is)
    (case l41 => k_is)
    (case c41 => k_is)
    (case k41 => k_is)
    (case a42 => k_is)
    (case l42 => k_is)
    (case c42 => k_is)
    (case k42 => k_is)
    (case a43 => k_is)
    (case l43 => k_is)
    (case c43 => k_is)
    (case k43 => k_is)
    (case a44 => k_is)
    (case l44 => k_is)
    (case c44 => k_is)
    (case k44 => k_is)
    (case a45 => k_is)
    (case l45 => k_is)
    (case c45 => k_is)
    (case k45 => k_is)
    (case a46 => k_is)
    (case l46 => k_is)
    (case c46 => k_is)
    (case k46 => k_is)
    (case a47 => k_is)
    (case l47 => k_is)
    (case c47 => k_is)
    (case k47 => k_is)
    (case a48 => k_is)
    (case l48 => k_is)
    (case c48 => k_is)
    (case k48 => k_is)
    (case a49 => k_is)
    (case l49 => k_is)
    (case c49 => k_is)
    (case k49 => k_is)
    (case a50 => k_is)
    (case l50 => k_is)
    (case c50 => k_is)
    (case k50 => k_is)
    (case a51 => k_is)
    (case l51 => k_is)
    (case c51 => k_is)
    (case k51 => k_is)
    (case a52 => k_is)
    (case l52 => k_is)
    (case c52 => k_is)
    (case k52 => k_is)
    (case a53 => k_is)
    (case l53 => k_is)
    (case c53 => k_is)
    (case k53 => k_is)
    (case a54 => k_is)
    (case l54 => k_is)
    (case c54 => k_is)
    (case k54 => k_is)
    (case a55 => k_is)
    (case l55 => k_is)
    (case c55 => k_is)
    (case k55 => k_is)
    (case a56 => k_is)
    (case l56 => k_is)
    (case c56 => k_is)
    (case k56 => k_is)
    (case a57 => k_is)
    (case l57 => k_is)
    (case c57 => k_is)
    (case k57 => k_is)
    (case v0 => k_is)
    (case v1 => k_is)
    (case v2 => k_is)
    (case v3 => k_is)
    (case yq0 => k_is)
    (case ye0 => k_is)
    (case yg0 => exact ⟨⟨_, _, rfl, rfl⟩, ⟨_, _, rfl, rfl⟩, ⟨_, _, rfl, rfl⟩, ⟨_, _, rfl, rfl⟩, ⟨_, _, rfl, rfl⟩, trivial⟩)
    (case yw0 => first | decide | rfl | k_is)
    (case yr0_0 => k_is)
    (case yr0_1 => k_is)
    (case yr0_2 => k_is)
    (case yr0_3 => k_is)
    (case yr0_4 => k_is)
    (case g_QueryError => k_is)
    (case g_InvalidFraction => k_is)
    (case g_InvalidIntervals => k_is)
    (case g_InvalidPrice => k_is)
    (case g_InvalidQuery => k_is)
    (case zb_QueryError => k_is)
    (case zi_QueryError => k_is)
    (case zt_QueryError => k_is)
    (case fQi => k_is)
    (case rQ => k_is)
    (case gQ => k_is)
    (case vV => first | k_is | rfl | kernel_rfl)
    (case x_InvalidFraction => k_is)
    (case r_InvalidFraction => first | k_is | rfl | kernel_rfl)
    (case s_InvalidFraction_ => k_is)
    (case e_InvalidFraction => k_is)
    (case y_InvalidFraction => k_is)
    (case p_InvalidFraction => k_is)
    (case i_InvalidFraction => k_is)
    (case u_InvalidFraction_ => k_is)
    (case wg_InvalidFraction => k_is)
    (case wh_InvalidFraction => k_is)
    (case we_InvalidFraction => k_is)
    (case ncode_InvalidFraction => k_is)
    (case nname_InvalidFraction => k_is)
    (case nindex_InvalidFraction => k_is)
    (case ncount_InvalidFraction => k_is)
    (case x_InvalidIntervals => k_is)
    (case r_InvalidIntervals => first | k_is | rfl | kernel_rfl)
    (case s_InvalidIntervals_ => k_is)
    (case e_InvalidIntervals => k_is)
    (case y_InvalidIntervals => k_is)
    (case p_InvalidIntervals => k_is)
    (case i_InvalidIntervals => k_is)
    (case u_InvalidIntervals_ => k_is)
    (case wg_InvalidIntervals => k_is)
    (case wh_InvalidIntervals => k_is)
    (case we_InvalidIntervals => k_is)
    (case ncode_InvalidIntervals => k_is)
    (case nname_InvalidIntervals => k_is)
    (case nindex_InvalidIntervals => k_is)
    (case ncount_InvalidIntervals => k_is)
    (case x_InvalidPrice => k_is)
    (case r_InvalidPrice => first | k_is | rfl | kernel_rfl)
    (case s_InvalidPrice_ => k_is)
    (case e_InvalidPrice => k_is)
    (case y_InvalidPrice => k_is)
    (case p_InvalidPrice => k_is)
    (case i_InvalidPrice => k_is)
    (case u_InvalidPrice_ => k_is)
    (case wg_InvalidPrice => k_is)
    (case wh_InvalidPrice => k_is)
    (case we_InvalidPrice => k_is)
    (case ncode_InvalidPrice => k_is)
    (case nname_InvalidPrice => k_is)
    (case nindex_InvalidPrice => k_is)
    (case ncount_InvalidPrice => k_is)
    (case x_InvalidQuery => k_is)
    (case r_InvalidQuery => first | k_is | rfl | kernel_rfl)
    (case s_InvalidQuery_ => k_is)
    (case e_InvalidQuery => k_is)
    (case y_InvalidQuery => k_is)
    (case p_InvalidQuery => k_is)
    (case i_InvalidQuery => k_is)
    (case u_InvalidQuery_ => k_is)
    (case wg_InvalidQuery => k_is)
    (case wh_InvalidQuery => k_is)
    (case we_InvalidQuery => k_is)
    (case ncode_InvalidQuery => k_is)
    (case nname_InvalidQuery => k_is)
    (case nindex_InvalidQuery => k_is)
    (case ncount_InvalidQuery => k_is)
    (case l_QueryError => k_is)
    (case c_QueryError => k_is)
    (case k_QueryError => k_is)
    (case d_QueryError_ => k_is)
    (case l_InvalidFraction => k_is)
    (case c_InvalidFraction => k_is)
    (case k_InvalidFraction => k_is)
    (case d_InvalidFraction_ => k_is)
    (case l_InvalidIntervals => k_is)
    (case c_InvalidIntervals => k_is)
    (case k_InvalidIntervals => k_is)
    (case d_InvalidIntervals_ => k_is)
    (case l_InvalidPrice => k_is)
    (case c_InvalidPrice => k_is)
    (case k_InvalidPrice => k_is)
    (case l_InvalidQuery => k_is)
    (case c_InvalidQuery => k_is)
    (case k_InvalidQuery => k_is)
    (case b_ValueError => k_is)
    (case b_abs => k_is)
    (case b_all => k_is)
    (case b_any => k_is)
    (case b_bool => k_is)
    (case b_dict => k_is)
    (case b_enumerate => k_is)
    (case b_int => k_is)
    (case b_isinstance => k_is)
    (case b_len => k_is)
    (case b_list => k_is)
    (case b_range => k_is)
    (case b_set => k_is)
    (case b_sorted => k_is)
    (case b_str => k_is)
    (case b_tuple => k_is)
    (case b_zip => k_is)
