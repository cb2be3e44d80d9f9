import PyProof.Rows.All
import Wide.All
import OpenK.AllK
import Wide.FinOn
import HandS.ForMost
import HandS.IsInst
import HandS.ClsMeth
import HandS.Codes
import HandS.Exc
import HandS.ExcOwn
import HandS.ExcInit
import HandS.ExcField
import HandS.ExcIs
import HandS.TryMany
import HandS.WordsExc
import HandS.CallSlots
import HandS.More
import KE.KExcIs
import KE.GoesEnum
import KE.GoesMore
import HandS.ExcValue
import HandS.Dict
import PyProof.ReprRoads
import PySem.Challenge.RW_lossway_k02_ring_refuses
set_option Elab.async false
set_option maxRecDepth 100000
namespace My
open PySem L2
set_option linter.all false

/-! ### an own `in` -/
section
variable {X : Cx} {CX : CXT} {k : Nat} {C g : Addr} {fd : FuncData} {ps : List Str} {sp : Sp} {E : XK}
def rOwnIn (C : Addr) (m : Bool → Bool) (sp : Sp) (E : XK) : R2 := fun x y H Q => ∃ a dx fs, y = .ref a ∧ H a = some (.ins C dx fs) ∧ sp [.ref a, x] H (fun v H' => ∃ b, v = .bl b ∧ Q (.bl (m b)) H') E
theorem op_notInOwn (mm : Meth X.K C "__contains__" g) (F : FnOk X.prog X.w X.K X.mg X.base CX k g fd ps sp) (hr : Room k X.A) (hb : Binds X.K fd ps []) (hx : Passes CX X E) : OpR X (compareOp .NotIn) (rOwnIn C not sp E) := by
  intro pins s σ H x y v u Q I rx ry h
  obtain ⟨a, dx, fs, rfl, ha, q⟩ := h
  cases (show u = Value.ref a from ry)
  obtain ⟨mA, O, _⟩ := ins_get I.hok ha
  obtain ⟨od, J, _⟩ := O.look
  obtain ⟨m, hF⟩ := I.fr
  refine PySem.W.notIn_K hF I.ok.mod.kin J mm.at_ mm.fn ?_
  refine wpAny_mono (run_fn (us := [.ref a, v]) (vs := [.ref a, x]) (ds := []) (dvs := []) F hr hb .nil hx I (.cons rfl (.cons rx .nil)) q) (fun w s' z => ?_) fun _ _ x => x
  obtain ⟨z', H', I', rz, b, eb, qz⟩ := z
  subst eb
  cases (show w = Value.bool b from rz)
  exact wpAny_truthy_bool ⟨.bl (!b), H', I', rfl, qz⟩
theorem op_inOwn (mm : Meth X.K C "__contains__" g) (F : FnOk X.prog X.w X.K X.mg X.base CX k g fd ps sp) (hr : Room k X.A) (hb : Binds X.K fd ps []) (hx : Passes CX X E) : OpR X (compareOp .In) (rOwnIn C id sp E) := by
  intro pins s σ H x y v u Q I rx ry h
  obtain ⟨a, dx, fs, rfl, ha, q⟩ := h
  cases (show u = Value.ref a from ry)
  obtain ⟨mA, O, _⟩ := ins_get I.hok ha
  obtain ⟨od, J, _⟩ := O.look
  obtain ⟨m, hF⟩ := I.fr
  refine PySem.W.in_K hF I.ok.mod.kin J mm.at_ mm.fn ?_
  refine wpAny_mono (run_fn (us := [.ref a, v]) (vs := [.ref a, x]) (ds := []) (dvs := []) F hr hb .nil hx I (.cons rfl (.cons rx .nil)) q) (fun w s' z => ?_) fun _ _ x => x
  obtain ⟨z', H', I', rz, b, eb, qz⟩ := z
  subst eb
  cases (show w = Value.bool b from rz)
  exact wpAny_truthy_bool ⟨.bl b, H', I', rfl, qz⟩
end

/-! ### heaps -/
/-- all that was tracked stands, but what is at a -/
def SameX (a : Addr) (H H' : Hp) : Prop := ∀ b o, b ≠ a → H b = some o → H' b = some o
theorem SameX.refl {a : Addr} {H : Hp} : SameX a H H := fun _ _ _ h => h
theorem SameX.trans {a : Addr} {H H1 H2 : Hp} (x : SameX a H H1) (y : SameX a H1 H2) : SameX a H H2 := fun b o n h => y b o n (x b o n h)
theorem SameX.upd {a : Addr} {H : Hp} {o : HO} : SameX a H (L2.upd H a o) := fun b _ n h => by
  rw [upd_ne n]
  exact h
theorem SameX.upd' {a : Addr} {H H1 : Hp} {o : HO} (x : SameX a H H1) : SameX a H (L2.upd H1 a o) := x.trans .upd
theorem SameX.of {a : Addr} {H H1 : Hp} (x : Same H H1) : SameX a H H1 := fun b o _ h => x b o h
theorem Same.new {H : Hp} {p : Addr} {o : HO} (h : H p = none) : Same H (upd H p o) := fun b u e => by
  rw [upd_ne (ne_of_none e h)]
  exact e
theorem SqL.now {K : PySem.W.Frag} {H : Hp} {a : Addr} {xs : List V} (h : H a = some (.lst xs)) : SqL K H a xs := SqL.of h

/-! ### the purse -/
/-- a purse's rows -/
def pur (c : Addr) (p r n s : Int) : List V := [.ref c, .int p, .int r, .int n, .int s]
structure Purse (a c : Addr) (H : Hp) : Prop where
  ex : ∃ (cs : List Int) (p : Nat) (r n s : Int), H a = some (.lst (pur c p r n s)) ∧ H c = some (.lst (cs.map V.int)) ∧ (∀ x ∈ cs, 0 ≤ x) ∧ p ≤ cs.length ∧ cs.length ≤ 63 ∧ 0 ≤ r ∧ 0 ≤ s ∧ s < 2147483647
theorem pur_ne {H : Hp} {a c c' : Addr} {p r n s : Int} {cs : List Int} (h : H a = some (.lst (pur c p r n s))) (h' : H c' = some (.lst (cs.map V.int))) : c' ≠ a := ne_of h' h (by
  intro e
  injection e with e
  cases cs with
  | nil => cases e
  | cons x r => injection e with e1 _; cases e1)
theorem lk1 {m f : Str} {v : V} (h : (m == f) = false) : List.lookup m [(f, v)] = none := by
  simp only [List.lookup, h]
theorem bl_t {p : Prop} [Decidable p] (h : p) : V.bl (decide p) = V.bl true := congrArg V.bl (decide_eq_true h)
theorem bl_f {p : Prop} [Decidable p] (h : ¬ p) : V.bl (decide p) = V.bl false := congrArg V.bl (decide_eq_false h)
theorem bln_t {p : Prop} [Decidable p] (h : p) : V.bl (!decide p) = V.bl false := by rw [decide_eq_true h]; rfl
theorem bln_f {p : Prop} [Decidable p] (h : ¬ p) : V.bl (!decide p) = V.bl true := by rw [decide_eq_false h]; rfl
theorem int_ne {a b : Int} (h : ¬ a = b) : ¬ V.int a = V.int b := fun e => h (V.int.inj e)
theorem int_eq {a b : Int} (h : a = b) : V.int a = V.int b := congrArg V.int h

theorem Purse.there {a c : Addr} {H : Hp} (P : Purse a c H) : (∃ xs, H a = some (.lst xs)) ∧ ∃ ys, H c = some (.lst ys) := by
  obtain ⟨cs, p, r, n, s, h1, h2, _⟩ := P.ex
  exact ⟨⟨_, h1⟩, _, h2⟩
/-- a purse stands where both of its lists stand -/
theorem Purse.keep {a c : Addr} {H H' : Hp} (P : Purse a c H) (h : H' a = H a) (h' : H' c = H c) : Purse a c H' := by
  obtain ⟨cs, p, r, n, s, h1, h2, q⟩ := P.ex
  exact ⟨cs, p, r, n, s, h.trans h1, h'.trans h2, q⟩
theorem Purse.same {a c : Addr} {H H' : Hp} (P : Purse a c H) (s : Same H H') : Purse a c H' := by
  obtain ⟨cs, p, r, n, z, h1, h2, q⟩ := P.ex
  exact ⟨cs, p, r, n, z, s _ _ h1, s _ _ h2, q⟩
theorem Purse.on {a c b : Addr} {H H' : Hp} (P : Purse a c H) (s : SameX b H H') (na : a ≠ b) (nc : c ≠ b) : Purse a c H' := by
  obtain ⟨cs, p, r, n, z, h1, h2, q⟩ := P.ex
  exact ⟨cs, p, r, n, z, s _ _ na h1, s _ _ nc h2, q⟩
theorem small1000' {n : Nat} (h : n < 100000) : n < sizeLine := Nat.lt_of_lt_of_le h (by decide)
theorem sqT_sm {K : PySem.W.Frag} {H H' : Hp} {a : Addr} {xs : List V} (h : SqT K H a xs) (s : Same H H') : SqT K H' a xs := by
  rcases h with (h | ⟨o, h⟩) | h
  · exact .inl (.inl (s _ _ h))
  · exact .inl (.inr ⟨o, s _ _ h⟩)
  · exact .inr h
/-! ### cls(..) where a name holds the class -/
section
variable {X : Cx} {CX : CXT} {k i : Nat} {f C : Addr} {fd : FuncData} {ps : List Str} {sp : Sp} {dvs : List V} {ds : List Value} {E : XK} {x : Str} {p pos : Pos} {e : Expr} {es : List Expr} {t : TA}
def tMakeL (i : Nat) (C : Addr) (sp : Sp) (dvs : List V) (E : XK) (t : TA) : TE := fun σ H Q => σ[i]? = some (some (.ref C)) ∧ tMake C sp dvs E t σ H Q
theorem pe_makeL (M : Mk X.K C f) (F : FnOk X.prog X.w X.K X.mg X.base CX k f fd ps sp) (hr : Room (k + 1) X.A) (hN : X.N[i]? = some x) (hv : Vis X.env.scope x) (hb : Binds X.K fd ps ds) (hd : Vals dvs ds) (hx : Passes CX X E) (ha : PA X (e :: es) t)
    (hdb : (x == ("__debug__" : Str)) = false := by decide) (hcd : (x == ("__classdict__" : Str)) = false := by decide)
    (he : starEach (e :: es) X.env = (false, eval e X.env) :: starEach es X.env := by rfl) (hpl : (PySem.backTo pos (starEach es X.env)).any (·.1) = false := by rfl) : PE X (.Call (.Name x p) (e :: es) [] pos) (tMakeL i C sp dvs E t) := by
  refine ⟨fun pins s σ H Q I h => ?_⟩
  obtain ⟨hs, ht⟩ := h
  refine PySem.wpAny_Call_Name_kw (thn ((pe_var (pos := p) hN hv hdb hcd).run pins s σ H (fun v H1 => v = .ref C ∧ H1 = H) I ⟨.ref C, hs, rfl, rfl⟩) fun u s1 ⟨v, H1, I1, r1, q1⟩ => ?_)
  obtain ⟨rfl, rfl⟩ := q1
  cases r1
  refine PySem.W.callWith_K (h₀ := X.base) I.ok.mod.kin M.kp (thn (ha.run pos pins s1 σ _ _ I1 ht) fun us s2 ⟨vs, H2, I2, r, q⟩ => ⟨I2.kIn, ?_⟩) he hpl
  exact run_make M F hr hb hd hx I2 r q
end
/-! ### several except clauses, each with or without a name -/
section
open PySem.Spec PyProof.Rows
variable {X : Cx}
/-- a clause: its class, the slot of its name, its suite -/
abbrev Cl := Value × Option Nat × (Addr → Value → Option Addr → TS)
def unN (D : Ends) (i : Nat) : Ends := { nx := fun σ H => D.nx (σ.set i none) H, rt := D.rt, bk := fun σ H => D.bk (σ.set i none) H, ct := fun σ H => D.ct (σ.set i none) H }
def clGo (D : Ends) (o : Option Nat) (t : TS) (a : Addr) (σ : L2.St) (H : Hp) : Prop := match o with
  | none => t D σ H
  | some i => t (unN D i) (σ.set i (some (.ref a))) H
def wCl (K : PySem.W.Frag) (Wout : WX) (D : Ends) : List Cl → WX
  | [] => Wout
  | (c, o, ts) :: r => fun cls d σ H => ∃ b, PySem.W.exmOne K cls c = some b ∧ (b = true → ∀ a, H a = none → clGo D o (ts a cls d) a σ H) ∧ (b = false → wCl K Wout D r cls d σ H)
inductive ClOk (X : Cx) : List ExceptHandler → List Cl → Prop
  | nil : ClOk X [] []
  | bare {x : Str} {c : Value} {ts : Addr → Value → Option Addr → TS} {b0 : Stmt} {su : List Stmt} {np ps : Pos} {hs : List ExceptHandler} {l : List Cl} (nm : Names X x c)
      (ok : ∀ (a : Addr) (oe : Obj) (cls : Value) (d : Option Addr) (pn : List (Addr × Obj)), Zc cls d oe → (∃ vs, oe.data = .fields vs) → PSs (X.suite a ((a, oe) :: pn)) (b0 :: su) (ts a cls d)) (rest : ClOk X hs l) :
      ClOk X (.ExceptHandler (some (.Name x np)) none (b0 :: su) ps :: hs) ((c, none, ts) :: l)
  | named {x n : Str} {i : Nat} {c : Value} {ts : Addr → Value → Option Addr → TS} {b0 : Stmt} {su : List Stmt} {np ps : Pos} {hs : List ExceptHandler} {l : List Cl} (nd : X.N.Nodup) (hi : X.N[i]? = some n) (lc : X.env.kindOf n = some .local) (nm : Names X x c)
      (ok : ∀ (a : Addr) (oe : Obj) (cls : Value) (d : Option Addr) (pn : List (Addr × Obj)), Zc cls d oe → (∃ vs, oe.data = .fields vs) → PSs (X.suite a ((a, oe) :: pn)) (b0 :: su) (ts a cls d)) (rest : ClOk X hs l) :
      ClOk X (.ExceptHandler (some (.Name x np)) (some n) (b0 :: su) ps :: hs) ((c, some i, ts) :: l)
theorem ps_try_cl {body : List Stmt} {h0 : ExceptHandler} {hs : List ExceptHandler} {l : List Cl} {pos : Pos} {tb : WX → TS} {Wout : WX} (st : X.stack = X.env :: X.outer) (fr : X.env.frame = some X.env.locals) (tk : Takes X Wout)
    (hb : ∀ (W : WX) (pn : List (Addr × Obj)) (xe : Value → Shared → Prop), Takes (X.tr pn xe) W → PassesOwn (model X.prog X.w) X.A X.env xe → PSs (X.tr pn xe) body (tb W))
    (hh : ClOk X (h0 :: hs) l) : PS X (.Try body (h0 :: hs) [] [] pos) (fun D σ H => tb (wCl X.K Wout D l) D σ H) := by
  refine ⟨fun pins s σ H D I h => ?_⟩
  have ok := I.ok
  have frs0 : X.A.frames = some (X.env :: X.outer) := by
    rw [ok.frames, st]
  refine wpAny_Try_except (wpAny_mono ((hb (wCl X.K Wout D l) (X.pn ++ pins) (fun e t1 => wpAny (model X.prog X.w) X.A (noteFrame e X.env) (fun _ t2 =>
    wpAny (model X.prog X.w) X.A (setFlight e none) (fun _ t3 => wpAny (model X.prog X.w) X.A (handleBy e X.env (h0 :: hs)) (SP X pins D) X.xe t3) X.xe t2) X.xe t1)
      (fun u s' xx => ?_) PassesOwn.looking).run [] s σ H D (I.toTry _) h) (fun f s1 hsp => ?_) (fun _ _ z => z))
  · obtain ⟨a, B, sI, pins', σ', H', cls, d, rfl, J', nb, up, sky, na, os, ag, w⟩ := xx
    have J := J'.ofTry ok
    have sky2 : Sky B (X.env :: X.outer) a (Zc cls d) X.env.locals s'.heap := by
      rw [← st]
      exact sky
    refine Sky.land Zc.steady frs0 fr sky2 fun g1 fl1 up1 => ?_
    have J1 : Inv X pins σ' H' { s' with heap := g1 } := J.landed nb fl1.1 (up.trans up1) os ag
    obtain ⟨o1, vs1, at1, z1, dt1⟩ := fl1.there
    have off : a ∉ frs (X.env :: X.outer) := fun hm => by
      obtain ⟨_, o', e', hnf⟩ := fl1.2.2.1.mem hm
      rw [at1] at e'
      cases e'
      exact hnf _ dt1
    have offL : a ≠ X.env.locals := fun z => off (List.mem_filterMap.mpr ⟨X.env, List.mem_cons_self, by rw [fr, z]⟩)
    have offF : a ∉ X.fs := fun hm => by
      obtain ⟨e, he, q⟩ := List.mem_filterMap.mp hm
      exact off (List.mem_filterMap.mpr ⟨e, List.mem_cons_of_mem _ he, q⟩)
    have S1 := J1.suite at1 dt1 na offL offF
    have LT : PySem.W.Looks (model X.prog X.w) g1 (typeOf (.ref a)) cls := fun A Q E s k q => wpAny_typeOf_ref (k _ _ at1) (by rw [z1.1]; exact q)
    have ask : ∀ {x : Str} {np : Pos} {c : Value}, Names X x c → ∀ {Q : Value → Shared → Prop} {E : Value → Shared → Prop}, Q c { s' with heap := g1 } →
        wpAny (model X.prog X.w) (X.A.mark (some (.ref a))) (eval (.Name x np) X.env) Q E { s' with heap := g1 } := fun {x np c} nm {Q E} q => by
      obtain ⟨hg, hdb, h1 | ⟨h1, h2, h3⟩⟩ := nm
      · exact ld_glob (X := X.suite a ((a, o1) :: (X.pn ++ pins))) S1 hg h1 q hdb
      · exact ld_blt (X := X.suite a ((a, o1) :: (X.pn ++ pins))) S1 hg h1 h2 q h3 hdb
    have go : ∀ {hs' : List ExceptHandler} {l' : List Cl}, ClOk X hs' l' → wCl X.K Wout D l' cls d σ' H' → wpAny (model X.prog X.w) X.A (handleBy (.ref a) X.env hs') (SP X pins D) X.xe { s' with heap := g1 } := by
      intro hs' l' hk
      induction hk with
      | nil =>
        intro w
        refine wpAny_handleBy_nil ?_
        obtain ⟨_, _, _, oe, vs, Tr, _, _, he, hz, hd, h1, _⟩ := id fl1
        unfold PySem.passOn
        refine wpAny_bind (wpAny_field he hd h1 ?_)
        rw [if_neg (show ¬ ((Value.ref Tr == Value.none) = true) from by simp)]
        have last : wpAny (model X.prog X.w) X.A (setFlight (.ref a) X.env.frame) (fun _ t => wpAny (model X.prog X.w) X.A (throw (.ref a) : Sem Flow) (SP X pins D) X.xe t) X.xe { s' with heap := g1 } := by
          rw [fr]
          refine HandSPX.setFlight_upZ fl1 fun g2 hh2 up2 => wpAny_throw (tk _ _ ?_)
          exact ⟨a, B, sI, pins, σ', H', cls, d, rfl, J, nb, (up.trans up1).trans up2, .inr (.inr (by rw [st]; exact hh2)), na, os, ag, w⟩
        first
          | exact wpAny_bind (wpAny_pure (wpAny_bind last))
          | exact wpAny_bind last
      | bare nm su rest ih =>
        intro w
        obtain ⟨b, hb1, yes, no⟩ := w
        have LM := PySem.W.exm_one (M := model X.prog X.w) J1.kIn LT hb1
        refine wpAny_handleBy_cons (codeAny_handlers_test (ask nm (LM.here ?_))) (fun q => by cases q)
        cases b with
        | false => exact ih (no rfl)
        | true =>
          refine codeAny_handlers_suite (HandSPX.lands_againZ fl1 fun g2 fl2 up2 => ?_)
          have J2 : Inv X pins σ' H' { s' with heap := g2 } := J.landed nb fl2.1 ((up.trans up1).trans up2) os ag
          obtain ⟨o2, vs2, at2, z2, dt2⟩ := fl2.there
          refine wpAny_mono ((su a o2 cls d (X.pn ++ pins) z2 ⟨_, dt2⟩).run [] _ _ H' _ (J2.suite at2 dt2 na offL offF) (yes rfl a na)) (fun f t hsp => ?_) (fun _ _ z => z.elim)
          cases f with
          | ret u =>
            obtain ⟨v6, σ6, H6, S6, r6, q6⟩ := hsp
            exact ⟨_, _, _, S6.unsuite ok, r6, q6⟩
          | next => exact let ⟨_, _, S6, q6⟩ := hsp; ⟨_, _, S6.unsuite ok, q6⟩
          | brk => exact let ⟨_, _, S6, q6⟩ := hsp; ⟨_, _, S6.unsuite ok, q6⟩
          | cont => exact let ⟨_, _, S6, q6⟩ := hsp; ⟨_, _, S6.unsuite ok, q6⟩
      | named nd hi lc nm su rest ih =>
        intro w
        obtain ⟨b, hb1, yes, no⟩ := w
        have LM := PySem.W.exm_one (M := model X.prog X.w) J1.kIn LT hb1
        refine wpAny_handleBy_cons (codeAny_handlers_test (ask nm (LM.here ?_))) (fun q => by cases q)
        cases b with
        | false => exact ih (no rfl)
        | true =>
          refine codeAny_handlers_suite_as (HandSPX.lands_againZ fl1 fun g2 fl2 up2 => ?_)
          have J2 : Inv X pins σ' H' { s' with heap := g2 } := J.landed nb fl2.1 ((up.trans up1).trans up2) os ag
          obtain ⟨o2, vs2, at2, z2, dt2⟩ := fl2.there
          refine store_ok (X := X.suite a ((a, o2) :: (X.pn ++ pins))) (v := .ref a) (J2.suite at2 dt2 na offL offF) nd hi (.inl lc) rfl (fun t S5 => ?_) (.inr lc)
          refine wpAny_mono ((su a o2 cls d (X.pn ++ pins) z2 ⟨_, dt2⟩).run [] t _ H' _ S5 (yes rfl a na)) (fun f t6 hsp => ?_) (fun _ _ z => z.elim)
          cases f with
          | next =>
            obtain ⟨σ6, H6, S6, q6⟩ := hsp
            exact gone_ok (S6.unsuite ok) nd hi lc fun s7 J7 => ⟨_, _, J7, q6⟩
          | brk =>
            obtain ⟨σ6, H6, S6, q6⟩ := hsp
            exact gone_ok (S6.unsuite ok) nd hi lc fun s7 J7 => ⟨_, _, J7, q6⟩
          | cont =>
            obtain ⟨σ6, H6, S6, q6⟩ := hsp
            exact gone_ok (S6.unsuite ok) nd hi lc fun s7 J7 => ⟨_, _, J7, q6⟩
          | ret u =>
            obtain ⟨v6, σ6, H6, S6, r6, q6⟩ := hsp
            exact gone_ok (S6.unsuite ok) nd hi lc fun s7 J7 => ⟨_, _, _, J7, r6, q6⟩
    exact go hh w
  · cases f with
    | ret u => exact let ⟨v, σ', H', J', r, q⟩ := hsp; ⟨v, σ', H', J'.ofTry ok, r, q⟩
    | next =>
      obtain ⟨σ', H', J', q⟩ := hsp
      exact wpAny_execs_nil ⟨σ', H', J'.ofTry ok, q⟩
    | brk => exact let ⟨σ', H', J', q⟩ := hsp; ⟨σ', H', J'.ofTry ok, q⟩
    | cont => exact let ⟨σ', H', J', q⟩ := hsp; ⟨σ', H', J'.ofTry ok, q⟩
end
/-! ### own exceptions -/
/-- what the written part says of an own exception class: the class at C, its __init__ at f -/
structure XCls (K : PySem.W.Frag) (mg : Str → Option Value) (nm : Str) (C f : Addr) : Prop where
  g : mg nm = some (.ref C)
  o : OexC K C
  i : PySem.W.findIn K (.ref C) "__init__" = some (some (.ref f))
  t : PySem.W.typeIn K (.ref f) = some (.type "function")
  x : XfC K C
  e : ExcC K C
theorem xcls_mk {K : PySem.W.Frag} {mg : Str → Option Value} {nm : Str} {C f : Addr} {n q : Str} {N : Addr} {bs bm : List Value} {sn : List Str} {sub : List Value} {ab : Bool} {col : _} {dd : Option Addr} {k0 k1 k2 k3 k5 : Option Value}
    (g : mg nm = some (.ref C)) (l : K.lookup C = some (excClassObj n q C N bs bm true sn sub ab col dd k0 k1 k2 k3 k5 "ValueError.__new__")) (bm' : PySem.HandSPX.refsVE bm = true) (sa : PySem.W.findIn K (.ref C) "__setattr__" = some (some (.builtin "object.__setattr__")))
    (ex : PySem.W.subIn K (.ref C) (.type "BaseException") = some true) (ty : PySem.W.typeIn K (.ref C) = some (.type "type")) (kp : PySem.W.keepIn K (.ref C) = true) (i : PySem.W.findIn K (.ref C) "__init__" = some (some (.ref f)))
    (t : PySem.W.typeIn K (.ref f) = some (.type "function")) (ga : PySem.W.findIn K (.ref C) "__getattribute__" = some (some (.builtin "BaseException.__getattribute__"))) (gg : PySem.W.findIn K (.ref C) "__getattr__" = some none) (hd : PySem.W.hasDictIn K C = true)
    (ha : PySem.W.findIn K (.ref C) "__class__" = some (some (.builtin "object.__class__"))) (hn : PySem.W.specialIn K (.builtin "object.__class__") "__get__" = some (some (.builtin "getset_descriptor.__get__")))
    (ht : PySem.W.takesIn K (.builtin "object.__class__") = some true) (hm : PySem.W.mroIn K C (.type "object") = some true) : XCls K mg nm C f :=
  ⟨g, ⟨⟨n, q, N, bs, bm, sn, sub, ab, col, dd, k0, k1, k2, k3, k5, l, bm'⟩, sa, ex, ty, kp⟩, i, t, ⟨ga, gg, ex, hd⟩, ⟨ga, gg, ex, hd, ha, hn, ht, hm⟩⟩
/-- __init__ of such a class: one field is stored -/
def sp_xinit (K : PySem.W.Frag) (f : Str) : Sp := fun vs H Q _ => ∃ (a C : Addr) (v : V), vs = [.ref a, v] ∧ OexC K C ∧ PySem.W.findIn K (.ref C) f = some none ∧ H a = some (exo a C none) ∧
  ∀ dx, H dx = none → dx ≠ a → Q .non (upd (upd H dx (exd dx [(f, v)])) a (exo a C (some dx)))
/-- raise C(v): what follows holds wherever the new error's dict is told, all else standing -/
theorem mkO_of {K : PySem.W.Frag} {f : Str} {C : Addr} {v : V} {H : Hp} {E : XK} (O : OexC K C) (hn : PySem.W.findIn K (.ref C) f = some none) (k : ∀ d H', H d = none → Same H H' → H' d = some (.xd [(f, v)]) → E (.ref C) (some d) H') :
    [v].length ≤ 1000 ∧ ∀ a, H a = none → sp_xinit K f (.ref a :: ([v] ++ [])) (upd H a (exo a C none))
      (fun w H2 => w = .non ∧ ∃ (d : Addr) (fs : List (Str × V)), H2 a = some (exo a C (some d)) ∧ H2 d = some (exd d fs) ∧ H d = none ∧ E (.ref C) (some d) (upd (del H2 a) d (.xd fs))) (fun _ _ _ => False) := by
  refine ⟨Nat.succ_le_succ (Nat.zero_le _), fun a ha => ⟨a, C, v, rfl, O, hn, upd_same, fun dx hdx ne => ⟨rfl, dx, [(f, v)], upd_same, ?_, ?_, ?_⟩⟩⟩
  · rw [upd_ne ne]
    exact upd_same
  · rw [upd_ne ne] at hdx
    exact hdx
  · have hdx0 : H dx = none := by
      rw [upd_ne ne] at hdx
      exact hdx
    refine k dx _ hdx0 (fun b o e => ?_) upd_same
    have nb : b ≠ dx := ne_of_none e hdx0
    have na : b ≠ a := ne_of_none e ha
    rw [upd_ne nb, del_ne na, upd_ne na, upd_ne nb, upd_ne na]
    exact e
section
variable {X : Cx} {a : Addr} {oe : Obj} {cls : Value} {d : Option Addr} {pn : List (Addr × Obj)} {n : Str}
/-- e.n in a suite, e of whichever class it is -/
def tXg (K : PySem.W.Frag) (a : Addr) (cls : Value) (d : Option Addr) (f : Str) (te : TE) : TE := fun σ H Q => te σ H fun x H1 => x = .ref a ∧ ∃ (C dd : Addr) (fs : List (Str × V)) (v : V), cls = .ref C ∧ XfC K C ∧ PySem.W.findIn K (.ref C) f = some none ∧ d = some dd ∧ H1 dd = some (.xd fs) ∧ fs.lookup f = some v ∧ Q v H1
theorem pe_xg {e : Expr} {te : TE} {pos : Pos} (hz : Zc cls d oe) (hf : ∃ vs, oe.data = .fields vs) (he : PE (X.suite a ((a, oe) :: pn)) e te)
    (hb : attributeBase e n X.env (eval e X.env) = eval e X.env := by rfl) : PE (X.suite a ((a, oe) :: pn)) (.Attribute e n pos) (tXg X.K a cls d n te) := by
  refine ⟨fun pins s σ H Q I h => ?_⟩
  refine attr_of hb (thn (he.run pins s σ H _ I h) fun u s1 hh => ?_)
  obtain ⟨x, H1, I1, rx, ex, C, dd, fs, v, ec, T, hno, ed, ea, l, q⟩ := hh
  subst ex ec ed
  obtain rfl : u = Value.ref a := rx
  obtain ⟨mA, hns, hr⟩ := (show ObjOk X.prog X.w H1 s1.heap dd (.xd fs) from I1.hok dd _ ea)
  obtain ⟨od, ho, hl⟩ := lookIn_ns hns
  obtain ⟨u, hu, ru⟩ := RelO.some_of (v := v) (o := mA n) (by rw [← l]; exact hr n)
  obtain ⟨vs, hv⟩ := hf
  have J : PySem.W.InstAt s1.heap a oe C (some od) := ⟨(I1.pin (a, oe) (List.mem_append_left _ List.mem_cons_self)).1, hz.1, by unfold PySem.W.notCls; rw [hv] <;> rfl, by rw [hz.2]; exact ho⟩
  exact PySem.HandSPX.exc_get I1.kIn J T.ga T.gg T.exC (PySem.W.findObj_own T.hdC hno rfl (by rw [hl, hu])) (handed_of ru) ⟨v, H1, I1.tok _, ru, q⟩
/-- isinstance(e, c) in a suite -/
def rIsX (K : PySem.W.Frag) (a : Addr) (cls : Value) (d : Option Addr) : List V → Hp → VK → Prop := fun xs H Q => ∃ (c : V) (cv : Value) (b : Bool) (D dd : Addr) (fs : List (Str × V)), xs = [.ref a, c] ∧ (∀ u, RelV c u → u = cv) ∧ cls = .ref D ∧ ExcC K D ∧ d = some dd ∧ H dd = some (.xd fs) ∧
  PySem.W.kitOne K (.ref D) cv = some b ∧ Q (.bl b) H
theorem call_isX (hz : Zc cls d oe) (hf : ∃ vs, oe.data = .fields vs) : CallR (X.suite a ((a, oe) :: pn)) (.builtin "isinstance") (rIsX X.K a cls d) := by
  intro pins s σ H xs us Q I r h
  obtain ⟨c, cv, b, D, dd, fs, rfl, hcv, ec, C, ed, ea, e, q⟩ := h
  subst ec ed
  obtain ⟨u1, u2, rfl, r1, r2⟩ := vals2 r
  cases (show u1 = Value.ref a from r1)
  cases (hcv _ r2)
  obtain ⟨mA, hns, hr⟩ := (show ObjOk X.prog X.w H s.heap dd (.xd fs) from I.hok dd _ ea)
  obtain ⟨od, ho, hl⟩ := lookIn_ns hns
  obtain ⟨vs, hv⟩ := hf
  have J : PySem.W.InstAt s.heap a oe D (some od) := ⟨(I.pin (a, oe) (List.mem_append_left _ List.mem_cons_self)).1, hz.1, by unfold PySem.W.notCls; rw [hv] <;> rfl, by rw [hz.2]; exact ho⟩
  obtain ⟨cd, hc, _⟩ := PySem.W.any_some C.hd
  exact PySem.W.kia_one (PySem.W.kitx_exc (by rw [hc]; rfl) C.hg C.hk C.hs C.ha C.hn C.ht C.hm) I.kIn J e (fun z => nomatch z) fun tk => ⟨.bl b, H, I.tok tk, rfl, q⟩
end
section
variable {X : Cx} {CX' : CXT} {k : Nat} {f C : Addr} {fd : FuncData} {ps : List Str} {sp : Sp} {E : St → XK} {x m : Str} {p pos apos : Pos} {e o : Expr} {es : List Expr} {ta : TE} {t : TA}
/-- o.m(..), what it lets out wished for at the caller's slots -/
def tMethX (C : Addr) (m : Str) (sp : Sp) (E : St → XK) (ta : TE) (t : TA) : TE := fun σ H Q => ta σ H fun x H1 => ∃ a dx fs, x = .ref a ∧ H1 a = some (.ins C dx fs) ∧ fs.lookup m = none ∧ t σ H1 fun vs H2 => sp (x :: vs) H2 Q (E σ)
theorem pe_methX {pl : Sem Bool} (he : PE X o ta) (c : Cls X.K C) (hm : Meth X.K C m f) (F : FnOk X.prog X.w X.K X.mg X.base CX' k f fd ps sp) (hr : Room k X.A) (hb : Binds X.K fd ps []) (hx : ∀ σ, PassesAt CX' X σ (E σ)) (ha : PA X (e :: es) t)
    (hst : starEach (e :: es) X.env = (false, eval e X.env) :: starEach es X.env := by rfl) (hpl : (PySem.backTo pos (starEach es X.env)).any (·.1) = false := by rfl)
    (ht : eval (.Call (.Attribute o m apos) (e :: es) [] pos) X.env = (eval o X.env >>= fun ov => standAt apos.atName >>= fun _ => holding [ov] (getMethod ov m pl) >>= fun fr => callWith pos fr.1 fr.2 (PySem.backTo pos (starEach (e :: es) X.env)) (backToKw pos (keywordEach [] X.env))) := by rfl) :
    PE X (.Call (.Attribute o m apos) (e :: es) [] pos) (tMethX C m sp E ta t) := by
  refine ⟨fun pins s σ H Q I h => ?_⟩
  refine PySem.W.methodCall_KW (pl := pl) (thn (he.run pins s σ H _ I h) fun u s1 ⟨x, H1, I1, rx, a, dx, fs, ex, ea, l, q⟩ => ?_) ht
  subst ex
  obtain rfl : u = Value.ref a := rx
  refine getmeth_ok I1 ea c hm l ?_
  refine PySem.W.callWith_K (h₀ := X.base) I1.ok.mod.kin hm.kp (thn (ha.run pos pins s1 σ H1 _ I1 q) fun us s2 ⟨vs, H2, I2, r, q2⟩ => ⟨I2.kIn, ?_⟩) hst hpl
  exact run_fnS (us := .ref a :: us) (vs := .ref a :: vs) F hr hb (hx σ) I2 (.cons rfl r) q2
end
/-- a class that is only named -/
structure GCls (mg : Str → Option Value) (nm : Str) (C : Addr) : Prop where
  g : mg nm = some (.ref C)
/-! ### defs that ask for a text of data: nothing is being shown meanwhile -/
section
open PySem.Spec PyProof.Rows
section
variable {P : Program} {w : World} {K : PySem.W.Frag} {mg : Str → Option Value} {base : Heap}
/-- a def's promise, wanted only while no repr is under way -/
structure FnStill (P : Program) (w : World) (K : PySem.W.Frag) (mg : Str → Option Value) (base : Heap) (k : Nat) (f : Addr) (fd : FuncData) (ps : List Str) (sp : Sp) : Prop where
  count : ∀ vs H Q E, sp vs H Q E → vs.length = ps.length
  go : ∀ (A : Around) (outer : List Env) (s : Shared) (H : Hp) (args : Args) (us : List Value) (vs : List V) (Q : VK) (E : XK), A.guards = some [] → Room k A → Env0 P w K mg base A outer s H →
    BindsTo s fd args (ps.zip us) → Vals vs us → sp vs H Q E → codeAny (model P w) A (.call (.ref f) args) (CR CX0 outer P w H s Q E) s
theorem still_fn {x qual : Str} {st : Stmt} {f : Addr} {fd : FuncData} {N ps : List Str} {k : Nat} {sp : Sp} (F : Fun K x qual st f fd) (S : FnScope N ps (defScope st)) (cnt : ∀ vs H Q E, sp vs H Q E → vs.length = ps.length)
    (bod : ∀ (cdv : Value) (A : Around) (outer : List Env) (s : Shared) (H : Hp) (vs : List V) (Q : VK) (E : XK), A.guards = some [] → Room k (A.deeper (envOfC qual (defScope st) s.heap.objs.size f cdv)) → sp vs H Q E →
      ∃ t, PSs (cxOf CX0 P w K mg base N qual (defScope st) f cdv A outer s H E).nox (defBody st) t ∧ t { nx := fun _ H' => Q .non H', rt := Q } (start N vs) H) : FnStill P w K mg base (k + 1) f fd ps sp := by
  obtain ⟨oc, od, kV, doc, pm, an, cdv, ct, osl, rfl, lk, hcd⟩ := F.ex
  refine ⟨cnt, fun A outer s H args us vs Q E still room e0 bnd rv want => ?_⟩
  have kin : K.In s.heap := e0.mod.kin.keeps fun b o hb => (e0.bs b o hb).1
  have limit : s.heap.NoLimit := e0.mod.nolimit.keeps fun b o hb => (e0.bs b o hb).1
  have param : ∀ y ∈ ps.zip us, (defScope st).names.lookup y.1 = some .local ∨ ((defScope st).names.lookup y.1 = some .cell ∧ ((cellsFrom (s.heap.objs.size + 1) (defScope st).names []).lookup y.1).isSome = true) := by
    rintro ⟨n, v⟩ hy
    refine (S.par n (List.of_mem_zip hy).1).imp id fun c => ⟨c, PySem.W.cellsFrom_some _ _ _ (.inl c)⟩
  refine codeAny_call_function room.depth (kin _ _ lk) rfl S.co S.gen rfl (PySem.W.codeRec_of kin hcd) (bnd _ _ _ _ (wpAny_newFunctionEnv_cells S.kind param fun env he s1 x => ?_))
  subst he
  refine ⟨limit.keeps x.toInCall.keep, codeAny_func ?_⟩
  obtain ⟨t, ht, hq⟩ := bod cdv A outer s H vs Q E still (room.deeper _) want
  refine wpAny_mono (ht.nox.run [] s1 (start N vs) H _ (inv_start S room.hd e0 (cnt _ _ _ _ want) rv x) hq) (fun fl s' hs => ?_) fun _ _ z => z
  cases fl with
  | ret u => exact let ⟨v, _, H', J, rr, q⟩ := hs; ⟨v, H', J.os, J.bare, J.base, J.hok, rr, q⟩
  | next => exact let ⟨_, H', J, q⟩ := hs; ⟨V.non, H', J.os, J.bare, J.base, J.hok, rfl, q⟩
  | brk => exact let ⟨_, _, _, q⟩ := hs; False.elim q
  | cont => exact let ⟨_, _, _, q⟩ := hs; False.elim q
end
section
variable {X : Cx} {k : Nat} {f : Addr} {fd : FuncData} {ps : List Str} {sp : Sp} {dvs : List V} {ds : List Value} {E : XK} {x : Str} {p pos : Pos} {e : Expr} {es : List Expr} {t : TA}
/-- f(e, ..) of such a def -/
theorem pe_still (still : X.A.guards = some []) (F : FnStill X.prog X.w X.K X.mg X.base k f fd ps sp) (hr : Room k X.A) (hg : Gl X x) (hm : X.mg x = some (.ref f)) (hk : PySem.W.keepIn X.K (.ref f) = true) (hb : Binds X.K fd ps ds) (hd : Vals dvs ds) (hx : Passes CX0 X E)
    (ha : PA X (e :: es) t) (hdb : (x == ("__debug__" : Str)) = false := by decide) (he : starEach (e :: es) X.env = (false, eval e X.env) :: starEach es X.env := by rfl) (hpl : (backTo pos (starEach es X.env)).any (·.1) = false := by rfl) :
    PE X (.Call (.Name x p) (e :: es) [] pos) (tCall sp dvs E t) := by
  refine ⟨fun pins s σ H Q I h => wpAny_Call_Name_kw (ld_glob I hg hm ?_ hdb)⟩
  refine PySem.W.callWith_K (h₀ := X.base) I.ok.mod.kin hk (thn (ha.run pos pins s σ H _ I h) fun us s1 ⟨vs, H1, I1, rv, q⟩ => ⟨I1.kIn, ?_⟩) he hpl
  have both : Vals (vs ++ dvs) (us ++ ds) := rv.append hd
  have many : (us ++ ds).length = ps.length := both.length ▸ F.count _ _ _ _ q
  refine wpAny_call (codeAny_mono (F.go X.A X.stack s1 H1 ⟨us, []⟩ (us ++ ds) (vs ++ dvs) Q E still hr I1.env0 (hb s1 us I1.kIn many) both q) fun r s' hq => ?_)
  rcases r with er | fl
  · exact hx pins σ H1 s1 _ s' I1 hq
  · cases fl with
    | ret u => exact I1.after hq
    | next => exact hq.elim
    | brk => exact hq.elim
    | cont => exact hq.elim
end
/-- the law's def from the claim's caller: nothing is being shown there -/
theorem still_core {P : Program} {w : World} {K : PySem.W.Frag} {mg mb : Str → Option Value} {k : Nat} {fa a : Addr} {fd : FuncData} {x : Str} {sp : Sp} {s₁ : Shared} {vs : List Value} {H : Hp}
    (KX : K.In s₁.heap) (hns : s₁.heap.Ns mainGlobals mg) (hb : s₁.heap.Ns builtinsNs mb) (hbb : ∀ x : Str, x ≠ "__name__" → mb x = bootBuiltins x) (hlim : s₁.heap.NoLimit) (hg : s₁.gens = #[]) (ha : s₁.heap.get? a = some { cls := .type "list", data := .seq vs.toArray }) (hr : Room k callerA)
    (F : ∀ base : Heap, K.In base → base.Ns mainGlobals mg → FnStill P w K mg base k fa fd [x] sp) (hbind : ∀ (s : Shared) (u : Value), BindsTo s fd ⟨[u], []⟩ [(x, u)]) (hO : Only H) (hok : HOk P w H s₁.heap) (hA : ∀ b, b ≠ a → H b = none) (hK : H a ≠ none → K.lookup a = none)
    (hsp : sp [.ref a] H (fun v _ => v = .bl true) fun _ _ _ => False) (hCX : ∀ e s', CX0 [] H s₁ (fun _ _ _ => False) e s' → False) :
    codeAny (model P w) callerA (.call (.ref fa) ⟨[.ref a], []⟩) (fun r s' => r = .ok (.ret (.bool true)) ∧ OldK s₁.heap s'.heap ∧ s'.os = s₁.os ∧ AllBare s'.gens) s₁ := by
  have free : ∀ {b : Addr} {o : Obj}, s₁.heap.get? b = some o → (b = a → H a = none) → (hidT s₁.heap H).get? b = some o := fun {b o} hb z => hidT_get hb (by
    by_cases q : b = a
    · rw [q]
      exact z q
    · exact hA b q)
  have nm : ∀ {b : Addr} {m : Str → Option Value}, s₁.heap.Ns b m → (hidT s₁.heap H).Ns b m := by
    rintro b m ⟨o, es, ep, hb, d, rr⟩
    refine ⟨o, es, ep, free hb fun q => ?_, d, rr⟩
    subst q
    rw [ha] at hb
    cases hb
    cases (show Data.seq vs.toArray _ = Data.dict es ep from d)
  have kb : K.In (hidT s₁.heap H) := fun b o hb => free (KX b o hb) fun q => by
    subst q
    refine Classical.byContradiction fun z => ?_
    rw [hK z] at hb
    cases hb
  obtain ⟨mc, c1, c2⟩ := hlim
  have e0 : Env0 P w K mg (hidT s₁.heap H) callerA [] s₁ H := ⟨rfl, ⟨kb, nm hns, ⟨mb, nm hb, hbb⟩, ⟨mc, nm c1, c2⟩⟩, fun b o hb => of_hidT hb, Nat.le_of_eq (hidT_size _ _), trivial, fun b z => (List.not_mem_nil z).elim, hok, .of_eq hg⟩
  refine codeAny_mono ((F _ kb (nm hns)).go callerA [] s₁ H ⟨[.ref a], []⟩ [.ref a] [.ref a] _ _ rfl hr e0 (hbind s₁ (.ref a)) (.cons rfl .nil) hsp) fun r s' h => ?_
  rcases r with er | fl
  · exact (hCX er s' h).elim
  cases fl with
  | next => exact h.elim
  | brk => exact h.elim
  | cont => exact h.elim
  | ret u =>
    obtain ⟨v, H', os, bare, un, hok', rr, q⟩ := h
    obtain rfl : v = .bl true := q
    cases (show u = Value.bool true from rr)
    refine ⟨rfl, OldK.of_keep fun b o hb => ?_, os, bare⟩
    rcases hO b with z | ⟨ob, xs, z⟩
    · exact un.keep b o hb z (fun y => (List.not_mem_nil y).elim) List.not_mem_nil
    · have was := (hok b _ z).1
      rw [hb] at was
      cases was
      exact (hok' b _ (un.frzs b _ _ z)).1
theorem still_law {P : Program} {w : World} {K : PySem.W.Frag} {mg mb : Str → Option Value} {k : Nat} {fa a : Addr} {fd : FuncData} {x : Str} {sp : Sp} {s₁ : Shared} {vs : List Value} {ns : List Int}
    (KX : K.In s₁.heap) (hns : s₁.heap.Ns mainGlobals mg) (hb : s₁.heap.Ns builtinsNs mb) (hbb : ∀ x : Str, x ≠ "__name__" → mb x = bootBuiltins x) (hlim : s₁.heap.NoLimit) (hg : s₁.gens = #[]) (ha : s₁.heap.get? a = some { cls := .type "list", data := .seq vs.toArray }) (hi : IntsAre vs ns) (hl : ns.length ≤ sizeLine) (hr : Room k callerA)
    (F : ∀ base : Heap, K.In base → base.Ns mainGlobals mg → FnStill P w K mg base k fa fd [x] sp) (hbind : ∀ (s : Shared) (u : Value), BindsTo s fd ⟨[u], []⟩ [(x, u)])
    (hsp : ∀ H : Hp, Only H → SqL K H a (ns.map V.int) → sp [.ref a] H (fun v _ => v = .bl true) fun _ _ _ => False) (hCX : ∀ H e s', CX0 [] H s₁ (fun _ _ _ => False) e s' → False) :
    codeAny (model P w) callerA (.call (.ref fa) ⟨[.ref a], []⟩) (fun r s' => r = .ok (.ret (.bool true)) ∧ OldK s₁.heap s'.heap ∧ s'.os = s₁.os ∧ AllBare s'.gens) s₁ := by
  rcases hk : K.lookup a with _ | o
  · have now : ∀ b u, (fun b => if b = a then some (HO.frz { cls := .type "list", data := .seq vs.toArray } (.lst (ns.map V.int))) else none) b = some u → b = a ∧ u = HO.frz { cls := .type "list", data := .seq vs.toArray } (.lst (ns.map V.int)) := fun b u z => by
      dsimp only at z
      split at z
      · rename_i q
        exact ⟨q, (Option.some.inj z).symm⟩
      · cases z
    refine still_core (H := fun b => if b = a then some (.frz { cls := .type "list", data := .seq vs.toArray } (.lst (ns.map V.int))) else none) KX hns hb hbb hlim hg ha hr F hbind (fun b => ?_) (fun b u z => ?_) (fun b z => if_neg z) (fun _ => hk) (hsp _ (fun b => ?_) (.inl (.inr ⟨_, if_pos rfl⟩))) (hCX _)
    · exact (Classical.em (b = a)).elim (fun q => .inr ⟨_, _, if_pos q⟩) fun q => .inl (if_neg q)
    · obtain ⟨rfl, rfl⟩ := now b u z
      exact ⟨ha, by rw [List.length_map]; exact hl, vs, _, vals_ints hi, ha⟩
    · exact (Classical.em (b = a)).elim (fun q => .inr ⟨_, _, if_pos q⟩) fun q => .inl (if_neg q)
  · have at_ := KX a o hk
    rw [ha] at at_
    cases at_
    refine still_core (H := fun _ => none) KX hns hb hbb hlim hg ha hr F hbind (fun _ => .inl rfl) (fun b u z => nomatch z) (fun _ _ => rfl) (fun z => (z rfl).elim) (hsp _ (fun _ => .inl rfl) (.inr ⟨_, vs.toArray, _, hk, rfl, rfl, rfl, ?_, ?_⟩)) (hCX _)
    · rw [List.size_toArray, hi.length]
      exact hl
    · simpa using vals_ints hi
theorem still_walk {l : PySem.W.OpenLaw} {n k : Nat} {q : Program} {loose : List Str} {XP : (Str → Option Value) → Heap → Prop} {YP : World → Heap → Prop} {d : DefRec} {K : Params → PySem.W.Frag} {sp : World → Sp} {x : Str}
    (hn : l.most = some n) (hn2 : n ≤ sizeLine) (hdf : d.params.defaults = []) (hr : Room k callerA) (hY : ∀ (w : World) (h : Heap), YP w h → (K w.params).In h)
    (F : ∀ (w : World) (mg : Str → Option Value) (fa : Addr) (h : Heap), (K w.params).In h → h.Ns mainGlobals mg → mg d.name = some (.ref fa) → ∃ fd : FuncData, (∀ (s : Shared) (u : Value), BindsTo s fd ⟨[u], []⟩ [(x, u)]) ∧
      ∀ base : Heap, (K w.params).In base → base.Ns mainGlobals mg → FnStill l.prog w (K w.params) mg base k fa fd [x] (sp w))
    (hsp : ∀ (w : World) (H : Hp) (a : Addr) (ns : List Int), ns.length ≤ n → Only H → SqL (K w.params) H a (ns.map V.int) → sp w [.ref a] H (fun v _ => v = .bl true) fun _ _ _ => False)
    (hCX : ∀ (H : Hp) (s : Shared) (e : Value) (s' : Shared), CX0 [] H s (fun _ _ _ => False) e s' → False) : PySem.W.WalkO q loose XP YP l.row.toRowW d [] (fun f vs => PySem.call f vs) := by
  refine Att.attach_call hn hdf fun w s₀ s₁ mg mb fa o pm cd doc a vs ns G Y ho hd hcd hmg hobj hints many gs => ?_
  obtain ⟨fd, bnd, hF⟩ := F w mg fa _ (hY w _ Y) G.T.g hmg
  exact still_law (hY w _ Y) G.T.g G.T.b G.T.builtins G.T.nolimit gs hobj hints (Nat.le_trans many hn2) hr hF bnd (fun H hO hS => hsp w H a ns many hO hS) fun H e s' => hCX H s₁ e s'
/-! ### the text of data -/
section
variable {X : Cx}
/-- repr(x) of data: its own text, nothing changed -/
def rRepr (K : PySem.W.Frag) : List V → Hp → VK → Prop := fun xs H Q => ∃ (a : Addr) (d : PyData), xs = [.ref a] ∧ Dp K H (.ref a) d ∧ d.showable = true ∧ d.hasDict = false ∧ d.depth ≤ 100 ∧ d.shown.length ≤ sizeLine ∧ Q (.str d.shown) H
theorem call_repr (still : X.A.guards = some []) (un : X.A.units + 150 < cLine) : CallR X (.builtin "repr") (rRepr X.K) := by
  intro pins s σ H xs us Q I rv h
  obtain ⟨a, d, rfl, hd, sh, nd, dp, sz, q⟩ := h
  rcases rv with _ | ⟨r1, r2⟩
  cases r2
  cases r1
  obtain ⟨as, hr⟩ := Dp.reads I d _ _ hd rfl
  exact repr_of_reads' hr sh (fun z => by rw [nd] at z; cases z) still (by omega) (fun _ _ z => z) (fun h' u tk keep => ⟨.str d.shown, H, I.kept keep, ⟨u, rfl⟩, q⟩) sz
end
end
/-! ### own errors held as values -/
section
open PySem.Spec PyProof.Rows
/-- at a: an error of the class at C, its fields -/
def ErrAt (H : Hp) (a C : Addr) (fs : List (Str × V)) : Prop := (fs = [] ∧ H a = some (exo a C none)) ∨ ∃ d, H a = some (exo a C (some d)) ∧ H d = some (exd d fs)
theorem exo_lst {e C : Addr} {d : Option Addr} {xs : List V} : exo e C d ≠ .lst xs := fun z => nomatch (show HO.ext _ = HO.lst xs from z)
theorem exd_lst {e : Addr} {fs : List (Str × V)} {xs : List V} : exd e fs ≠ .lst xs := fun z => nomatch (show HO.ext _ = HO.lst xs from z)
theorem ErrAt.same {H H' : Hp} {a C : Addr} {fs : List (Str × V)} (h : ErrAt H a C fs) (s : Same H H') : ErrAt H' a C fs := by
  rcases h with ⟨e, h⟩ | ⟨d, h1, h2⟩
  · exact .inl ⟨e, s _ _ h⟩
  · exact .inr ⟨d, s _ _ h1, s _ _ h2⟩
theorem ErrAt.on {H H' : Hp} {a C p : Addr} {fs : List (Str × V)} {xs : List V} (h : ErrAt H a C fs) (hp : H p = some (.lst xs)) (s : SameX p H H') : ErrAt H' a C fs := by
  rcases h with ⟨e, h⟩ | ⟨d, h1, h2⟩
  · exact .inl ⟨e, s _ _ (ne_of h hp exo_lst) h⟩
  · exact .inr ⟨d, s _ _ (ne_of h1 hp exo_lst) h1, s _ _ (ne_of h2 hp exd_lst) h2⟩
section
variable {X : Cx} {pins : List (Addr × Obj)} {σ : L2.St} {H : Hp} {s : Shared} {a C : Addr} {fs : List (Str × V)}
/-- how such an error lies in the heap -/
theorem ErrAt.inst (h : ErrAt H a C fs) (I : Inv X pins σ H s) : ∃ (oe : Obj) (od : Option Obj), PySem.W.InstAt s.heap a oe C od ∧ ∀ f v, fs.lookup f = some v → ∃ o u, od = some o ∧ PySem.W.lookIn f o = some (some u) ∧ RelV v u := by
  rcases h with ⟨rfl, h⟩ | ⟨d, h1, h2⟩
  · obtain ⟨t, ho⟩ := exo_at I.hok h
    exact ⟨_, none, ⟨ho, rfl, rfl, trivial⟩, fun f v z => nomatch z⟩
  · obtain ⟨t, ho⟩ := exo_at I.hok h1
    obtain ⟨mA, hns, rel⟩ := exd_at I.hok h2
    obtain ⟨od, hod, hl⟩ := lookIn_ns hns
    refine ⟨_, some od, ⟨ho, rfl, rfl, hod⟩, fun f v z => ?_⟩
    obtain ⟨u, hu, ru⟩ := RelO.some_of (v := v) (o := mA f) (by rw [← z]; exact rel f)
    exact ⟨od, u, rfl, by rw [hl, hu], ru⟩
/-- isinstance(made, c) -/
def rIsErr (K : PySem.W.Frag) : List V → Hp → VK → Prop := fun xs H Q => ∃ (a C : Addr) (fs : List (Str × V)) (c : V) (cv : Value) (b : Bool), xs = [.ref a, c] ∧ ErrAt H a C fs ∧ (∀ u, RelV c u → u = cv) ∧ ExcC K C ∧ PySem.W.kitOne K (.ref C) cv = some b ∧ Q (.bl b) H
theorem call_isErr : CallR X (.builtin "isinstance") (rIsErr X.K) := by
  intro pins s σ H xs us Q I r h
  obtain ⟨a, C, fs, c, cv, b, rfl, he, hcv, T, hk, q⟩ := h
  obtain ⟨u1, u2, rfl, r1, r2⟩ := vals2 r
  cases (show u1 = Value.ref a from r1)
  cases (hcv _ r2)
  obtain ⟨oe, od, J, _⟩ := he.inst I
  obtain ⟨cd, hc, _⟩ := PySem.W.any_some T.hd
  exact PySem.W.kia_one (PySem.W.kitx_exc (by rw [hc]; rfl) T.hg T.hk T.hs T.ha T.hn T.ht T.hm) I.kIn J hk (fun z => nomatch z) fun tk => ⟨.bl b, H, I.tok tk, rfl, q⟩
/-- made.f -/
def tErrF (K : PySem.W.Frag) (f : Str) (te : TE) : TE := fun σ H Q => te σ H fun x H1 => ∃ (a C : Addr) (fs : List (Str × V)) (v : V), x = .ref a ∧ ErrAt H1 a C fs ∧ XfC K C ∧ PySem.W.findIn K (.ref C) f = some none ∧ fs.lookup f = some v ∧ Q v H1
theorem pe_errf {e : Expr} {te : TE} {pos : Pos} {n : Str} (he : PE X e te) (hb : attributeBase e n X.env (eval e X.env) = eval e X.env := by rfl) : PE X (.Attribute e n pos) (tErrF X.K n te) := by
  refine ⟨fun pins s σ H Q I h => attr_of hb (thn (he.run pins s σ H _ I h) fun u s1 hh => ?_)⟩
  obtain ⟨x, H1, I1, rx, a, C, fs, v, ex, ea, T, hno, hl, q⟩ := hh
  subst ex
  obtain rfl : u = Value.ref a := rx
  obtain ⟨oe, od, J, hf⟩ := ea.inst I1
  obtain ⟨o, w, rfl, lw, rw'⟩ := hf _ _ hl
  exact PySem.HandSPX.exc_get I1.kIn J T.ga T.gg T.exC (PySem.W.findObj_own T.hdC hno rfl lw) (handed_of rw') ⟨v, H1, I1.tok _, rw', q⟩
/-- C(e, ..) as a value, C's __init__ keeping sp -/
def tMkE (C : Addr) (sp : Sp) (ta : TA) : TE := fun σ H Q => ta σ H fun vs H1 => vs.length ≤ 1000 ∧ ∀ a, H1 a = none → sp (.ref a :: vs) (upd H1 a (exo a C none)) (fun v H2 => v = .non ∧ Q (.ref a) H2) (fun _ _ _ => False)
theorem pe_mkErr {CX : CXT} {x : Str} {C fI : Addr} {k : Nat} {fd : FuncData} {ps : List Str} {sp : Sp} {e : Expr} {es : List Expr} {ta : TA} {p pos : Pos} (T : OexC X.K C) (iC : PySem.W.findIn X.K (.ref C) "__init__" = some (some (.ref fI))) (tI : PySem.W.typeIn X.K (.ref fI) = some (.type "function"))
    (F1 : FnOk X.prog X.w X.K X.mg X.base CX k fI fd ps sp) (hr : Room (k + 1) X.A) (hb : Binds X.K fd ps []) (hx : Passes CX X (fun _ _ _ => False)) (hg : Gl X x) (hm : X.mg x = some (.ref C)) (ha : PA X (e :: es) ta)
    (hdb : (x == ("__debug__" : Str)) = false := by decide) (he : starEach (e :: es) X.env = (false, eval e X.env) :: starEach es X.env := by rfl) (hpl : (PySem.backTo pos (starEach es X.env)).any (·.1) = false := by rfl) :
    PE X (.Call (.Name x p) (e :: es) [] pos) (tMkE C sp ta) := by
  refine ⟨fun pins s σ H Q I h => ?_⟩
  obtain ⟨nm, q, N, bs, bm, sn, sub, ab, col, dd, k0, k1, k2, k3, k5, hC, hbm⟩ := T.cls
  refine PySem.wpAny_Call_Name_kw (ld_glob I hg hm (PySem.W.callWith_K (h₀ := X.base) I.ok.mod.kin T.kC (thn (ha.run pos pins s σ H _ I h) fun us s1 hh => ?_) he hpl) hdb)
  obtain ⟨vs, H1, I1, rv, hz, want⟩ := hh
  refine ⟨I1.kIn, ?_⟩
  show wpAny _ _ (PySem.call (.ref C) us) _ _ _
  obtain ⟨hp, g, dr, tk, os⟩ := s1
  have big : hp.objs.size ≤ hp.objs.size + 1 := Nat.le_succ _
  have fresh : H1 (hp.objs.size + 1) = none := I1.hok.fresh big
  have now := want _ fresh
  have got : ((hp.push (PySem.W.kdv_tup us)).push (PySem.HandSPX.excO C hp.objs.size)).get? (hp.objs.size + 1) = some (PySem.HandSPX.excO C hp.objs.size) := by heap_get
  have J : Inv X pins σ (upd H1 (hp.objs.size + 1) (exo (hp.objs.size + 1) C none)) ⟨(hp.push (PySem.W.kdv_tup us)).push (PySem.HandSPX.excO C hp.objs.size), g, dr, tk, os⟩ :=
    I1.laid (t' := tk) (a := hp.objs.size + 1) (o := exo (hp.objs.size + 1) C none) (fun b o z => Heap.get?_push_of_some _ (Heap.get?_push_of_some _ z)) big (exo_ok got)
  have rall : Vals (V.ref (hp.objs.size + 1) :: vs) (Value.ref (hp.objs.size + 1) :: us) := .cons rfl rv
  have many : (Value.ref (hp.objs.size + 1) :: us).length = ps.length := by
    rw [← rall.length]
    exact F1.len _ _ _ _ now
  have few : us.length ≤ sizeLine := by
    rw [← Paired.length rv, sizeLine_eq]
    omega
  have bnd := hb _ (Value.ref (hp.objs.size + 1) :: us) J.kIn (by rw [List.append_nil]; exact many)
  rw [List.append_nil] at bnd
  refine wpAny_call (PySem.HandSPX.call_own PySem.F.excBase_ValueError (fun Y => PySem.HandSPX.refsVE_contains Y bm hbm) (I1.kIn _ _ hC) (PySem.W.looks_findIn I1.kIn iC) (fun self => PySem.W.bind_fn I1.kIn self tI) few
    (codeAny_mono (F1.run _ X.stack _ _ ⟨Value.ref (hp.objs.size + 1) :: us, []⟩ _ _ _ (fun _ _ _ => False) (hr.make C us []) (J.env0.make C us []) bnd rall now) fun r s' hq => ?_))
  rcases r with er | fl
  · exact hx pins σ _ _ er s' J hq
  · cases fl with
    | ret u =>
      obtain ⟨v, H2, J2, rv2, ev, q2⟩ := J.after hq
      subst ev
      exact ⟨rv2, .ref (hp.objs.size + 1), H2, J2, rfl, q2⟩
    | next => exact hq.elim
    | brk => exact hq.elim
    | cont => exact hq.elim
/-- C() as a value, C an own error class without __init__ of its own -/
def tMkE0 (C : Addr) : TE := fun _ H Q => ∀ a, H a = none → Q (.ref a) (upd H a (exo a C none))
theorem pe_mkErr0 {C : Addr} {x : Str} {p pos : Pos} (q : PySem.W.excIn X.K C [.type "ValueError", .type "Exception", .type "BaseException", .type "object"] "ValueError.__new__" = true) (kC : PySem.W.keepIn X.K (.ref C) = true) (hg : Gl X x) (gC : X.mg x = some (.ref C))
    (hdb : (x == ("__debug__" : Str)) = false := by decide) : PE X (.Call (.Name x p) [] [] pos) (tMkE0 C) := by
  refine ⟨fun pins s σ H Q I h => PySem.wpAny_Call_Name_kw (ld_glob I hg gC (PySem.W.callWith_K0 I.kIn kC ?_) hdb)⟩
  show wpAny _ _ (PySem.call (.ref C) []) _ _ _
  obtain ⟨bm, N, nm, qn, bs, hdct, sn, sub, ab, col, dd, k0, k1, k2, k3, k5, mN, hC, hN, hni, T⟩ := exc_obj I.kIn q
  refine PySem.wpAny_call_exc_subT PySem.F.excBase_ValueError T hC hN hni (fun h' a hm => ?_) (Nat.zero_le _)
  have fresh : H a = none := I.hok.gone hm.new
  obtain ⟨t, ht, _, _⟩ := hm.there
  exact ⟨.ref a, _, I.laidN hm.keeps hm.new fresh (exo_ok ht), rfl, h a fresh⟩
end
/-- which classes an error's class belongs to -/
inductive KRow (K : PySem.W.Frag) (t : Value) : List (Value × Bool) → Prop
  | nil : KRow K t []
  | cons {c : Value} {b : Bool} {r : List (Value × Bool)} (h : PySem.W.kitOne K t c = some b) (rest : KRow K t r) : KRow K t ((c, b) :: r)
theorem KRow.at {K : PySem.W.Frag} {t : Value} {l : List (Value × Bool)} (h : KRow K t l) : ∀ (i : Nat) (c : Value) (b : Bool), l[i]? = some (c, b) → PySem.W.kitOne K t c = some b := by
  induction h with
  | nil => exact fun i c b z => nomatch z
  | cons h rest ih =>
    intro i c b z
    cases i with
    | zero =>
      cases z
      exact h
    | succ i => exact ih i c b z
/-! ### what repr can show -/
mutual
theorem dp_plain {K : PySem.W.Frag} {H : Hp} : ∀ (d : PyData) (v : V), Dp K H v d → d.hasDict = false
  | .list ds, _, h => by
    cases h with
    | lst _ h => simpa only [PyData.hasDict] using dp_plains ds _ h
  | .tuple ds, _, h => by
    cases h with
    | tup _ h => simpa only [PyData.hasDict] using dp_plains ds _ h
  | .dict _, _, h => nomatch h
  | .none, _, _ => rfl
  | .bool _, _, _ => rfl
  | .int _, _, _ => rfl
  | .str _, _, _ => rfl
theorem dp_plains {K : PySem.W.Frag} {H : Hp} : ∀ (ds : List PyData) (vs : List V), DpAll K H vs ds → PyData.hasDictAll ds = false
  | [], _, _ => rfl
  | d :: ds, _, h => by
    cases h with
    | cons h1 h2 => simp only [PyData.hasDictAll, dp_plain d _ h1, dp_plains ds _ h2, Bool.or_self]
end
/-- data, an empty dict among it -/
inductive Dr (K : PySem.W.Frag) (H : Hp) : V → PyData → Prop
  | dp {v : V} {d : PyData} : Dp K H v d → Dr K H v d
  | dic {a : Addr} : H a = some (.dK []) → Dr K H (.ref a) (.dict [])
section
variable {X : Cx} {pins : List (Addr × Obj)} {σ : L2.St} {H : Hp} {s : Shared}
theorem Dr.reads (I : Inv X pins σ H s) {v : V} {d : PyData} {u : Value} (h : Dr X.K H v d) (r : RelV v u) : ∃ as, Reads s.heap u d as ∧ (d.hasDict = true → sysModules ∉ as) := by
  cases h with
  | dp h =>
    obtain ⟨as, hr⟩ := Dp.reads I d _ _ h r
    exact ⟨as, hr, fun z => absurd z (by rw [dp_plain _ _ h]; exact Bool.false_ne_true)⟩
  | dic h =>
    cases r
    obtain ⟨_, ns, vs, kv, o, es, ep, ho, hc, hd, _, hp, _⟩ := I.hok _ _ h
    cases kv
    have e0 : es.toList = [] := by
      cases hp' : es.toList with
      | nil => rfl
      | cons x l =>
        rw [hp'] at hp
        cases hp
    exact ⟨_, .dict (kvs := []) (as := []) (bs := []) ho hc.1 hd (by rw [e0]; exact .nil) (by rw [e0]; exact .nil), fun _ z => by
      rcases List.mem_cons.mp z with z | z
      · rw [z, beq_self_eq_true] at ns
        cases ns
      · exact (List.not_mem_nil z).elim⟩
/-- repr((tag, x)) -/
def rReprT (K : PySem.W.Frag) : List V → Hp → VK → Prop := fun xs H Q => ∃ (a : Addr) (y : Str) (x : V) (d : PyData), xs = [.ref a] ∧ SqT K H a [.str y, x] ∧ Dr K H x d ∧ d.showable = true ∧ d.depth ≤ 90 ∧ (PyData.tuple [.str y, d]).shown.length ≤ sizeLine ∧ Q (.str (PyData.tuple [.str y, d]).shown) H
theorem call_reprT (still : X.A.guards = some []) (un : X.A.units + 150 < cLine) : CallR X (.builtin "repr") (rReprT X.K) := by
  intro pins s σ H xs us Q I rv h
  obtain ⟨a, y, x, d, rfl, ht, hd, sh, dp, sz, q⟩ := h
  rcases rv with _ | ⟨r1, r2⟩
  cases r2
  cases r1
  obtain ⟨its, ri, ⟨o, ho, hc, n, hdat⟩, _⟩ := I.tuple ht
  obtain ⟨u1, u2, rfl, ⟨t1, rfl⟩, ru2⟩ := vals2 ri
  obtain ⟨as, hr, hs⟩ := hd.reads I ru2
  exact repr_of_reads' (d := .tuple [.str y, d]) (.tuple ho hc hdat (.cons (.str y t1) (.cons hr .nil))) (by simp [PyData.showable, PyData.showableAll, sh]) (fun z => by
    simp only [List.append_nil, List.nil_append]
    exact hs (by simpa [PyData.hasDict, PyData.hasDictAll] using z)) still (by simp only [PyData.depth, PyData.depthAll]; omega) (fun _ _ z => z) (fun h' u tk keep => ⟨.str (PyData.tuple [.str y, d]).shown, H, I.kept keep, ⟨u, rfl⟩, q⟩) sz
end
/-- an own error class without an __init__ of its own -/
structure PCls (K : PySem.W.Frag) (mg : Str → Option Value) (nm : Str) (C : Addr) : Prop where
  g : mg nm = some (.ref C)
  q : PySem.W.excIn K C [.type "ValueError", .type "Exception", .type "BaseException", .type "object"] "ValueError.__new__" = true
  k : PySem.W.keepIn K (.ref C) = true
  e : ExcC K C
theorem room_un {k : Nat} {A : Around} (r : Room k A) : A.units + 150 < cLine := by have := r.un; omega
/-- what a callee lets out, whatever the slots hold -/
def anyW (n : Nat) (W : WX) : XK := fun cls d H => ∀ σ : L2.St, σ.length = n → W cls d σ H
theorem passes_any {X : Cx} {W : WX} (n : Nat) (tk : Takes X W) (hn : X.N.length = n := by rfl) : Passes (L2.CX X.prog X.w) X (anyW n W) :=
  fun _ σ _ _ e s' I c => tk e s' (XE.of_call I (fun cls d H' h => h σ (I.len.trans hn)) c)
/-! ### an own == -/
section
variable {X : Cx} {CX : CXT} {k : Nat} {C g : Addr} {fd : FuncData} {ps : List Str} {sp : Sp} {E : XK}
def rOwnEq (K : PySem.W.Frag) (C : Addr) (sp : Sp) (E : XK) : R2 := fun x y H Q => ∃ (a dx : Addr) (fs : List (Str × V)) (t : Value), x = .ref a ∧ H a = some (.ins C dx fs) ∧ TyX K H y t ∧ PySem.W.notFirst K C t = true ∧ sp [.ref a, y] H (fun v H' => ∃ b, v = .bl b ∧ Q (.bl b) H') E
theorem op_ownEq (mm : Meth X.K C "__eq__" g) (F : FnOk X.prog X.w X.K X.mg X.base CX k g fd ps sp) (hr : Room k X.A) (hb : Binds X.K fd ps []) (hx : Passes CX X E) : OpR X (compareOp .Eq) (rOwnEq X.K C sp E) := by
  intro pins s σ H x y v u Q I rx ry h
  obtain ⟨a, dx, fs, t, rfl, ha, ty, nf, q⟩ := h
  cases (show v = Value.ref a from rx)
  obtain ⟨mA, O, _⟩ := ins_get I.hok ha
  obtain ⟨od, J, _⟩ := O.look
  obtain ⟨m, hF⟩ := I.fr
  obtain ⟨P, Z, p, _⟩ := kit_of I ry ty
  refine PySem.W.cmp_K (op := .Eq) (tb := t) hr.units0 hF I.ok.mod.kin J (Z.ty _ _ I.kIn p) nf mm.at_ mm.fn ?_
  refine wpAny_mono (run_fn (us := [.ref a, u]) (vs := [.ref a, y]) (ds := []) (dvs := []) F hr hb .nil hx I (.cons rfl (.cons ry .nil)) q) (fun w s' z => ?_) fun _ _ x => x
  obtain ⟨z', H', I', rz, b, eb, qz⟩ := z
  subst eb
  cases (show w = Value.bool b from rz)
  exact ⟨.bl b, H', I', rfl, qz⟩
end
end
def top (i : Nat) : Stmt := PySem.Challenge.pw_lossway_k02_ring_refuses.main.body.getD i (.Pass ⟨0, 0, 0, 0⟩)
abbrev s_InvalidNumber_init_ : Stmt := inClass (top 2) 0
theorem st_InvalidNumber_init_ {t : TS} {D : Ends} {H : Hp} {v0 v1 : V} (h : t D [some v0, some v1] H) : t D (L2.start ["self", "number"] [v0, v1]) H := h
theorem sc_InvalidNumber_init_ : FnScope ["self", "number"] ["self", "number"] (defScope s_InvalidNumber_init_) := ⟨rfl, rfl, rfl, by decide +kernel, rfl, by decide +kernel, by decide +kernel⟩
abbrev s_InvalidSetting_init_ : Stmt := inClass (top 3) 0
theorem st_InvalidSetting_init_ {t : TS} {D : Ends} {H : Hp} {v0 v1 : V} (h : t D [some v0, some v1] H) : t D (L2.start ["self", "setting"] [v0, v1]) H := h
theorem sc_InvalidSetting_init_ : FnScope ["self", "setting"] ["self", "setting"] (defScope s_InvalidSetting_init_) := ⟨rfl, rfl, rfl, by decide +kernel, rfl, by decide +kernel, by decide +kernel⟩
abbrev s_InvalidSegment_init_ : Stmt := inClass (top 4) 0
theorem st_InvalidSegment_init_ {t : TS} {D : Ends} {H : Hp} {v0 v1 : V} (h : t D [some v0, some v1] H) : t D (L2.start ["self", "part"] [v0, v1]) H := h
theorem sc_InvalidSegment_init_ : FnScope ["self", "part"] ["self", "part"] (defScope s_InvalidSegment_init_) := ⟨rfl, rfl, rfl, by decide +kernel, rfl, by decide +kernel, by decide +kernel⟩
abbrev s_InvalidWords_init_ : Stmt := inClass (top 5) 0
theorem st_InvalidWords_init_ {t : TS} {D : Ends} {H : Hp} {v0 v1 : V} (h : t D [some v0, some v1] H) : t D (L2.start ["self", "place"] [v0, v1]) H := h
theorem sc_InvalidWords_init_ : FnScope ["self", "place"] ["self", "place"] (defScope s_InvalidWords_init_) := ⟨rfl, rfl, rfl, by decide +kernel, rfl, by decide +kernel, by decide +kernel⟩
abbrev s_NotAllowed_init_ : Stmt := inClass (top 7) 0
theorem st_NotAllowed_init_ {t : TS} {D : Ends} {H : Hp} {v0 v1 : V} (h : t D [some v0, some v1] H) : t D (L2.start ["self", "state"] [v0, v1]) H := h
theorem sc_NotAllowed_init_ : FnScope ["self", "state"] ["self", "state"] (defScope s_NotAllowed_init_) := ⟨rfl, rfl, rfl, by decide +kernel, rfl, by decide +kernel, by decide +kernel⟩
abbrev s_Broken_init_ : Stmt := inClass (top 8) 0
theorem st_Broken_init_ {t : TS} {D : Ends} {H : Hp} {v0 v1 : V} (h : t D [some v0, some v1] H) : t D (L2.start ["self", "reason"] [v0, v1]) H := h
theorem sc_Broken_init_ : FnScope ["self", "reason"] ["self", "reason"] (defScope s_Broken_init_) := ⟨rfl, rfl, rfl, by decide +kernel, rfl, by decide +kernel, by decide +kernel⟩
abbrev s_NoConnection_init_ : Stmt := inClass (top 9) 0
theorem st_NoConnection_init_ {t : TS} {D : Ends} {H : Hp} {v0 v1 : V} (h : t D [some v0, some v1] H) : t D (L2.start ["self", "handle"] [v0, v1]) H := h
theorem sc_NoConnection_init_ : FnScope ["self", "handle"] ["self", "handle"] (defScope s_NoConnection_init_) := ⟨rfl, rfl, rfl, by decide +kernel, rfl, by decide +kernel, by decide +kernel⟩
abbrev s_NoListener_init_ : Stmt := inClass (top 10) 0
theorem st_NoListener_init_ {t : TS} {D : Ends} {H : Hp} {v0 v1 : V} (h : t D [some v0, some v1] H) : t D (L2.start ["self", "port"] [v0, v1]) H := h
theorem sc_NoListener_init_ : FnScope ["self", "port"] ["self", "port"] (defScope s_NoListener_init_) := ⟨rfl, rfl, rfl, by decide +kernel, rfl, by decide +kernel, by decide +kernel⟩
abbrev s_PortTaken_init_ : Stmt := inClass (top 11) 0
theorem st_PortTaken_init_ {t : TS} {D : Ends} {H : Hp} {v0 v1 : V} (h : t D [some v0, some v1] H) : t D (L2.start ["self", "port"] [v0, v1]) H := h
theorem sc_PortTaken_init_ : FnScope ["self", "port"] ["self", "port"] (defScope s_PortTaken_init_) := ⟨rfl, rfl, rfl, by decide +kernel, rfl, by decide +kernel, by decide +kernel⟩
abbrev s_TooMany_init_ : Stmt := inClass (top 13) 0
theorem st_TooMany_init_ {t : TS} {D : Ends} {H : Hp} {v0 v1 : V} (h : t D [some v0, some v1] H) : t D (L2.start ["self", "most"] [v0, v1]) H := h
theorem sc_TooMany_init_ : FnScope ["self", "most"] ["self", "most"] (defScope s_TooMany_init_) := ⟨rfl, rfl, rfl, by decide +kernel, rfl, by decide +kernel, by decide +kernel⟩
abbrev s_InvalidFate_init_ : Stmt := inClass (top 14) 0
theorem st_InvalidFate_init_ {t : TS} {D : Ends} {H : Hp} {v0 v1 v2 : V} (h : t D [some v0, some v1, some v2] H) : t D (L2.start ["self", "side", "place"] [v0, v1, v2]) H := h
theorem sc_InvalidFate_init_ : FnScope ["self", "side", "place"] ["self", "side", "place"] (defScope s_InvalidFate_init_) := ⟨rfl, rfl, rfl, by decide +kernel, rfl, by decide +kernel, by decide +kernel⟩
abbrev s_InvalidTrace_init_ : Stmt := inClass (top 15) 0
theorem st_InvalidTrace_init_ {t : TS} {D : Ends} {H : Hp} {v0 v1 : V} (h : t D [some v0, some v1] H) : t D (L2.start ["self", "place"] [v0, v1]) H := h
theorem sc_InvalidTrace_init_ : FnScope ["self", "place"] ["self", "place"] (defScope s_InvalidTrace_init_) := ⟨rfl, rfl, rfl, by decide +kernel, rfl, by decide +kernel, by decide +kernel⟩
abbrev s_InvalidDeed_init_ : Stmt := inClass (top 16) 0
theorem st_InvalidDeed_init_ {t : TS} {D : Ends} {H : Hp} {v0 v1 : V} (h : t D [some v0, some v1] H) : t D (L2.start ["self", "deed"] [v0, v1]) H := h
theorem sc_InvalidDeed_init_ : FnScope ["self", "deed"] ["self", "deed"] (defScope s_InvalidDeed_init_) := ⟨rfl, rfl, rfl, by decide +kernel, rfl, by decide +kernel, by decide +kernel⟩
abbrev s_Stopped_init_ : Stmt := inClass (top 18) 0
theorem st_Stopped_init_ {t : TS} {D : Ends} {H : Hp} {v0 v1 : V} (h : t D [some v0, some v1] H) : t D (L2.start ["self", "place"] [v0, v1]) H := h
theorem sc_Stopped_init_ : FnScope ["self", "place"] ["self", "place"] (defScope s_Stopped_init_) := ⟨rfl, rfl, rfl, by decide +kernel, rfl, by decide +kernel, by decide +kernel⟩
abbrev s_InvalidLine_init_ : Stmt := inClass (top 19) 0
theorem st_InvalidLine_init_ {t : TS} {D : Ends} {H : Hp} {v0 v1 : V} (h : t D [some v0, some v1] H) : t D (L2.start ["self", "line"] [v0, v1]) H := h
theorem sc_InvalidLine_init_ : FnScope ["self", "line"] ["self", "line"] (defScope s_InvalidLine_init_) := ⟨rfl, rfl, rfl, by decide +kernel, rfl, by decide +kernel, by decide +kernel⟩
abbrev s_is_integer : Stmt := top 21
theorem st_is_integer {t : TS} {D : Ends} {H : Hp} {v0 : V} (h : t D [some v0] H) : t D (L2.start ["value"] [v0]) H := h
theorem sc_is_integer : FnScope ["value"] ["value"] (defScope s_is_integer) := ⟨rfl, rfl, rfl, by decide +kernel, rfl, by decide +kernel, by decide +kernel⟩
abbrev s_is_between : Stmt := top 22
theorem st_is_between {t : TS} {D : Ends} {H : Hp} {v0 v1 v2 : V} (h : t D [some v0, some v1, some v2] H) : t D (L2.start ["value", "low", "high"] [v0, v1, v2]) H := h
theorem sc_is_between : FnScope ["value", "low", "high"] ["value", "low", "high"] (defScope s_is_between) := ⟨rfl, rfl, rfl, by decide +kernel, rfl, by decide +kernel, by decide +kernel⟩
abbrev s_Ring_init_ : Stmt := inClass (top 24) 2
theorem st_Ring_init_ {t : TS} {D : Ends} {H : Hp} {v0 v1 : V} (h : t D [some v0, some v1] H) : t D (L2.start ["self", "size"] [v0, v1]) H := h
theorem sc_Ring_init_ : FnScope ["self", "size"] ["self", "size"] (defScope s_Ring_init_) := ⟨rfl, rfl, rfl, by decide +kernel, rfl, by decide +kernel, by decide +kernel⟩
abbrev s_Ring_of_bits : Stmt := inClass (top 24) 3
theorem st_Ring_of_bits {t : TS} {D : Ends} {H : Hp} {v0 v1 : V} (h : t D [some v0, some v1] H) : t D (L2.start ["cls", "bits"] [v0, v1]) H := h
theorem sc_Ring_of_bits : FnScope ["cls", "bits"] ["cls", "bits"] (defScope s_Ring_of_bits) := ⟨rfl, rfl, rfl, by decide +kernel, rfl, by decide +kernel, by decide +kernel⟩
abbrev s_Ring_contains_ : Stmt := inClass (top 24) 4
theorem st_Ring_contains_ {t : TS} {D : Ends} {H : Hp} {v0 v1 : V} (h : t D [some v0, some v1] H) : t D (L2.start ["self", "number"] [v0, v1]) H := h
theorem sc_Ring_contains_ : FnScope ["self", "number"] ["self", "number"] (defScope s_Ring_contains_) := ⟨rfl, rfl, rfl, by decide +kernel, rfl, by decide +kernel, by decide +kernel⟩
abbrev s_Ring_eq_ : Stmt := inClass (top 24) 5
theorem st_Ring_eq_ {t : TS} {D : Ends} {H : Hp} {v0 v1 : V} (h : t D [some v0, some v1] H) : t D (L2.start ["self", "other"] [v0, v1]) H := h
theorem sc_Ring_eq_ : FnScope ["self", "other"] ["self", "other"] (defScope s_Ring_eq_) := ⟨rfl, rfl, rfl, by decide +kernel, rfl, by decide +kernel, by decide +kernel⟩
abbrev s_Ring_wrap : Stmt := inClass (top 24) 6
theorem st_Ring_wrap {t : TS} {D : Ends} {H : Hp} {v0 v1 : V} (h : t D [some v0, some v1] H) : t D (L2.start ["self", "offset"] [v0, v1]) H := h
theorem sc_Ring_wrap : FnScope ["self", "offset"] ["self", "offset"] (defScope s_Ring_wrap) := ⟨rfl, rfl, rfl, by decide +kernel, rfl, by decide +kernel, by decide +kernel⟩
abbrev s_Ring_unwrap : Stmt := inClass (top 24) 7
theorem st_Ring_unwrap {t : TS} {D : Ends} {H : Hp} {v0 v1 v2 : V} (h : t D [some v0, some v1, some v2, none] H) : t D (L2.start ["self", "number", "near", "least"] [v0, v1, v2]) H := h
theorem sc_Ring_unwrap : FnScope ["self", "number", "near", "least"] ["self", "number", "near"] (defScope s_Ring_unwrap) := ⟨rfl, rfl, rfl, by decide +kernel, rfl, by decide +kernel, by decide +kernel⟩
abbrev s_Ring_gap : Stmt := inClass (top 24) 8
theorem st_Ring_gap {t : TS} {D : Ends} {H : Hp} {v0 v1 v2 : V} (h : t D [some v0, some v1, some v2] H) : t D (L2.start ["self", "low", "high"] [v0, v1, v2]) H := h
theorem sc_Ring_gap : FnScope ["self", "low", "high"] ["self", "low", "high"] (defScope s_Ring_gap) := ⟨rfl, rfl, rfl, by decide +kernel, rfl, by decide +kernel, by decide +kernel⟩
abbrev s_Ring_before : Stmt := inClass (top 24) 9
theorem st_Ring_before {t : TS} {D : Ends} {H : Hp} {v0 v1 v2 : V} (h : t D [some v0, some v1, some v2] H) : t D (L2.start ["self", "low", "high"] [v0, v1, v2]) H := h
theorem sc_Ring_before : FnScope ["self", "low", "high"] ["self", "low", "high"] (defScope s_Ring_before) := ⟨rfl, rfl, rfl, by decide +kernel, rfl, by decide +kernel, by decide +kernel⟩
abbrev s_Ring_within : Stmt := inClass (top 24) 10
theorem st_Ring_within {t : TS} {D : Ends} {H : Hp} {v0 v1 v2 v3 : V} (h : t D [some v0, some v1, some v2, some v3] H) : t D (L2.start ["self", "low", "number", "high"] [v0, v1, v2, v3]) H := h
theorem sc_Ring_within : FnScope ["self", "low", "number", "high"] ["self", "low", "number", "high"] (defScope s_Ring_within) := ⟨rfl, rfl, rfl, by decide +kernel, rfl, by decide +kernel, by decide +kernel⟩
abbrev s_Ring_require : Stmt := inClass (top 24) 11
theorem st_Ring_require {t : TS} {D : Ends} {H : Hp} {v0 v1 : V} (h : t D [some v0, some v1] H) : t D (L2.start ["self", "number"] [v0, v1]) H := h
theorem sc_Ring_require : FnScope ["self", "number"] ["self", "number"] (defScope s_Ring_require) := ⟨rfl, rfl, rfl, by decide +kernel, rfl, by decide +kernel, by decide +kernel⟩
abbrev s_is_size : Stmt := top 25
theorem st_is_size {t : TS} {D : Ends} {H : Hp} {v0 : V} (h : t D [some v0] H) : t D (L2.start ["value"] [v0]) H := h
theorem sc_is_size : FnScope ["value"] ["value"] (defScope s_is_size) := ⟨rfl, rfl, rfl, by decide +kernel, rfl, by decide +kernel, by decide +kernel⟩
abbrev s__law_purse : Stmt := top 27
theorem st__law_purse {t : TS} {D : Ends} {H : Hp} {v0 : V} (h : t D [some v0, none, none, none, none] H) : t D (L2.start ["script", "cells", "seed", "cell", "one"] [v0]) H := h
theorem sc__law_purse : FnScope ["script", "cells", "seed", "cell", "one"] ["script"] (defScope s__law_purse) := ⟨rfl, rfl, rfl, by decide +kernel, rfl, by decide +kernel, by decide +kernel⟩
abbrev s__law_draw : Stmt := top 28
theorem st__law_draw {t : TS} {D : Ends} {H : Hp} {v0 v1 : V} (h : t D [some v0, some v1, none, none, none] H) : t D (L2.start ["purse", "many", "digit", "amount", "blend"] [v0, v1]) H := h
theorem sc__law_draw : FnScope ["purse", "many", "digit", "amount", "blend"] ["purse", "many"] (defScope s__law_draw) := ⟨rfl, rfl, rfl, by decide +kernel, rfl, by decide +kernel, by decide +kernel⟩
abbrev s__law_number : Stmt := top 29
theorem st__law_number {t : TS} {D : Ends} {H : Hp} {v0 v1 : V} (h : t D [some v0, some v1, none, none] H) : t D (L2.start ["purse", "most", "way", "amount"] [v0, v1]) H := h
theorem sc__law_number : FnScope ["purse", "most", "way", "amount"] ["purse", "most"] (defScope s__law_number) := ⟨rfl, rfl, rfl, by decide +kernel, rfl, by decide +kernel, by decide +kernel⟩
abbrev s__law_is : Stmt := top 30
theorem st__law_is {t : TS} {D : Ends} {H : Hp} {v0 v1 : V} (h : t D [some v0, some v1] H) : t D (L2.start ["actual", "wanted"] [v0, v1]) H := h
theorem sc__law_is : FnScope ["actual", "wanted"] ["actual", "wanted"] (defScope s__law_is) := ⟨rfl, rfl, rfl, by decide +kernel, rfl, by decide +kernel, by decide +kernel⟩
abbrev s__law_truth : Stmt := top 31
theorem st__law_truth {t : TS} {D : Ends} {H : Hp} {v0 v1 : V} (h : t D [some v0, some v1] H) : t D (L2.start ["actual", "wanted"] [v0, v1]) H := h
theorem sc__law_truth : FnScope ["actual", "wanted"] ["actual", "wanted"] (defScope s__law_truth) := ⟨rfl, rfl, rfl, by decide +kernel, rfl, by decide +kernel, by decide +kernel⟩
abbrev s__law_width : Stmt := top 32
theorem st__law_width {t : TS} {D : Ends} {H : Hp} {v0 : V} (h : t D [some v0, none, none] H) : t D (L2.start ["bits", "width", "k"] [v0]) H := h
theorem sc__law_width : FnScope ["bits", "width", "k"] ["bits"] (defScope s__law_width) := ⟨rfl, rfl, rfl, by decide +kernel, rfl, by decide +kernel, by decide +kernel⟩
abbrev s__law_error : Stmt := top 33
theorem st__law_error {t : TS} {D : Ends} {H : Hp} {v0 v1 v2 : V} (h : t D [some v0, some v1, some v2] H) : t D (L2.start ["which", "amount", "text"] [v0, v1, v2]) H := h
theorem sc__law_error : FnScope ["which", "amount", "text"] ["which", "amount", "text"] (defScope s__law_error) := ⟨rfl, rfl, rfl, by decide +kernel, rfl, by decide +kernel, by decide +kernel⟩
abbrev s__law_classes : Stmt := top 34
theorem st__law_classes {t : TS} {D : Ends} {H : Hp} {v0 : V} (h : t D [some v0, none] H) : t D (L2.start ["made", "found"] [v0]) H := h
theorem sc__law_classes : FnScope ["made", "found"] ["made"] (defScope s__law_classes) := ⟨rfl, rfl, rfl, by decide +kernel, rfl, by decide +kernel, by decide +kernel⟩
abbrev s__law_numbers : Stmt := top 35
theorem st__law_numbers {t : TS} {D : Ends} {H : Hp} {v0 v1 : V} (h : t D [some v0, some v1] H) : t D (L2.start ["made", "which"] [v0, v1]) H := h
theorem sc__law_numbers : FnScope ["made", "which"] ["made", "which"] (defScope s__law_numbers) := ⟨rfl, rfl, rfl, by decide +kernel, rfl, by decide +kernel, by decide +kernel⟩
abbrev s__law_string : Stmt := top 36
theorem st__law_string {t : TS} {D : Ends} {H : Hp} {v0 v1 : V} (h : t D [some v0, some v1] H) : t D (L2.start ["made", "which"] [v0, v1]) H := h
theorem sc__law_string : FnScope ["made", "which"] ["made", "which"] (defScope s__law_string) := ⟨rfl, rfl, rfl, by decide +kernel, rfl, by decide +kernel, by decide +kernel⟩
abbrev s__law_keeps : Stmt := top 37
theorem st__law_keeps {t : TS} {D : Ends} {H : Hp} {v0 v1 v2 v3 : V} (h : t D [some v0, some v1, some v2, some v3, none] H) : t D (L2.start ["made", "which", "amount", "text", "one"] [v0, v1, v2, v3]) H := h
theorem sc__law_keeps : FnScope ["made", "which", "amount", "text", "one"] ["made", "which", "amount", "text"] (defScope s__law_keeps) := ⟨rfl, rfl, rfl, by decide +kernel, rfl, by decide +kernel, by decide +kernel⟩
abbrev s__law_errors : Stmt := top 38
theorem st__law_errors {t : TS} {D : Ends} {H : Hp} {v0 : V} (h : t D [some v0, none, none, none, none, none, none] H) : t D (L2.start ["purse", "which", "amount", "text", "made", "found", "k"] [v0]) H := h
theorem sc__law_errors : FnScope ["purse", "which", "amount", "text", "made", "found", "k"] ["purse"] (defScope s__law_errors) := ⟨rfl, rfl, rfl, by decide +kernel, rfl, by decide +kernel, by decide +kernel⟩
abbrev s__law_kind : Stmt := top 39
theorem st__law_kind {t : TS} {D : Ends} {H : Hp} {v0 : V} (h : t D [some v0] H) : t D (L2.start ["purse"] [v0]) H := h
theorem sc__law_kind : FnScope ["purse"] ["purse"] (defScope s__law_kind) := ⟨rfl, rfl, rfl, by decide +kernel, rfl, by decide +kernel, by decide +kernel⟩
abbrev s__law_is_size : Stmt := top 40
theorem st__law_is_size {t : TS} {D : Ends} {H : Hp} {v0 : V} (h : t D [some v0, none, none] H) : t D (L2.start ["value", "width", "k"] [v0]) H := h
theorem sc__law_is_size : FnScope ["value", "width", "k"] ["value"] (defScope s__law_is_size) := ⟨rfl, rfl, rfl, by decide +kernel, rfl, by decide +kernel, by decide +kernel⟩
abbrev s__law_sized : Stmt := top 41
theorem st__law_sized {t : TS} {D : Ends} {H : Hp} {v0 : V} (h : t D [some v0, none, none] H) : t D (L2.start ["value", "ring", "e"] [v0]) H := h
theorem sc__law_sized : FnScope ["value", "ring", "e"] ["value"] (defScope s__law_sized) := ⟨rfl, rfl, rfl, by decide +kernel, rfl, by decide +kernel, by decide +kernel⟩
abbrev s__law_bitten : Stmt := top 42
theorem st__law_bitten {t : TS} {D : Ends} {H : Hp} {v0 : V} (h : t D [some v0, none, none] H) : t D (L2.start ["value", "ring", "e"] [v0]) H := h
theorem sc__law_bitten : FnScope ["value", "ring", "e"] ["value"] (defScope s__law_bitten) := ⟨rfl, rfl, rfl, by decide +kernel, rfl, by decide +kernel, by decide +kernel⟩
abbrev s__law_sizes : Stmt := top 43
theorem st__law_sizes {t : TS} {D : Ends} {H : Hp} {v0 : V} (h : t D [some v0, none, none, none, none] H) : t D (L2.start ["purse", "value", "way", "wanted", "bits"] [v0]) H := h
theorem sc__law_sizes : FnScope ["purse", "value", "way", "wanted", "bits"] ["purse"] (defScope s__law_sizes) := ⟨rfl, rfl, rfl, by decide +kernel, rfl, by decide +kernel, by decide +kernel⟩
abbrev s__law_odd : Stmt := top 44
theorem st__law_odd {t : TS} {D : Ends} {H : Hp} {v0 v1 v2 : V} (h : t D [some v0, some v1, some v2, none] H) : t D (L2.start ["purse", "width", "any_integer", "way"] [v0, v1, v2]) H := h
theorem sc__law_odd : FnScope ["purse", "width", "any_integer", "way"] ["purse", "width", "any_integer"] (defScope s__law_odd) := ⟨rfl, rfl, rfl, by decide +kernel, rfl, by decide +kernel, by decide +kernel⟩
abbrev s__law_answer : Stmt := top 45
theorem st__law_answer {t : TS} {D : Ends} {H : Hp} {v0 v1 v2 : V} (h : t D [some v0, some v1, some v2, none, none] H) : t D (L2.start ["ring", "way", "handed", "told", "e"] [v0, v1, v2]) H := h
theorem sc__law_answer : FnScope ["ring", "way", "handed", "told", "e"] ["ring", "way", "handed"] (defScope s__law_answer) := ⟨rfl, rfl, rfl, by decide +kernel, rfl, by decide +kernel, by decide +kernel⟩
abbrev s__law_wanted : Stmt := top 46
theorem st__law_wanted {t : TS} {D : Ends} {H : Hp} {v0 v1 v2 : V} (h : t D [some v0, some v1, some v2, none, none] H) : t D (L2.start ["way", "handed", "width", "one", "two"] [v0, v1, v2]) H := h
theorem sc__law_wanted : FnScope ["way", "handed", "width", "one", "two"] ["way", "handed", "width"] (defScope s__law_wanted) := ⟨rfl, rfl, rfl, by decide +kernel, rfl, by decide +kernel, by decide +kernel⟩
abbrev s__law_call : Stmt := top 47
theorem st__law_call {t : TS} {D : Ends} {H : Hp} {v0 v1 v2 : V} (h : t D [some v0, some v1, some v2, none, none, none, none, none, none, none, none, none, none] H) : t D (L2.start ["purse", "ring", "width", "way", "many", "good", "handed", "odd", "k", "turn", "spot", "wanted", "inside"] [v0, v1, v2]) H := h
theorem sc__law_call : FnScope ["purse", "ring", "width", "way", "many", "good", "handed", "odd", "k", "turn", "spot", "wanted", "inside"] ["purse", "ring", "width"] (defScope s__law_call) := ⟨rfl, rfl, rfl, by decide +kernel, rfl, by decide +kernel, by decide +kernel⟩
abbrev s__law_equals : Stmt := top 48
theorem st__law_equals {t : TS} {D : Ends} {H : Hp} {v0 v1 v2 : V} (h : t D [some v0, some v1, some v2, none] H) : t D (L2.start ["purse", "ring", "width", "other"] [v0, v1, v2]) H := h
theorem sc__law_equals : FnScope ["purse", "ring", "width", "other"] ["purse", "ring", "width"] (defScope s__law_equals) := ⟨rfl, rfl, rfl, by decide +kernel, rfl, by decide +kernel, by decide +kernel⟩
abbrev s_law : Stmt := top 49
theorem st_law {t : TS} {D : Ends} {H : Hp} {v0 : V} (h : t D [some v0, none, none, none, none, none] H) : t D (L2.start ["script", "purse", "k", "bits", "width", "ring"] [v0]) H := h
theorem sc_law : FnScope ["script", "purse", "k", "bits", "width", "ring"] ["script"] (defScope s_law) := ⟨rfl, rfl, rfl, by decide +kernel, rfl, by decide +kernel, by decide +kernel⟩

set_option maxHeartbeats 0 in
structure Txt (K : PySem.W.Frag) (mg : Str → Option Value) where
  c_Ring : Addr
  g_Ring : mg "Ring" = some (.ref c_Ring)
  cl_Ring : Cls K c_Ring
  n_Ring_size : NoAttr K c_Ring "size"
  mc_Ring : Value
  R_Ring : ClX.CRead K c_Ring mc_Ring
  V_Ring_LEAST : ∃ u, ClX.CVal K c_Ring mc_Ring "LEAST" (.int 64) u
  V_Ring_GREATEST : ∃ u, ClX.CVal K c_Ring mc_Ring "GREATEST" (.int 4294967296) u
  c_InvalidNumber : Addr
  c_InvalidSetting : Addr
  c_InvalidSegment : Addr
  c_InvalidWords : Addr
  c_NotAllowed : Addr
  c_Broken : Addr
  c_NoConnection : Addr
  c_NoListener : Addr
  c_PortTaken : Addr
  c_StationDown : Addr
  c_TooMany : Addr
  c_InvalidFate : Addr
  c_InvalidTrace : Addr
  c_InvalidDeed : Addr
  c_NothingLeft : Addr
  c_Stopped : Addr
  c_InvalidLine : Addr
  c_WrongSum : Addr
  c_LossError : Addr
  a_InvalidNumber_init_ : Addr
  fd_InvalidNumber_init_ : FuncData
  F_InvalidNumber_init_ : Fun K "__init__" "InvalidNumber.__init__" s_InvalidNumber_init_ a_InvalidNumber_init_ fd_InvalidNumber_init_
  B_InvalidNumber_init_ : Binds K fd_InvalidNumber_init_ ["self", "number"] []
  a_InvalidSetting_init_ : Addr
  fd_InvalidSetting_init_ : FuncData
  F_InvalidSetting_init_ : Fun K "__init__" "InvalidSetting.__init__" s_InvalidSetting_init_ a_InvalidSetting_init_ fd_InvalidSetting_init_
  B_InvalidSetting_init_ : Binds K fd_InvalidSetting_init_ ["self", "setting"] []
  a_InvalidSegment_init_ : Addr
  fd_InvalidSegment_init_ : FuncData
  F_InvalidSegment_init_ : Fun K "__init__" "InvalidSegment.__init__" s_InvalidSegment_init_ a_InvalidSegment_init_ fd_InvalidSegment_init_
  B_InvalidSegment_init_ : Binds K fd_InvalidSegment_init_ ["self", "part"] []
  a_InvalidWords_init_ : Addr
  fd_InvalidWords_init_ : FuncData
  F_InvalidWords_init_ : Fun K "__init__" "InvalidWords.__init__" s_InvalidWords_init_ a_InvalidWords_init_ fd_InvalidWords_init_
  B_InvalidWords_init_ : Binds K fd_InvalidWords_init_ ["self", "place"] []
  a_NotAllowed_init_ : Addr
  fd_NotAllowed_init_ : FuncData
  F_NotAllowed_init_ : Fun K "__init__" "NotAllowed.__init__" s_NotAllowed_init_ a_NotAllowed_init_ fd_NotAllowed_init_
  B_NotAllowed_init_ : Binds K fd_NotAllowed_init_ ["self", "state"] []
  a_Broken_init_ : Addr
  fd_Broken_init_ : FuncData
  F_Broken_init_ : Fun K "__init__" "Broken.__init__" s_Broken_init_ a_Broken_init_ fd_Broken_init_
  B_Broken_init_ : Binds K fd_Broken_init_ ["self", "reason"] []
  a_NoConnection_init_ : Addr
  fd_NoConnection_init_ : FuncData
  F_NoConnection_init_ : Fun K "__init__" "NoConnection.__init__" s_NoConnection_init_ a_NoConnection_init_ fd_NoConnection_init_
  B_NoConnection_init_ : Binds K fd_NoConnection_init_ ["self", "handle"] []
  a_NoListener_init_ : Addr
  fd_NoListener_init_ : FuncData
  F_NoListener_init_ : Fun K "__init__" "NoListener.__init__" s_NoListener_init_ a_NoListener_init_ fd_NoListener_init_
  B_NoListener_init_ : Binds K fd_NoListener_init_ ["self", "port"] []
  a_PortTaken_init_ : Addr
  fd_PortTaken_init_ : FuncData
  F_PortTaken_init_ : Fun K "__init__" "PortTaken.__init__" s_PortTaken_init_ a_PortTaken_init_ fd_PortTaken_init_
  B_PortTaken_init_ : Binds K fd_PortTaken_init_ ["self", "port"] []
  a_TooMany_init_ : Addr
  fd_TooMany_init_ : FuncData
  F_TooMany_init_ : Fun K "__init__" "TooMany.__init__" s_TooMany_init_ a_TooMany_init_ fd_TooMany_init_
  B_TooMany_init_ : Binds K fd_TooMany_init_ ["self", "most"] []
  a_InvalidFate_init_ : Addr
  fd_InvalidFate_init_ : FuncData
  F_InvalidFate_init_ : Fun K "__init__" "InvalidFate.__init__" s_InvalidFate_init_ a_InvalidFate_init_ fd_InvalidFate_init_
  B_InvalidFate_init_ : Binds K fd_InvalidFate_init_ ["self", "side", "place"] []
  a_InvalidTrace_init_ : Addr
  fd_InvalidTrace_init_ : FuncData
  F_InvalidTrace_init_ : Fun K "__init__" "InvalidTrace.__init__" s_InvalidTrace_init_ a_InvalidTrace_init_ fd_InvalidTrace_init_
  B_InvalidTrace_init_ : Binds K fd_InvalidTrace_init_ ["self", "place"] []
  a_InvalidDeed_init_ : Addr
  fd_InvalidDeed_init_ : FuncData
  F_InvalidDeed_init_ : Fun K "__init__" "InvalidDeed.__init__" s_InvalidDeed_init_ a_InvalidDeed_init_ fd_InvalidDeed_init_
  B_InvalidDeed_init_ : Binds K fd_InvalidDeed_init_ ["self", "deed"] []
  a_Stopped_init_ : Addr
  fd_Stopped_init_ : FuncData
  F_Stopped_init_ : Fun K "__init__" "Stopped.__init__" s_Stopped_init_ a_Stopped_init_ fd_Stopped_init_
  B_Stopped_init_ : Binds K fd_Stopped_init_ ["self", "place"] []
  a_InvalidLine_init_ : Addr
  fd_InvalidLine_init_ : FuncData
  F_InvalidLine_init_ : Fun K "__init__" "InvalidLine.__init__" s_InvalidLine_init_ a_InvalidLine_init_ fd_InvalidLine_init_
  B_InvalidLine_init_ : Binds K fd_InvalidLine_init_ ["self", "line"] []
  a_is_integer : Addr
  fd_is_integer : FuncData
  F_is_integer : Fun K "is_integer" "is_integer" s_is_integer a_is_integer fd_is_integer
  B_is_integer : Binds K fd_is_integer ["value"] []
  g_is_integer : mg "is_integer" = some (.ref a_is_integer)
  a_is_between : Addr
  fd_is_between : FuncData
  F_is_between : Fun K "is_between" "is_between" s_is_between a_is_between fd_is_between
  B_is_between : Binds K fd_is_between ["value", "low", "high"] []
  g_is_between : mg "is_between" = some (.ref a_is_between)
  a_Ring_init_ : Addr
  fd_Ring_init_ : FuncData
  F_Ring_init_ : Fun K "__init__" "Ring.__init__" s_Ring_init_ a_Ring_init_ fd_Ring_init_
  B_Ring_init_ : Binds K fd_Ring_init_ ["self", "size"] []
  M_Ring : Mk K c_Ring a_Ring_init_
  a_Ring_of_bits : Addr
  fd_Ring_of_bits : FuncData
  F_Ring_of_bits : Fun K "of_bits" "Ring.of_bits" s_Ring_of_bits a_Ring_of_bits fd_Ring_of_bits
  B_Ring_of_bits : Binds K fd_Ring_of_bits ["cls", "bits"] []
  p_Ring_of_bits : Addr
  CM_Ring_of_bits : ClX.CMet K c_Ring mc_Ring "of_bits" p_Ring_of_bits a_Ring_of_bits
  a_Ring_contains_ : Addr
  fd_Ring_contains_ : FuncData
  F_Ring_contains_ : Fun K "__contains__" "Ring.__contains__" s_Ring_contains_ a_Ring_contains_ fd_Ring_contains_
  B_Ring_contains_ : Binds K fd_Ring_contains_ ["self", "number"] []
  m_Ring_contains_ : Meth K c_Ring "__contains__" a_Ring_contains_
  a_Ring_eq_ : Addr
  fd_Ring_eq_ : FuncData
  F_Ring_eq_ : Fun K "__eq__" "Ring.__eq__" s_Ring_eq_ a_Ring_eq_ fd_Ring_eq_
  B_Ring_eq_ : Binds K fd_Ring_eq_ ["self", "other"] []
  m_Ring_eq_ : Meth K c_Ring "__eq__" a_Ring_eq_
  a_Ring_wrap : Addr
  fd_Ring_wrap : FuncData
  F_Ring_wrap : Fun K "wrap" "Ring.wrap" s_Ring_wrap a_Ring_wrap fd_Ring_wrap
  B_Ring_wrap : Binds K fd_Ring_wrap ["self", "offset"] []
  m_Ring_wrap : Meth K c_Ring "wrap" a_Ring_wrap
  a_Ring_unwrap : Addr
  fd_Ring_unwrap : FuncData
  F_Ring_unwrap : Fun K "unwrap" "Ring.unwrap" s_Ring_unwrap a_Ring_unwrap fd_Ring_unwrap
  B_Ring_unwrap : Binds K fd_Ring_unwrap ["self", "number", "near"] []
  m_Ring_unwrap : Meth K c_Ring "unwrap" a_Ring_unwrap
  a_Ring_gap : Addr
  fd_Ring_gap : FuncData
  F_Ring_gap : Fun K "gap" "Ring.gap" s_Ring_gap a_Ring_gap fd_Ring_gap
  B_Ring_gap : Binds K fd_Ring_gap ["self", "low", "high"] []
  m_Ring_gap : Meth K c_Ring "gap" a_Ring_gap
  a_Ring_before : Addr
  fd_Ring_before : FuncData
  F_Ring_before : Fun K "before" "Ring.before" s_Ring_before a_Ring_before fd_Ring_before
  B_Ring_before : Binds K fd_Ring_before ["self", "low", "high"] []
  m_Ring_before : Meth K c_Ring "before" a_Ring_before
  a_Ring_within : Addr
  fd_Ring_within : FuncData
  F_Ring_within : Fun K "within" "Ring.within" s_Ring_within a_Ring_within fd_Ring_within
  B_Ring_within : Binds K fd_Ring_within ["self", "low", "number", "high"] []
  m_Ring_within : Meth K c_Ring "within" a_Ring_within
  a_Ring_require : Addr
  fd_Ring_require : FuncData
  F_Ring_require : Fun K "_require" "Ring._require" s_Ring_require a_Ring_require fd_Ring_require
  B_Ring_require : Binds K fd_Ring_require ["self", "number"] []
  m_Ring_require : Meth K c_Ring "_require" a_Ring_require
  a_is_size : Addr
  fd_is_size : FuncData
  F_is_size : Fun K "is_size" "is_size" s_is_size a_is_size fd_is_size
  B_is_size : Binds K fd_is_size ["value"] []
  g_is_size : mg "is_size" = some (.ref a_is_size)
  a__law_purse : Addr
  fd__law_purse : FuncData
  F__law_purse : Fun K "_law_purse" "_law_purse" s__law_purse a__law_purse fd__law_purse
  B__law_purse : Binds K fd__law_purse ["script"] []
  g__law_purse : mg "_law_purse" = some (.ref a__law_purse)
  a__law_draw : Addr
  fd__law_draw : FuncData
  F__law_draw : Fun K "_law_draw" "_law_draw" s__law_draw a__law_draw fd__law_draw
  B__law_draw : Binds K fd__law_draw ["purse", "many"] []
  g__law_draw : mg "_law_draw" = some (.ref a__law_draw)
  a__law_number : Addr
  fd__law_number : FuncData
  F__law_number : Fun K "_law_number" "_law_number" s__law_number a__law_number fd__law_number
  B__law_number : Binds K fd__law_number ["purse", "most"] []
  g__law_number : mg "_law_number" = some (.ref a__law_number)
  a__law_is : Addr
  fd__law_is : FuncData
  F__law_is : Fun K "_law_is" "_law_is" s__law_is a__law_is fd__law_is
  B__law_is : Binds K fd__law_is ["actual", "wanted"] []
  g__law_is : mg "_law_is" = some (.ref a__law_is)
  a__law_truth : Addr
  fd__law_truth : FuncData
  F__law_truth : Fun K "_law_truth" "_law_truth" s__law_truth a__law_truth fd__law_truth
  B__law_truth : Binds K fd__law_truth ["actual", "wanted"] []
  g__law_truth : mg "_law_truth" = some (.ref a__law_truth)
  a__law_width : Addr
  fd__law_width : FuncData
  F__law_width : Fun K "_law_width" "_law_width" s__law_width a__law_width fd__law_width
  B__law_width : Binds K fd__law_width ["bits"] []
  g__law_width : mg "_law_width" = some (.ref a__law_width)
  a__law_error : Addr
  fd__law_error : FuncData
  F__law_error : Fun K "_law_error" "_law_error" s__law_error a__law_error fd__law_error
  B__law_error : Binds K fd__law_error ["which", "amount", "text"] []
  g__law_error : mg "_law_error" = some (.ref a__law_error)
  a__law_classes : Addr
  fd__law_classes : FuncData
  F__law_classes : Fun K "_law_classes" "_law_classes" s__law_classes a__law_classes fd__law_classes
  B__law_classes : Binds K fd__law_classes ["made"] []
  g__law_classes : mg "_law_classes" = some (.ref a__law_classes)
  a__law_numbers : Addr
  fd__law_numbers : FuncData
  F__law_numbers : Fun K "_law_numbers" "_law_numbers" s__law_numbers a__law_numbers fd__law_numbers
  B__law_numbers : Binds K fd__law_numbers ["made", "which"] []
  g__law_numbers : mg "_law_numbers" = some (.ref a__law_numbers)
  a__law_string : Addr
  fd__law_string : FuncData
  F__law_string : Fun K "_law_string" "_law_string" s__law_string a__law_string fd__law_string
  B__law_string : Binds K fd__law_string ["made", "which"] []
  g__law_string : mg "_law_string" = some (.ref a__law_string)
  a__law_keeps : Addr
  fd__law_keeps : FuncData
  F__law_keeps : Fun K "_law_keeps" "_law_keeps" s__law_keeps a__law_keeps fd__law_keeps
  B__law_keeps : Binds K fd__law_keeps ["made", "which", "amount", "text"] []
  g__law_keeps : mg "_law_keeps" = some (.ref a__law_keeps)
  a__law_errors : Addr
  fd__law_errors : FuncData
  F__law_errors : Fun K "_law_errors" "_law_errors" s__law_errors a__law_errors fd__law_errors
  B__law_errors : Binds K fd__law_errors ["purse"] []
  g__law_errors : mg "_law_errors" = some (.ref a__law_errors)
  a__law_kind : Addr
  fd__law_kind : FuncData
  F__law_kind : Fun K "_law_kind" "_law_kind" s__law_kind a__law_kind fd__law_kind
  B__law_kind : Binds K fd__law_kind ["purse"] []
  g__law_kind : mg "_law_kind" = some (.ref a__law_kind)
  a__law_is_size : Addr
  fd__law_is_size : FuncData
  F__law_is_size : Fun K "_law_is_size" "_law_is_size" s__law_is_size a__law_is_size fd__law_is_size
  B__law_is_size : Binds K fd__law_is_size ["value"] []
  g__law_is_size : mg "_law_is_size" = some (.ref a__law_is_size)
  a__law_sized : Addr
  fd__law_sized : FuncData
  F__law_sized : Fun K "_law_sized" "_law_sized" s__law_sized a__law_sized fd__law_sized
  B__law_sized : Binds K fd__law_sized ["value"] []
  g__law_sized : mg "_law_sized" = some (.ref a__law_sized)
  a__law_bitten : Addr
  fd__law_bitten : FuncData
  F__law_bitten : Fun K "_law_bitten" "_law_bitten" s__law_bitten a__law_bitten fd__law_bitten
  B__law_bitten : Binds K fd__law_bitten ["value"] []
  g__law_bitten : mg "_law_bitten" = some (.ref a__law_bitten)
  a__law_sizes : Addr
  fd__law_sizes : FuncData
  F__law_sizes : Fun K "_law_sizes" "_law_sizes" s__law_sizes a__law_sizes fd__law_sizes
  B__law_sizes : Binds K fd__law_sizes ["purse"] []
  g__law_sizes : mg "_law_sizes" = some (.ref a__law_sizes)
  a__law_odd : Addr
  fd__law_odd : FuncData
  F__law_odd : Fun K "_law_odd" "_law_odd" s__law_odd a__law_odd fd__law_odd
  B__law_odd : Binds K fd__law_odd ["purse", "width", "any_integer"] []
  g__law_odd : mg "_law_odd" = some (.ref a__law_odd)
  a__law_answer : Addr
  fd__law_answer : FuncData
  F__law_answer : Fun K "_law_answer" "_law_answer" s__law_answer a__law_answer fd__law_answer
  B__law_answer : Binds K fd__law_answer ["ring", "way", "handed"] []
  g__law_answer : mg "_law_answer" = some (.ref a__law_answer)
  a__law_wanted : Addr
  fd__law_wanted : FuncData
  F__law_wanted : Fun K "_law_wanted" "_law_wanted" s__law_wanted a__law_wanted fd__law_wanted
  B__law_wanted : Binds K fd__law_wanted ["way", "handed", "width"] []
  g__law_wanted : mg "_law_wanted" = some (.ref a__law_wanted)
  a__law_call : Addr
  fd__law_call : FuncData
  F__law_call : Fun K "_law_call" "_law_call" s__law_call a__law_call fd__law_call
  B__law_call : Binds K fd__law_call ["purse", "ring", "width"] []
  g__law_call : mg "_law_call" = some (.ref a__law_call)
  a__law_equals : Addr
  fd__law_equals : FuncData
  F__law_equals : Fun K "_law_equals" "_law_equals" s__law_equals a__law_equals fd__law_equals
  B__law_equals : Binds K fd__law_equals ["purse", "ring", "width"] []
  g__law_equals : mg "_law_equals" = some (.ref a__law_equals)
  a_law : Addr
  fd_law : FuncData
  F_law : Fun K "law" "law" s_law a_law fd_law
  B_law : Binds K fd_law ["script"] []
  g_law : mg "law" = some (.ref a_law)
  X_InvalidNumber : XCls K mg "InvalidNumber" c_InvalidNumber a_InvalidNumber_init_
  nX_InvalidNumber : PySem.W.findIn K (.ref c_InvalidNumber) "number" = some none
  X_InvalidSetting : XCls K mg "InvalidSetting" c_InvalidSetting a_InvalidSetting_init_
  nX_InvalidSetting : PySem.W.findIn K (.ref c_InvalidSetting) "setting" = some none
  X_InvalidSegment : XCls K mg "InvalidSegment" c_InvalidSegment a_InvalidSegment_init_
  nX_InvalidSegment : PySem.W.findIn K (.ref c_InvalidSegment) "part" = some none
  X_InvalidWords : XCls K mg "InvalidWords" c_InvalidWords a_InvalidWords_init_
  nX_InvalidWords : PySem.W.findIn K (.ref c_InvalidWords) "place" = some none
  X_NotAllowed : XCls K mg "NotAllowed" c_NotAllowed a_NotAllowed_init_
  nX_NotAllowed : PySem.W.findIn K (.ref c_NotAllowed) "state" = some none
  X_Broken : XCls K mg "Broken" c_Broken a_Broken_init_
  nX_Broken : PySem.W.findIn K (.ref c_Broken) "reason" = some none
  X_NoConnection : XCls K mg "NoConnection" c_NoConnection a_NoConnection_init_
  nX_NoConnection : PySem.W.findIn K (.ref c_NoConnection) "handle" = some none
  X_NoListener : XCls K mg "NoListener" c_NoListener a_NoListener_init_
  nX_NoListener : PySem.W.findIn K (.ref c_NoListener) "port" = some none
  X_PortTaken : XCls K mg "PortTaken" c_PortTaken a_PortTaken_init_
  nX_PortTaken : PySem.W.findIn K (.ref c_PortTaken) "port" = some none
  X_StationDown : PCls K mg "StationDown" c_StationDown
  X_TooMany : XCls K mg "TooMany" c_TooMany a_TooMany_init_
  nX_TooMany : PySem.W.findIn K (.ref c_TooMany) "most" = some none
  X_InvalidFate : XCls K mg "InvalidFate" c_InvalidFate a_InvalidFate_init_
  nX_InvalidFate_side : PySem.W.findIn K (.ref c_InvalidFate) "side" = some none
  nX_InvalidFate_place : PySem.W.findIn K (.ref c_InvalidFate) "place" = some none
  X_InvalidTrace : XCls K mg "InvalidTrace" c_InvalidTrace a_InvalidTrace_init_
  nX_InvalidTrace : PySem.W.findIn K (.ref c_InvalidTrace) "place" = some none
  X_InvalidDeed : XCls K mg "InvalidDeed" c_InvalidDeed a_InvalidDeed_init_
  nX_InvalidDeed : PySem.W.findIn K (.ref c_InvalidDeed) "deed" = some none
  X_NothingLeft : PCls K mg "NothingLeft" c_NothingLeft
  X_Stopped : XCls K mg "Stopped" c_Stopped a_Stopped_init_
  nX_Stopped : PySem.W.findIn K (.ref c_Stopped) "place" = some none
  X_InvalidLine : XCls K mg "InvalidLine" c_InvalidLine a_InvalidLine_init_
  nX_InvalidLine : PySem.W.findIn K (.ref c_InvalidLine) "line" = some none
  X_WrongSum : XCls K mg "WrongSum" c_WrongSum a_InvalidWords_init_
  nX_WrongSum : PySem.W.findIn K (.ref c_WrongSum) "place" = some none
  X_LossError : GCls mg "LossError" c_LossError
  Me_InvalidSetting_InvalidSetting : PySem.W.exmOne K (.ref c_InvalidSetting) (.ref c_InvalidSetting) = some true
  Me_InvalidNumber_InvalidNumber : PySem.W.exmOne K (.ref c_InvalidNumber) (.ref c_InvalidNumber) = some true
  KR_InvalidNumber : KRow K (.ref c_InvalidNumber) [(.ref c_InvalidNumber, true), (.ref c_InvalidSetting, false), (.ref c_InvalidSegment, false), (.ref c_InvalidWords, false), (.ref c_NotAllowed, false), (.ref c_Broken, false), (.ref c_NoConnection, false), (.ref c_NoListener, false), (.ref c_PortTaken, false), (.ref c_StationDown, false), (.ref c_TooMany, false), (.ref c_InvalidFate, false), (.ref c_InvalidTrace, false), (.ref c_InvalidDeed, false), (.ref c_NothingLeft, false), (.ref c_Stopped, false), (.ref c_InvalidLine, false), (.ref c_WrongSum, false), (.ref c_LossError, true), (.type "ValueError", true)]
  KR_InvalidSetting : KRow K (.ref c_InvalidSetting) [(.ref c_InvalidNumber, false), (.ref c_InvalidSetting, true), (.ref c_InvalidSegment, false), (.ref c_InvalidWords, false), (.ref c_NotAllowed, false), (.ref c_Broken, false), (.ref c_NoConnection, false), (.ref c_NoListener, false), (.ref c_PortTaken, false), (.ref c_StationDown, false), (.ref c_TooMany, false), (.ref c_InvalidFate, false), (.ref c_InvalidTrace, false), (.ref c_InvalidDeed, false), (.ref c_NothingLeft, false), (.ref c_Stopped, false), (.ref c_InvalidLine, false), (.ref c_WrongSum, false), (.ref c_LossError, true), (.type "ValueError", true)]
  KR_InvalidSegment : KRow K (.ref c_InvalidSegment) [(.ref c_InvalidNumber, false), (.ref c_InvalidSetting, false), (.ref c_InvalidSegment, true), (.ref c_InvalidWords, false), (.ref c_NotAllowed, false), (.ref c_Broken, false), (.ref c_NoConnection, false), (.ref c_NoListener, false), (.ref c_PortTaken, false), (.ref c_StationDown, false), (.ref c_TooMany, false), (.ref c_InvalidFate, false), (.ref c_InvalidTrace, false), (.ref c_InvalidDeed, false), (.ref c_NothingLeft, false), (.ref c_Stopped, false), (.ref c_InvalidLine, false), (.ref c_WrongSum, false), (.ref c_LossError, true), (.type "ValueError", true)]
  KR_InvalidWords : KRow K (.ref c_InvalidWords) [(.ref c_InvalidNumber, false), (.ref c_InvalidSetting, false), (.ref c_InvalidSegment, false), (.ref c_InvalidWords, true), (.ref c_NotAllowed, false), (.ref c_Broken, false), (.ref c_NoConnection, false), (.ref c_NoListener, false), (.ref c_PortTaken, false), (.ref c_StationDown, false), (.ref c_TooMany, false), (.ref c_InvalidFate, false), (.ref c_InvalidTrace, false), (.ref c_InvalidDeed, false), (.ref c_NothingLeft, false), (.ref c_Stopped, false), (.ref c_InvalidLine, false), (.ref c_WrongSum, false), (.ref c_LossError, true), (.type "ValueError", true)]
  KR_NotAllowed : KRow K (.ref c_NotAllowed) [(.ref c_InvalidNumber, false), (.ref c_InvalidSetting, false), (.ref c_InvalidSegment, false), (.ref c_InvalidWords, false), (.ref c_NotAllowed, true), (.ref c_Broken, false), (.ref c_NoConnection, false), (.ref c_NoListener, false), (.ref c_PortTaken, false), (.ref c_StationDown, false), (.ref c_TooMany, false), (.ref c_InvalidFate, false), (.ref c_InvalidTrace, false), (.ref c_InvalidDeed, false), (.ref c_NothingLeft, false), (.ref c_Stopped, false), (.ref c_InvalidLine, false), (.ref c_WrongSum, false), (.ref c_LossError, true), (.type "ValueError", true)]
  KR_Broken : KRow K (.ref c_Broken) [(.ref c_InvalidNumber, false), (.ref c_InvalidSetting, false), (.ref c_InvalidSegment, false), (.ref c_InvalidWords, false), (.ref c_NotAllowed, false), (.ref c_Broken, true), (.ref c_NoConnection, false), (.ref c_NoListener, false), (.ref c_PortTaken, false), (.ref c_StationDown, false), (.ref c_TooMany, false), (.ref c_InvalidFate, false), (.ref c_InvalidTrace, false), (.ref c_InvalidDeed, false), (.ref c_NothingLeft, false), (.ref c_Stopped, false), (.ref c_InvalidLine, false), (.ref c_WrongSum, false), (.ref c_LossError, true), (.type "ValueError", true)]
  KR_NoConnection : KRow K (.ref c_NoConnection) [(.ref c_InvalidNumber, false), (.ref c_InvalidSetting, false), (.ref c_InvalidSegment, false), (.ref c_InvalidWords, false), (.ref c_NotAllowed, false), (.ref c_Broken, false), (.ref c_NoConnection, true), (.ref c_NoListener, false), (.ref c_PortTaken, false), (.ref c_StationDown, false), (.ref c_TooMany, false), (.ref c_InvalidFate, false), (.ref c_InvalidTrace, false), (.ref c_InvalidDeed, false), (.ref c_NothingLeft, false), (.ref c_Stopped, false), (.ref c_InvalidLine, false), (.ref c_WrongSum, false), (.ref c_LossError, true), (.type "ValueError", true)]
  KR_NoListener : KRow K (.ref c_NoListener) [(.ref c_InvalidNumber, false), (.ref c_InvalidSetting, false), (.ref c_InvalidSegment, false), (.ref c_InvalidWords, false), (.ref c_NotAllowed, false), (.ref c_Broken, false), (.ref c_NoConnection, false), (.ref c_NoListener, true), (.ref c_PortTaken, false), (.ref c_StationDown, false), (.ref c_TooMany, false), (.ref c_InvalidFate, false), (.ref c_InvalidTrace, false), (.ref c_InvalidDeed, false), (.ref c_NothingLeft, false), (.ref c_Stopped, false), (.ref c_InvalidLine, false), (.ref c_WrongSum, false), (.ref c_LossError, true), (.type "ValueError", true)]
  KR_PortTaken : KRow K (.ref c_PortTaken) [(.ref c_InvalidNumber, false), (.ref c_InvalidSetting, false), (.ref c_InvalidSegment, false), (.ref c_InvalidWords, false), (.ref c_NotAllowed, false), (.ref c_Broken, false), (.ref c_NoConnection, false), (.ref c_NoListener, false), (.ref c_PortTaken, true), (.ref c_StationDown, false), (.ref c_TooMany, false), (.ref c_InvalidFate, false), (.ref c_InvalidTrace, false), (.ref c_InvalidDeed, false), (.ref c_NothingLeft, false), (.ref c_Stopped, false), (.ref c_InvalidLine, false), (.ref c_WrongSum, false), (.ref c_LossError, true), (.type "ValueError", true)]
  KR_StationDown : KRow K (.ref c_StationDown) [(.ref c_InvalidNumber, false), (.ref c_InvalidSetting, false), (.ref c_InvalidSegment, false), (.ref c_InvalidWords, false), (.ref c_NotAllowed, false), (.ref c_Broken, false), (.ref c_NoConnection, false), (.ref c_NoListener, false), (.ref c_PortTaken, false), (.ref c_StationDown, true), (.ref c_TooMany, false), (.ref c_InvalidFate, false), (.ref c_InvalidTrace, false), (.ref c_InvalidDeed, false), (.ref c_NothingLeft, false), (.ref c_Stopped, false), (.ref c_InvalidLine, false), (.ref c_WrongSum, false), (.ref c_LossError, true), (.type "ValueError", true)]
  KR_TooMany : KRow K (.ref c_TooMany) [(.ref c_InvalidNumber, false), (.ref c_InvalidSetting, false), (.ref c_InvalidSegment, false), (.ref c_InvalidWords, false), (.ref c_NotAllowed, false), (.ref c_Broken, false), (.ref c_NoConnection, false), (.ref c_NoListener, false), (.ref c_PortTaken, false), (.ref c_StationDown, false), (.ref c_TooMany, true), (.ref c_InvalidFate, false), (.ref c_InvalidTrace, false), (.ref c_InvalidDeed, false), (.ref c_NothingLeft, false), (.ref c_Stopped, false), (.ref c_InvalidLine, false), (.ref c_WrongSum, false), (.ref c_LossError, true), (.type "ValueError", true)]
  KR_InvalidFate : KRow K (.ref c_InvalidFate) [(.ref c_InvalidNumber, false), (.ref c_InvalidSetting, false), (.ref c_InvalidSegment, false), (.ref c_InvalidWords, false), (.ref c_NotAllowed, false), (.ref c_Broken, false), (.ref c_NoConnection, false), (.ref c_NoListener, false), (.ref c_PortTaken, false), (.ref c_StationDown, false), (.ref c_TooMany, false), (.ref c_InvalidFate, true), (.ref c_InvalidTrace, false), (.ref c_InvalidDeed, false), (.ref c_NothingLeft, false), (.ref c_Stopped, false), (.ref c_InvalidLine, false), (.ref c_WrongSum, false), (.ref c_LossError, true), (.type "ValueError", true)]
  KR_InvalidTrace : KRow K (.ref c_InvalidTrace) [(.ref c_InvalidNumber, false), (.ref c_InvalidSetting, false), (.ref c_InvalidSegment, false), (.ref c_InvalidWords, false), (.ref c_NotAllowed, false), (.ref c_Broken, false), (.ref c_NoConnection, false), (.ref c_NoListener, false), (.ref c_PortTaken, false), (.ref c_StationDown, false), (.ref c_TooMany, false), (.ref c_InvalidFate, false), (.ref c_InvalidTrace, true), (.ref c_InvalidDeed, false), (.ref c_NothingLeft, false), (.ref c_Stopped, false), (.ref c_InvalidLine, false), (.ref c_WrongSum, false), (.ref c_LossError, true), (.type "ValueError", true)]
  KR_InvalidDeed : KRow K (.ref c_InvalidDeed) [(.ref c_InvalidNumber, false), (.ref c_InvalidSetting, false), (.ref c_InvalidSegment, false), (.ref c_InvalidWords, false), (.ref c_NotAllowed, false), (.ref c_Broken, false), (.ref c_NoConnection, false), (.ref c_NoListener, false), (.ref c_PortTaken, false), (.ref c_StationDown, false), (.ref c_TooMany, false), (.ref c_InvalidFate, false), (.ref c_InvalidTrace, false), (.ref c_InvalidDeed, true), (.ref c_NothingLeft, false), (.ref c_Stopped, false), (.ref c_InvalidLine, false), (.ref c_WrongSum, false), (.ref c_LossError, true), (.type "ValueError", true)]
  KR_NothingLeft : KRow K (.ref c_NothingLeft) [(.ref c_InvalidNumber, false), (.ref c_InvalidSetting, false), (.ref c_InvalidSegment, false), (.ref c_InvalidWords, false), (.ref c_NotAllowed, false), (.ref c_Broken, false), (.ref c_NoConnection, false), (.ref c_NoListener, false), (.ref c_PortTaken, false), (.ref c_StationDown, false), (.ref c_TooMany, false), (.ref c_InvalidFate, false), (.ref c_InvalidTrace, false), (.ref c_InvalidDeed, false), (.ref c_NothingLeft, true), (.ref c_Stopped, false), (.ref c_InvalidLine, false), (.ref c_WrongSum, false), (.ref c_LossError, true), (.type "ValueError", true)]
  KR_Stopped : KRow K (.ref c_Stopped) [(.ref c_InvalidNumber, false), (.ref c_InvalidSetting, false), (.ref c_InvalidSegment, false), (.ref c_InvalidWords, false), (.ref c_NotAllowed, false), (.ref c_Broken, false), (.ref c_NoConnection, false), (.ref c_NoListener, false), (.ref c_PortTaken, false), (.ref c_StationDown, false), (.ref c_TooMany, false), (.ref c_InvalidFate, false), (.ref c_InvalidTrace, false), (.ref c_InvalidDeed, false), (.ref c_NothingLeft, false), (.ref c_Stopped, true), (.ref c_InvalidLine, false), (.ref c_WrongSum, false), (.ref c_LossError, true), (.type "ValueError", true)]
  KR_InvalidLine : KRow K (.ref c_InvalidLine) [(.ref c_InvalidNumber, false), (.ref c_InvalidSetting, false), (.ref c_InvalidSegment, false), (.ref c_InvalidWords, false), (.ref c_NotAllowed, false), (.ref c_Broken, false), (.ref c_NoConnection, false), (.ref c_NoListener, false), (.ref c_PortTaken, false), (.ref c_StationDown, false), (.ref c_TooMany, false), (.ref c_InvalidFate, false), (.ref c_InvalidTrace, false), (.ref c_InvalidDeed, false), (.ref c_NothingLeft, false), (.ref c_Stopped, false), (.ref c_InvalidLine, true), (.ref c_WrongSum, false), (.ref c_LossError, true), (.type "ValueError", true)]
  KR_WrongSum : KRow K (.ref c_WrongSum) [(.ref c_InvalidNumber, false), (.ref c_InvalidSetting, false), (.ref c_InvalidSegment, false), (.ref c_InvalidWords, true), (.ref c_NotAllowed, false), (.ref c_Broken, false), (.ref c_NoConnection, false), (.ref c_NoListener, false), (.ref c_PortTaken, false), (.ref c_StationDown, false), (.ref c_TooMany, false), (.ref c_InvalidFate, false), (.ref c_InvalidTrace, false), (.ref c_InvalidDeed, false), (.ref c_NothingLeft, false), (.ref c_Stopped, false), (.ref c_InvalidLine, false), (.ref c_WrongSum, true), (.ref c_LossError, true), (.type "ValueError", true)]
  KR_NoneType : KRow K (.type "NoneType") [(.ref c_Ring, false)]
  KR_bool : KRow K (.type "bool") [(.ref c_Ring, false)]
  KR_int : KRow K (.type "int") [(.ref c_Ring, false)]
  KR_str : KRow K (.type "str") [(.ref c_Ring, false)]
  KR_tuple : KRow K (.type "tuple") [(.ref c_Ring, false)]
  KR_list : KRow K (.type "list") [(.ref c_Ring, false)]
  KR_dict : KRow K (.type "dict") [(.ref c_Ring, false)]
  KR_Ring : KRow K (.ref c_Ring) [(.ref c_Ring, true)]
  sub_NoneType : PySem.W.subIn K (.type "NoneType") (.ref c_Ring) = some false
  sub_bool : PySem.W.subIn K (.type "bool") (.ref c_Ring) = some false
  sub_int : PySem.W.subIn K (.type "int") (.ref c_Ring) = some false
  sub_str : PySem.W.subIn K (.type "str") (.ref c_Ring) = some false
  sub_tuple : PySem.W.subIn K (.type "tuple") (.ref c_Ring) = some false
  sub_list : PySem.W.subIn K (.type "list") (.ref c_Ring) = some false
  sub_dict : PySem.W.subIn K (.type "dict") (.ref c_Ring) = some false
  ri_class : PySem.W.findIn K (.ref c_Ring) "__class__" = some (some (.builtin "object.__class__"))
  ri_mro : PySem.W.mroIn K c_Ring (.type "object") = some true
  ri_get : PySem.W.specialIn K (.builtin "object.__class__") "__get__" = some (some (.builtin "getset_descriptor.__get__"))
  ri_tk : PySem.W.takesIn K (.builtin "object.__class__") = some true
  b_ValueError : mg "ValueError" = none
  b_bool : mg "bool" = none
  b_classmethod : mg "classmethod" = none
  b_int : mg "int" = none
  b_isinstance : mg "isinstance" = none
  b_len : mg "len" = none
  b_max : mg "max" = none
  b_min : mg "min" = none
  b_range : mg "range" = none
  b_repr : mg "repr" = none
  b_str : mg "str" = none
  b_tuple : mg "tuple" = none

section
variable {P : Program} {w : World} {K : PySem.W.Frag} {mg : Str → Option Value} {base : Heap}
/-! ### kinds of values -/
/-- whether x is an int and no bool, by its kind -/
def IntK (K : PySem.W.Frag) (H : Hp) (x : V) (r : Bool) : Prop := ∃ (t : Value) (i b : Bool), TyX K H x t ∧ PySem.W.kitOne K t (.type "int") = some i ∧ PySem.W.kitOne K t (.type "bool") = some b ∧ r = (i && !b)
theorem intK_int {K : PySem.W.Frag} {H : Hp} (n : Int) : IntK K H (.int n) true := ⟨.type "int", true, false, .base (.int n), kit_ty (by decide +kernel), kit_ty (by decide +kernel), rfl⟩
/-- isinstance(x, int) and not isinstance(x, bool) -/
def sp_is_integer (K : PySem.W.Frag) : Sp := fun vs H Q _ => ∃ (x : V) (r : Bool), vs = [x] ∧ IntK K H x r ∧ Q (.bl r) H
def sp_is_between (K : PySem.W.Frag) : Sp := fun vs H Q _ => ∃ (x : V) (lo hi : Int), vs = [x, .int lo, .int hi] ∧ ((∃ n, x = .int n ∧ Q (.bl (decide (lo ≤ n) && decide (n ≤ hi))) H) ∨ (IntK K H x false ∧ Q (.bl false) H))
theorem ok_is_integer (T : Txt K mg) : FnOk P w K mg base CX0 1 T.a_is_integer T.fd_is_integer ["value"] (sp_is_integer K) := by
  have S := sc_is_integer
  refine T.F_is_integer.ok S (fun vs H Q E h => ?_) (fun cdv A outer s H vs Q E hr h => ?_)
  · obtain ⟨x, r, rfl, _⟩ := h
    rfl
  · obtain ⟨x, r, rfl, ⟨t, i, b, ty, hi, hb, rfl⟩, k⟩ := h
    refine ⟨_, (pss_one (ps_ret (pe_and (pe_callB (id := "isinstance") call_isi (by rfl) T.b_isinstance (by decide +kernel) (pa_cons (pv 0) (pa_cons (pe_bltn (v := .ty "int") (u := .type "int") (by rfl) T.b_int (by decide +kernel) rfl) pa_nil))) (pe_one (pe_not (pe_callB (id := "isinstance") call_isi (by rfl) T.b_isinstance (by decide +kernel) (pa_cons (pv 0) (pa_cons (pe_bltn (v := .ty "bool") (u := .type "bool") (by rfl) T.b_bool (by decide +kernel) rfl) pa_nil)))))))), ?_⟩
    refine ⟨_, rfl, _, _, _, _, i, rfl, .ty _, ty, hi, i, rfl, ?_⟩
    cases i with
    | false => exact iteF k
    | true => exact iteT ⟨_, rfl, _, _, _, _, b, rfl, .ty _, ty, hb, b, rfl, k⟩
theorem ok_is_between (T : Txt K mg) : FnOk P w K mg base CX0 2 T.a_is_between T.fd_is_between ["value", "low", "high"] (sp_is_between K) := by
  have S := sc_is_between
  refine T.F_is_between.ok S (fun vs H Q E h => ?_) (fun cdv A outer s H vs Q E hr h => ?_)
  · obtain ⟨x, lo, hi, rfl, _⟩ := h
    rfl
  · obtain ⟨x, lo, hi, rfl, h⟩ := h
    refine ⟨_, (pss_one (ps_ret (pe_and (pe_call (ok_is_integer T) (hr.mono (by decide)) rfl T.g_is_integer T.F_is_integer.kp T.B_is_integer .nil pass0 (pa_cons (pv 0) pa_nil)) (pe_one (pe_chain op_le op_le (pv 1) (pv 0) (pv 2)))))), ?_⟩
    rcases h with ⟨n, rfl, k⟩ | ⟨hk, k⟩
    · refine ⟨_, rfl, _, true, rfl, intK_int n, true, rfl, iteT ?_⟩
      refine ⟨_, rfl, _, rfl, _, _, rfl, rfl, _, rfl, ?_⟩
      by_cases q : lo ≤ n
      · rw [decide_eq_true q, Bool.true_and] at k
        rw [decide_eq_true q]
        exact iteT ⟨_, rfl, _, _, rfl, rfl, k⟩
      · rw [decide_eq_false q, Bool.false_and] at k
        rw [decide_eq_false q]
        exact iteF k
    · exact ⟨_, rfl, _, false, rfl, hk, false, rfl, iteF k⟩
/-! ### sequences, items by their kinds -/
theorem tyX_same {K : PySem.W.Frag} {H H' : Hp} {x : V} {t : Value} (h : TyX K H x t) (s : Same H H') : TyX K H' x t := by
  cases h with
  | base b =>
    refine .base ?_
    cases b with
    | non => exact .non
    | bl y => exact .bl y
    | int i => exact .int i
    | str y => exact .str y
    | flt y => exact .flt y
    | lst e => exact .lst (s _ _ e)
    | frz e => exact .frz (s _ _ e)
    | tup e => exact .tup (s _ _ e)
    | dK e => exact .dK (s _ _ e)
    | dT e => exact .dT (s _ _ e)
    | ins e cl ha hn ht hm => exact .ins (s _ _ e) cl ha hn ht hm
  | byt b => exact .byt b
  | set e => exact .set (s _ _ e)
  | kList e c => exact .kList e c
  | kTuple e c => exact .kTuple e c
  | kDict e c => exact .kDict e c
  | fTuple e => exact .fTuple (s _ _ e)
  | fDict e => exact .fDict (s _ _ e)
theorem IntK.same {K : PySem.W.Frag} {H H' : Hp} {x : V} {r : Bool} (h : IntK K H x r) (s : Same H H') : IntK K H' x r := by
  obtain ⟨t, i, b, ty, h1, h2, h3⟩ := h
  exact ⟨t, i, b, tyX_same ty s, h1, h2, h3⟩
/-- x is the int n, or no int at all -/
def Kd (K : PySem.W.Frag) (H : Hp) (x : V) : Option Int → Prop
  | some n => x = .int n
  | none => IntK K H x false
theorem Kd.same {K : PySem.W.Frag} {H H' : Hp} {x : V} {o : Option Int} (h : Kd K H x o) (s : Same H H') : Kd K H' x o := by
  cases o with
  | some n => exact h
  | none => exact IntK.same h s
/-- what lies in lo .. hi -/
def inR (lo hi : Int) : Option Int → Bool
  | some n => decide (lo ≤ n) && decide (n ≤ hi)
  | none => false
/-- a list or a tuple -/
def SeqA (K : PySem.W.Frag) (H : Hp) (a : Addr) (xs : List V) : Prop := SqL K H a xs ∨ SqT K H a xs
theorem SeqA.lst {K : PySem.W.Frag} {H : Hp} {a : Addr} {xs : List V} (h : H a = some (.lst xs)) : SeqA K H a xs := .inl (SqL.of h)
theorem SeqA.tup {K : PySem.W.Frag} {H : Hp} {a : Addr} {xs : List V} (h : H a = some (.tup xs)) : SeqA K H a xs := .inr (SqT.of h)
theorem SeqA.sm {K : PySem.W.Frag} {H H' : Hp} {a : Addr} {xs : List V} (h : SeqA K H a xs) (s : Same H H') : SeqA K H' a xs := h.elim (fun h => .inl (s.seq h)) fun h => .inr (sqT_sm h s)
/-- whether x is a sequence, by its kind -/
def SeqK (K : PySem.W.Frag) (H : Hp) (x : V) (r : Bool) : Prop := ∃ t, TyX K H x t ∧ PySem.W.kitAny K t [.type "list", .type "tuple"] = some r
theorem kit2 {K : PySem.W.Frag} {t : Value} {a b : Bool} (h1 : PySem.W.kitOne K t (.type "list") = some a) (h2 : PySem.W.kitOne K t (.type "tuple") = some b) : PySem.W.kitAny K t [.type "list", .type "tuple"] = some (a || b) := by
  unfold PySem.W.kitAny
  rw [h1]
  cases a with
  | true => rfl
  | false =>
    show PySem.W.kitAny K t [.type "tuple"] = some b
    unfold PySem.W.kitAny
    rw [h2]
    cases b <;> rfl
theorem seqK_ty {K : PySem.W.Frag} {H : Hp} {x : V} {n : String} {a b : Bool} (t : TyX K H x (.type n)) (h1 : kitB n "list" = some a) (h2 : kitB n "tuple" = some b) : SeqK K H x (a || b) := ⟨_, t, kit2 (kit_ty h1) (kit_ty h2)⟩
theorem seqK_of {K : PySem.W.Frag} {H : Hp} {a : Addr} {xs : List V} (h : SeqA K H a xs) : SeqK K H (.ref a) true := by
  rcases h with h | h
  · rcases h with (h | ⟨o, h⟩) | ⟨o, its, n, hk, hc, _⟩
    · exact seqK_ty (a := true) (b := false) (.base (.lst h)) (by decide +kernel) (by decide +kernel)
    · exact seqK_ty (a := true) (b := false) (.base (.frz h)) (by decide +kernel) (by decide +kernel)
    · exact seqK_ty (a := true) (b := false) (.kList hk hc) (by decide +kernel) (by decide +kernel)
  · rcases h with (h | ⟨o, h⟩) | ⟨o, its, n, hk, hc, _⟩
    · exact seqK_ty (a := false) (b := true) (.base (.tup h)) (by decide +kernel) (by decide +kernel)
    · exact seqK_ty (a := false) (b := true) (.fTuple h) (by decide +kernel) (by decide +kernel)
    · exact seqK_ty (a := false) (b := true) (.kTuple hk hc) (by decide +kernel) (by decide +kernel)
/-! ### lists stay lists -/
def Typ (H H' : Hp) : Prop := ∀ a o, H a = some o → H' a = some o ∨ ((∃ xs, o = .lst xs) ∧ ∃ ys, H' a = some (.lst ys))
theorem Typ.refl (H : Hp) : Typ H H := fun _ _ h => .inl h
theorem Typ.of {H H' : Hp} (s : Same H H') : Typ H H' := fun _ _ h => .inl (s _ _ h)
theorem Typ.trans {H H1 H2 : Hp} (x : Typ H H1) (y : Typ H1 H2) : Typ H H2 := fun a o h => by
  rcases x a o h with h1 | ⟨hx, ys, h1⟩
  · exact y a o h1
  · rcases y a _ h1 with h2 | ⟨_, zs, h2⟩
    · exact .inr ⟨hx, ys, h2⟩
    · exact .inr ⟨hx, zs, h2⟩
theorem Typ.upd {H : Hp} {a : Addr} {xs ys : List V} (h : H a = some (.lst xs)) : Typ H (L2.upd H a (.lst ys)) := fun b o hb => by
  by_cases q : b = a
  · subst q
    rw [h] at hb
    cases hb
    exact .inr ⟨⟨_, rfl⟩, ys, upd_same⟩
  · exact .inl (by rw [upd_ne q]; exact hb)
theorem Typ.purse {H H' : Hp} {p c : Addr} (P : Purse p c H) (P' : Purse p c H') (s : SameX p H H') : Typ H H' := fun b o hb => by
  by_cases q : b = p
  · subst q
    obtain ⟨⟨xs, h⟩, _⟩ := P.there
    obtain ⟨⟨ys, h'⟩, _⟩ := P'.there
    rw [h] at hb
    cases hb
    exact .inr ⟨⟨_, rfl⟩, ys, h'⟩
  · exact .inl (s b o q hb)
theorem tyX_typ {K : PySem.W.Frag} {H H' : Hp} {x : V} {t : Value} (h : TyX K H x t) (s : Typ H H') : TyX K H' x t := by
  cases h with
  | base b =>
    refine .base ?_
    cases b with
    | non => exact .non
    | bl y => exact .bl y
    | int i => exact .int i
    | str y => exact .str y
    | flt y => exact .flt y
    | lst e => exact (s _ _ e).elim (fun h => .lst h) fun ⟨_, ys, h⟩ => .lst h
    | frz e => exact (s _ _ e).elim (fun h => .frz h) fun ⟨⟨_, z⟩, _⟩ => nomatch z
    | tup e => exact (s _ _ e).elim (fun h => .tup h) fun ⟨⟨_, z⟩, _⟩ => nomatch z
    | dK e => exact (s _ _ e).elim (fun h => .dK h) fun ⟨⟨_, z⟩, _⟩ => nomatch z
    | dT e => exact (s _ _ e).elim (fun h => .dT h) fun ⟨⟨_, z⟩, _⟩ => nomatch z
    | ins e cl ha hn ht hm => exact (s _ _ e).elim (fun h => .ins h cl ha hn ht hm) fun ⟨⟨_, z⟩, _⟩ => nomatch z
  | byt b => exact .byt b
  | set e => exact (s _ _ e).elim (fun h => .set h) fun ⟨⟨_, z⟩, _⟩ => nomatch z
  | kList e c => exact .kList e c
  | kTuple e c => exact .kTuple e c
  | kDict e c => exact .kDict e c
  | fTuple e => exact (s _ _ e).elim (fun h => .fTuple h) fun ⟨⟨_, z⟩, _⟩ => nomatch z
  | fDict e => exact (s _ _ e).elim (fun h => .fDict h) fun ⟨⟨_, z⟩, _⟩ => nomatch z
theorem Kd.typ {K : PySem.W.Frag} {H H' : Hp} {x : V} {o : Option Int} (h : Kd K H x o) (s : Typ H H') : Kd K H' x o := by
  cases o with
  | some n => exact h
  | none =>
    obtain ⟨t, i, b, ty, h1, h2, h3⟩ := (show IntK K H x false from h)
    exact ⟨t, i, b, tyX_typ ty s, h1, h2, h3⟩
theorem intK_no {K : PySem.W.Frag} {H : Hp} {x : V} {n : String} {i b : Bool} (t : TyX K H x (.type n)) (h1 : kitB n "int" = some i) (h2 : kitB n "bool" = some b) (h : (i && !b) = false) : IntK K H x false := ⟨_, i, b, t, kit_ty h1, kit_ty h2, h.symm⟩
theorem ixN_nat {n j : Nat} {z : Int} (e : z = (j : Int)) (h : j < n) : ixN n z = some j := by
  subst e
  unfold ixN
  rw [if_pos (by omega), if_pos (by omega)]
  rfl
/-! ### draws -/
/-- a draw below m: some digit, the purse a purse again, all else as it was -/
def sp__law_draw (K : PySem.W.Frag) : Sp := fun vs H Q _ => ∃ (a : Addr) (m : Int), vs = [.ref a, .int m] ∧ ∃ c, Purse a c H ∧ 0 < m ∧ m < 1073741824 ∧ ∀ d H', 0 ≤ d → d < m → Purse a c H' → SameX a H H' → Q (.int d) H'
theorem ok__law_draw (T : Txt K mg) : FnOk P w K mg base CX0 1 T.a__law_draw T.fd__law_draw ["purse", "many"] (sp__law_draw K) := by
  have S := sc__law_draw
  refine T.F__law_draw.ok S (fun vs H Q E h => ?_) (fun cdv A outer s H vs Q E hr h => ?_)
  · obtain ⟨a, m, rfl, _⟩ := h
    rfl
  · obtain ⟨a, m, rfl, c, ⟨cs, p, r, n, z, hA, hC, hpos, hp, hl, hr0, hz0, hz1⟩, hm0, hm1, k⟩ := h
    have hca : c ≠ a := pur_ne hA hC
    refine ⟨_, (C8.pss_cut (ps_if (PW.pt (pw_and (pt_cmpR op_eq (pe_ix ix_list (pv 0) pe_int (fun _ _ => rfl)) pe_int (nomark _)) (pw_and (pt_cmpR op_lt (pe_ix ix_list (pv 0) pe_int (fun _ _ => rfl)) (pe_callB (id := "len") call_len_seq (by rfl) T.b_len (by decide +kernel) (pa_cons (pe_ix ix_list (pv 0) pe_int (fun _ _ => rfl)) pa_nil)) (nomark _)) (pw_and1 (pt_cmpR op_ge (pe_ix ix_list (pe_ix ix_list (pv 0) pe_int (fun _ _ => rfl)) (pe_ix ix_list (pv 0) pe_int (fun _ _ => rfl)) (fun _ _ => rfl)) (pe_op op_pow pe_int pe_int) (nomark _)))))) (pss_cons (ps_asg (pe_ix ix_list (pe_ix ix_list (pv 0) pe_int (fun _ _ => rfl)) (pe_ix ix_list (pv 0) pe_int (fun _ _ => rfl)) (fun _ _ => rfl)) (pg_sub (pv 0) pe_int set_list))
      (pss_one (ps_asg (pe_op op_add (pe_ix ix_list (pv 0) pe_int (fun _ _ => rfl)) pe_int) (pg_sub (pv 0) pe_int set_list)))) pss_nil)
      (pss_cons (ps_if (pt_cmpR op_gt (pe_ix ix_list (pv 0) pe_int (fun _ _ => rfl)) pe_int (nomark _)) (pss_cons (ps_set (i := 2) S.nd rfl (Or.inl rfl) (pe_op op_mod (pe_callTy (T := "int") call_int1 (by rfl) T.b_int (by decide +kernel) (pa_cons (pe_ix ix_list (pv 0) pe_int (fun _ _ => rfl)) pa_nil)) (pv 1)))
      (pss_cons (ps_asg (pe_op op_fdiv (pe_ix ix_list (pv 0) pe_int (fun _ _ => rfl)) (pv 1)) (pg_sub (pv 0) pe_int set_list))
      (pss_one (ps_ret (pv 2))))) pss_nil)
      (pss_cons (ps_set (i := 3) S.nd rfl (Or.inl rfl) (pe_ix ix_list (pv 0) pe_int (fun _ _ => rfl)))
      (C8.pss_cut (ps_if (pt_cmpR op_lt (pe_ix ix_list (pv 0) pe_int (fun _ _ => rfl)) (pe_callB (id := "len") call_len_seq (by rfl) T.b_len (by decide +kernel) (pa_cons (pe_ix ix_list (pv 0) pe_int (fun _ _ => rfl)) pa_nil)) (nomark _)) (pss_cons (ps_set (i := 3) S.nd rfl (Or.inl rfl) (pe_ix ix_list (pe_ix ix_list (pv 0) pe_int (fun _ _ => rfl)) (pe_ix ix_list (pv 0) pe_int (fun _ _ => rfl)) (fun _ _ => rfl)))
      (pss_one (ps_asg (pe_op op_add (pe_ix ix_list (pv 0) pe_int (fun _ _ => rfl)) pe_int) (pg_sub (pv 0) pe_int set_list)))) pss_nil)
      (pss_cons (ps_asg (pe_op op_add (pe_ix ix_list (pv 0) pe_int (fun _ _ => rfl)) pe_int) (pg_sub (pv 0) pe_int set_list))
      (pss_cons (ps_set (i := 4) S.nd rfl (Or.inl rfl) (pe_op op_mod (pe_callTy (T := "int") call_int1 (by rfl) T.b_int (by decide +kernel) (pa_cons (pe_op op_add (pe_op op_mul (pv 3) pe_int) (pe_op op_mul (pe_ix ix_list (pv 0) pe_int (fun _ _ => rfl)) (pe_op op_add pe_int (pe_op op_mul pe_int (pe_ix ix_list (pv 0) pe_int (fun _ _ => rfl)))))) pa_nil)) pe_int))
      (pss_cons (ps_set (i := 4) S.nd rfl (Or.inl rfl) (pe_op op_mod (pe_callTy (T := "int") call_int1 (by rfl) T.b_int (by decide +kernel) (pa_cons (pe_op op_add (pe_op op_mul (pv 4) (pe_op op_add pe_int (pe_op op_fdiv (pv 4) pe_int))) (pe_op op_mul (pe_ix ix_list (pv 0) pe_int (fun _ _ => rfl)) (pe_ix ix_list (pv 0) pe_int (fun _ _ => rfl)))) pa_nil)) pe_int))
      (pss_one (ps_ret (pe_op op_mod (pe_callTy (T := "int") call_int1 (by rfl) T.b_int (by decide +kernel) (pa_cons (pe_op op_fdiv (pv 4) pe_int) pa_nil)) (pv 1))))))))))), ?_⟩
    refine ⟨fun σ H' => ∃ (p : Nat) (r : Int), σ = [some (.ref a), some (.int m), none, none, none] ∧ H' a = some (.lst (pur c p r n z)) ∧ p ≤ cs.length ∧ 0 ≤ r ∧ SameX a H H', ?_, ?_⟩
    · refine ⟨_, rfl, _, _, _, _, rfl, rfl, SqL.of hA, rfl, rfl, _, rfl, ?_⟩
      refine ite2 (fun _ => ?_) (fun _ => iteF ⟨p, r, rfl, hA, hp, hr0, SameX.refl⟩)
      refine ⟨_, rfl, _, _, _, _, rfl, rfl, SqL.of hA, rfl, _, rfl, _, _, _, _, rfl, rfl, SqL.of hA, rfl, _, _, rfl, .inl (SqL.of hC), _, _, rfl, rfl, _, rfl, ?_⟩
      refine ite2 (fun e2 => ?_) (fun _ => iteF ⟨p, r, rfl, hA, hp, hr0, SameX.refl⟩)
      have hlt : p < cs.length := by
        have q := of_decide_eq_true e2
        rw [List.length_map] at q
        omega
      have hx : (cs.map V.int)[p]? = some (V.int cs[p]) := by simp [hlt]
      have hx0 : 0 ≤ cs[p] := hpos _ (List.getElem_mem hlt)
      refine ⟨_, rfl, _, _, _, _, rfl, rfl, SqL.of hA, rfl, _, rfl, _, _, _, _, rfl, rfl, SqL.of hA, rfl, _, _, _, _, rfl, rfl, SqL.of hC, atI_nat hx, _, _, rfl, rfl, (by unfold CPow; decide), _, _, rfl, rfl, _, rfl, ?_⟩
      refine ite2 (fun _ => ?_) (fun _ => ⟨p, r, rfl, hA, hp, hr0, SameX.refl⟩)
      refine ⟨_, rfl, _, _, _, _, rfl, rfl, SqL.of hA, rfl, _, rfl, _, _, _, _, rfl, rfl, SqL.of hA, rfl, _, _, _, _, rfl, rfl, SqL.of hC, atI_nat hx, _, rfl, _, _, _, _, rfl, rfl, hA, rfl, ?_⟩
      have hA1 : (upd H a (.lst (pur c p cs[p] n z))) a = some (.lst (pur c p cs[p] n z)) := upd_same
      refine ⟨_, rfl, _, _, _, _, rfl, rfl, SqL.of hA1, rfl, _, _, rfl, rfl, _, rfl, _, _, _, _, rfl, rfl, hA1, rfl, ?_⟩
      exact ⟨p + 1, cs[p], rfl, upd_same, hlt, hx0, (SameX.upd).upd'⟩
    · rintro σ H1 ⟨p, r, rfl, hA, hp, hr0, sx⟩
      have hC : H1 c = some (.lst (cs.map V.int)) := sx _ _ hca hC
      refine ⟨_, rfl, _, _, _, _, rfl, rfl, SqL.of hA, rfl, _, _, rfl, rfl, _, rfl, ?_⟩
      refine ite2 (fun e1 => ?_) (fun e1 => ?_)
      · refine ⟨_, rfl, _, _, _, _, rfl, rfl, SqL.of hA, rfl, .inl ⟨_, rfl, _, rfl, _, _, rfl, rfl, hm0, ?_⟩⟩
        refine ⟨_, rfl, _, _, _, _, rfl, rfl, SqL.of hA, rfl, _, rfl, _, _, rfl, rfl, ⟨hm0, hm1⟩, _, rfl, _, _, _, _, rfl, rfl, hA, rfl, ?_⟩
        refine ⟨_, rfl, k _ _ (Int.emod_nonneg _ (by omega)) (Int.emod_lt_of_pos _ hm0) ⟨cs, p, r / m, n, z, upd_same, by rw [upd_ne hca]; exact hC, hpos, hp, hl, Int.ediv_nonneg hr0 (by omega), hz0, hz1⟩ sx.upd'⟩
      · refine ⟨_, rfl, _, _, _, _, rfl, rfl, SqL.of hA, rfl, ?_⟩
        refine ⟨fun σ H' => ∃ (p : Nat) (v : Int), σ = [some (.ref a), some (.int m), none, some (.int v), none] ∧ H' a = some (.lst (pur c p r n z)) ∧ p ≤ cs.length ∧ SameX a H H', ?_, ?_⟩
        · refine ⟨_, rfl, _, _, _, _, rfl, rfl, SqL.of hA, rfl, _, rfl, _, _, _, _, rfl, rfl, SqL.of hA, rfl, _, _, rfl, .inl (SqL.of hC), _, _, rfl, rfl, _, rfl, ?_⟩
          refine ite2 (fun e2 => ?_) (fun _ => ⟨p, z, rfl, hA, hp, sx⟩)
          have hlt : p < cs.length := by
            have q := of_decide_eq_true e2
            rw [List.length_map] at q
            omega
          have hx : (cs.map V.int)[p]? = some (V.int cs[p]) := by simp [hlt]
          refine ⟨_, rfl, _, _, _, _, rfl, rfl, SqL.of hA, rfl, _, rfl, _, _, _, _, rfl, rfl, SqL.of hA, rfl, _, _, _, _, rfl, rfl, SqL.of hC, atI_nat hx, ?_⟩
          refine ⟨_, rfl, _, _, _, _, rfl, rfl, SqL.of hA, rfl, _, _, rfl, rfl, _, rfl, _, _, _, _, rfl, rfl, hA, rfl, ?_⟩
          exact ⟨p + 1, cs[p], rfl, upd_same, hlt, sx.upd'⟩
        · rintro σ H2 ⟨p, v, rfl, hA, hp, sx⟩
          have hC : H2 c = some (.lst (cs.map V.int)) := sx _ _ hca ‹H c = _›
          refine ⟨_, rfl, _, _, _, _, rfl, rfl, SqL.of hA, rfl, _, _, rfl, rfl, _, rfl, _, _, _, _, rfl, rfl, hA, rfl, ?_⟩
          have hA1 : (upd H2 a (.lst (pur c p r (n + 1) z))) a = some (.lst (pur c p r (n + 1) z)) := upd_same
          refine ⟨_, rfl, _, _, rfl, rfl, .inr ⟨by decide, by decide⟩, _, rfl, _, _, _, _, rfl, rfl, SqL.of hA1, rfl, _, rfl, _, _, _, _, rfl, rfl, SqL.of hA1, rfl, _, _, rfl, rfl, .inl ⟨by decide, by decide⟩, _, _, rfl, rfl, _, _, rfl, rfl, .inl ⟨by omega, by omega⟩, _, _, rfl, rfl, .inl ⟨_, rfl, _, _, rfl, rfl, (by show (0 : Int) < _; decide), ?_⟩⟩
          generalize hb : (v * 48271 + z * (7919 + 69621 * (n + 1))) % 2147483647 = b
          have hb0 : 0 ≤ b := by rw [← hb]; exact Int.emod_nonneg _ (by decide)
          have hb1 : b < 2147483647 := by rw [← hb]; exact Int.emod_lt_of_pos _ (by decide)
          refine ⟨_, rfl, _, rfl, _, _, rfl, rfl, ⟨by decide, by decide⟩, _, _, rfl, rfl, _, _, rfl, rfl, .inl ⟨by omega, by omega⟩, _, rfl, _, _, _, _, rfl, rfl, SqL.of hA1, rfl, _, rfl, _, _, _, _, rfl, rfl, SqL.of hA1, rfl, _, _, rfl, rfl, .inl ⟨by omega, by omega⟩, _, _, rfl, rfl, .inl ⟨_, rfl, _, _, rfl, rfl, (by show (0 : Int) < _; decide), ?_⟩⟩
          refine ⟨_, rfl, _, _, rfl, rfl, ⟨by decide, by decide⟩, .inl ⟨_, rfl, _, rfl, _, _, rfl, rfl, hm0, ?_⟩⟩
          exact k _ _ (Int.emod_nonneg _ (by omega)) (Int.emod_lt_of_pos _ hm0) ⟨cs, p, r, n + 1, z, upd_same, by rw [upd_ne hca]; exact hC, hpos, hp, hl, hr0, hz0, hz1⟩ sx.upd'
/-! ### equality of words -/
theorem dec_int (a b : Int) : decide (V.int a = V.int b) = decide (a = b) := by
  by_cases e : a = b
  · rw [decide_eq_true e, decide_eq_true (congrArg V.int e)]
  · rw [decide_eq_false e, decide_eq_false (fun q => e (V.int.inj q))]
theorem dec_bl (a b : Bool) : decide (V.bl a = V.bl b) = (a == b) := by
  cases a <;> cases b <;> rfl
/-! ### the purse -/
def sp__law_purse (K : PySem.W.Frag) : Sp := fun vs H Q _ => ∃ (a : Addr) (ns : List Int), vs = [.ref a] ∧ SqL K H a (ns.map V.int) ∧ ∀ p c H', H p = none → H c = none → p ≠ c → Purse p c H' → Same H H' → Q (.ref p) H'
/-- a cell of the script, none below nought -/
def cel (x : Int) : Int := if 0 ≤ x then x else -1 - x
theorem cel_nn (x : Int) : 0 ≤ cel x := by
  unfold cel
  split <;> omega
theorem ok__law_purse (T : Txt K mg) : FnOk P w K mg base CX0 1 T.a__law_purse T.fd__law_purse ["script"] (sp__law_purse K) := by
  have S := sc__law_purse
  refine T.F__law_purse.ok S (fun vs H Q E h => ?_) (fun cdv A outer s H vs Q E hr h => ?_)
  · obtain ⟨a, ns, rfl, _⟩ := h
    rfl
  · obtain ⟨a, ns, rfl, hS, k⟩ := h
    refine ⟨_, (pss_cons (ps_setLc (i := 1) (own := [("one", 4)]) (g := gName 4) (tt := tYes) rfl S.nd rfl rfl (sw_true rfl rfl rfl (by decide +kernel)) (pi_list (pe_slice sl_list (pv 0) po_none (po_some pe_int))) (blkOk_by (N := ["script", "cells", "seed", "cell", "one"]) (sc := defScope s__law_purse) (by decide +kernel)) (fun _ _ _ _ _ => pg_name (i := 4) S.nd rfl (Or.inl rfl)) (fun _ _ _ _ _ => pts_nil) (fun _ _ _ _ _ => (pe_ifExp (pt_cmpR op_ge (pv 4) pe_int (nomark _)) (pv 4) (pe_op op_sub (pe_un un_neg pe_int) (pv 4)))))
      (pss_cons (ps_set (i := 2) S.nd rfl (Or.inl rfl) pe_int)
      (pss_cons (ps_for PassesOwn.never rfl (pi_list (pv 1)) (pg_name (i := 3) S.nd rfl (Or.inl rfl)) (pss_one (ps_set (i := 2) S.nd rfl (Or.inl rfl) (pe_op op_mod (pe_callTy (T := "int") call_int1 (by rfl) T.b_int (by decide +kernel) (pa_cons (pe_op op_add (pe_op op_add (pe_op op_mul (pv 2) pe_int) (pv 3)) pe_int) pa_nil)) pe_int))))
      (pss_one (ps_ret (pe_lst (pa_cons (pv 1) (pa_cons pe_int (pa_cons pe_int (pa_cons pe_int (pa_cons (pv 2) pa_nil))))))))))), ?_⟩
    refine ⟨_, rfl, _, rfl, _, _, rfl, hS, fun q hq => ?_⟩
    have eC : cutV (ns.map V.int) none (some 63) = (ns.take 63).map V.int := by
      have e1 : HT.sIx (ns.map V.int).length 0 none = 0 := rfl
      have e2 : HT.sIx (ns.map V.int).length (ns.map V.int).length (some 63) = min 63 ns.length := by
        unfold HT.sIx
        simp
      unfold cutV
      rw [e1, e2, List.drop_zero, Nat.sub_zero, ← List.map_take]
      exact congrArg (List.map V.int) (by rw [List.take_eq_take_iff]; omega)
    generalize hcs : ns.take 63 = cs at eC
    rw [eC]
    have hl63 : cs.length ≤ 63 := by
      rw [← hcs, List.length_take]
      omega
    have hS1 : (upd H q (.lst (cs.map V.int))) q = some (.lst (cs.map V.int)) := upd_same
    refine ⟨_, rfl, ⟨_, SqL.of hS1⟩, fun D hD => ?_⟩
    have nq : q ≠ D := fun e => by
      rw [← e, upd_same] at hD
      cases hD
    have hD0 : H D = none := by
      rw [upd_ne nq.symm] at hD
      exact hD
    refine lc_list (K := K) (a := q) (xs := cs.map V.int) (fun i H' => H' q = some (.lst (cs.map V.int)) ∧ H' D = some (.lst (((cs.take i).map cel).map V.int)) ∧ ∀ b o, b ≠ D → H b = some o → H' b = some o)
      ⟨by rw [upd_ne nq]; exact upd_same, upd_same, fun b o nb e => by rw [upd_ne nb, upd_ne (ne_of_none e hq)]; exact e⟩ (fun i H' _ ⟨h1, _⟩ => SqL.of h1) ?_ ?_
    · rintro i x H' hi ⟨h1, h2, h3⟩
      rw [List.getElem?_map] at hi
      cases e : cs[i]? with
      | none =>
        rw [e] at hi
        cases hi
      | some u =>
        rw [e] at hi
        cases hi
        have hil : i < cs.length := (List.getElem?_eq_some_iff.mp e).1
        refine ⟨rfl, ?_⟩
        have fin : ∃ acc, H' D = some (.lst acc) ∧ acc.length < sizeLine ∧ (fun i H' => H' q = some (.lst (cs.map V.int)) ∧ H' D = some (.lst (((cs.take i).map cel).map V.int)) ∧ ∀ b o, b ≠ D → H b = some o → H' b = some o) (i + 1) (upd H' D (.lst (acc ++ [V.int (cel u)]))) := by
          refine ⟨_, h2, ?_, by show upd H' D _ q = _; rw [upd_ne nq]; exact h1, ?_, fun b o nb e => by rw [upd_ne nb]; exact h3 b o nb e⟩
          · simp only [List.length_map, List.length_take]
            exact small1000 (by omega)
          · show upd H' D _ D = _
            rw [upd_same, List.take_succ_eq_append_getElem hil]
            have e2 : cs[i] = u := (List.getElem?_eq_some_iff.mp e).2
            rw [e2]
            simp
        refine ⟨_, rfl, _, _, rfl, rfl, _, rfl, ?_⟩
        by_cases hu : 0 ≤ u
        · have ec : cel u = u := if_pos hu
          rw [ec] at fin
          rw [decide_eq_true hu]
          exact iteT ⟨_, rfl, fin⟩
        · have ec : cel u = -1 - u := if_neg hu
          rw [ec] at fin
          rw [decide_eq_false hu]
          exact iteF ⟨_, rfl, _, rfl, _, _, rfl, rfl, fin⟩
    · rintro H1 ⟨_, h2, h3⟩
      have h3' : Same H H1 := fun b o e => h3 b o (ne_of_none e hD0) e
      rw [List.length_map, List.take_length] at h2
      have hpos : ∀ x ∈ cs.map cel, 0 ≤ x := fun x hx => by
        obtain ⟨y, _, rfl⟩ := List.mem_map.mp hx
        exact cel_nn y
      have hl2 : (cs.map cel).length ≤ 63 := by rw [List.length_map]; exact hl63
      generalize cs.map cel = ds at h2 hpos hl2
      refine ⟨_, rfl, _, rfl, ⟨_, SqL.of h2⟩, ?_⟩
      refine for_list (K := K) (a := D) (xs := ds.map V.int) (fun i σ H' => ∃ (z : Int) (v : Option V), σ = [some (.ref a), some (.ref D), some (.int z), v, none] ∧ 0 ≤ z ∧ z < 2147483647 ∧ H' = H1)
        ⟨0, none, rfl, by decide, by decide, rfl⟩ (fun i σ H' _ ⟨_, _, _, _, _, e⟩ => by rw [e]; exact SqL.of h2) ?_ ?_
      · rintro i x σ H' hi ⟨z, v, rfl, hz0, hz1, rfl⟩
        rw [List.getElem?_map] at hi
        cases e : ds[i]? with
        | none =>
          rw [e] at hi
          cases hi
        | some u =>
          rw [e] at hi
          cases hi
          refine ⟨_, rfl, _, _, rfl, rfl, .inr ⟨by decide, by decide⟩, _, rfl, _, _, rfl, rfl, _, _, rfl, rfl, .inl ⟨_, rfl, _, _, rfl, rfl, (by show (0 : Int) < _; decide), ?_⟩⟩
          exact ⟨_, _, rfl, Int.emod_nonneg _ (by decide), Int.emod_lt_of_pos _ (by decide), rfl⟩
      · rintro σ H' ⟨z, v, rfl, hz0, hz1, rfl⟩
        refine ⟨_, rfl, _, rfl, (by show 5 ≤ sizeLine; decide), fun p hp => ?_⟩
        have hpD : D ≠ p := ne_of_none h2 hp
        refine k p D _ (Same.free h3' hp) hD0 hpD.symm ⟨ds, 0, 0, 0, z, upd_same, by rw [upd_ne hpD]; exact h2, hpos, Nat.zero_le _, hl2, by decide, hz0, hz1⟩ (h3'.trans (Same.new hp))
def sp__law_number (K : PySem.W.Frag) : Sp := fun vs H Q _ => ∃ (p : Addr) (m : Int), vs = [.ref p, .int m] ∧ ∃ c, Purse p c H ∧ 0 ≤ m ∧ ∀ v H', 0 ≤ v → v ≤ m → Purse p c H' → SameX p H H' → Q (.int v) H'
theorem ok__law_number (T : Txt K mg) : FnOk P w K mg base CX0 2 T.a__law_number T.fd__law_number ["purse", "most"] (sp__law_number K) := by
  have S := sc__law_number
  refine T.F__law_number.ok S (fun vs H Q E h => ?_) (fun cdv A outer s H vs Q E hr h => ?_)
  · obtain ⟨p, m, rfl, _⟩ := h
    rfl
  · obtain ⟨p, m, rfl, c, P0, m0, k⟩ := h
    refine ⟨_, (pss_cons (ps_set (i := 2) S.nd rfl (Or.inl rfl) (pe_call (ok__law_draw T) (hr.mono (by decide)) rfl T.g__law_draw T.F__law_draw.kp T.B__law_draw .nil pass0 (pa_cons (pv 0) (pa_cons pe_int pa_nil))))
      (pss_cons (ps_if (pt_cmpR op_eq (pv 2) pe_int (nomark _)) (pss_one (ps_ret (pe_callB (id := "min") (call_min2 rfl) (by rfl) T.b_min (by decide +kernel) (pa_cons (pv 1) (pa_cons (pe_call (ok__law_draw T) (hr.mono (by decide)) rfl T.g__law_draw T.F__law_draw.kp T.B__law_draw .nil pass0 (pa_cons (pv 0) (pa_cons pe_int pa_nil))) pa_nil))))) pss_nil)
      (pss_cons (ps_if (pt_cmpR op_eq (pv 2) pe_int (nomark _)) (pss_one (ps_ret (pe_callB (id := "max") (call_max2 rfl) (by rfl) T.b_max (by decide +kernel) (pa_cons pe_int (pa_cons (pe_op op_sub (pv 1) (pe_call (ok__law_draw T) (hr.mono (by decide)) rfl T.g__law_draw T.F__law_draw.kp T.B__law_draw .nil pass0 (pa_cons (pv 0) (pa_cons pe_int pa_nil)))) pa_nil))))) pss_nil)
      (pss_cons (ps_set (i := 3) S.nd rfl (Or.inl rfl) (pe_op op_add (pe_op op_mul (pe_call (ok__law_draw T) (hr.mono (by decide)) rfl T.g__law_draw T.F__law_draw.kp T.B__law_draw .nil pass0 (pa_cons (pv 0) (pa_cons pe_int pa_nil))) pe_int) (pe_call (ok__law_draw T) (hr.mono (by decide)) rfl T.g__law_draw T.F__law_draw.kp T.B__law_draw .nil pass0 (pa_cons (pv 0) (pa_cons pe_int pa_nil)))))
      (pss_one (ps_ret (pe_op op_mod (pe_callTy (T := "int") call_int1 (by rfl) T.b_int (by decide +kernel) (pa_cons (pv 3) pa_nil)) (pe_op op_add (pv 1) pe_int)))))))), ?_⟩
    refine ⟨_, rfl, p, 4, rfl, c, P0, by decide, by decide, fun e H1 e0 e1 P1 s1 => ?_⟩
    by_cases q0 : e = 0
    · refine ⟨_, rfl, rfl, true, bl_t (int_eq q0), ?_⟩
      refine ⟨_, rfl, _, rfl, p, 4, rfl, c, P1, by decide, by decide, fun f H2 f0 f1 P2 s2 => ⟨_, _, rfl, ?_⟩⟩
      refine k _ _ ?_ ?_ P2 (s1.trans s2)
      · split <;> omega
      · split <;> omega
    refine ⟨_, rfl, rfl, false, bl_f (int_ne q0), ?_⟩
    by_cases q1 : e = 1
    · refine ⟨_, rfl, rfl, true, bl_t (int_eq q1), ?_⟩
      refine ⟨_, rfl, _, rfl, p, 4, rfl, c, P1, by decide, by decide, fun f H2 f0 f1 P2 s2 => ⟨_, _, rfl, rfl, _, _, rfl, ?_⟩⟩
      refine k _ _ ?_ ?_ P2 (s1.trans s2)
      · split <;> omega
      · split <;> omega
    refine ⟨_, rfl, rfl, false, bl_f (int_ne q1), ?_⟩
    refine ⟨_, rfl, p, 65536, rfl, c, P1, by decide, by decide, fun f H2 f0 f1 P2 s2 => ?_⟩
    refine ⟨_, _, rfl, rfl, .inr ⟨by decide, by decide⟩, _, rfl, p, 65536, rfl, c, P2, by decide, by decide, fun g H3 g0 g1 P3 s3 => ⟨_, _, rfl, rfl, ?_⟩⟩
    refine ⟨_, rfl, .inl ⟨_, rfl, _, rfl, _, _, rfl, rfl, _, _, rfl, rfl, (by show (0 : Int) < m + 1; omega), ?_⟩⟩
    have z := Int.emod_lt_of_pos (f * 65536 + g) (show (0 : Int) < m + 1 by omega)
    exact k _ _ (Int.emod_nonneg _ (by omega)) (by omega) P3 ((s1.trans s2).trans s3)
def sp__law_width (K : PySem.W.Frag) : Sp := fun vs H Q _ => ∃ (b : Nat), vs = [.int b] ∧ b ≤ 40 ∧ Q (.int (2 ^ b)) H
theorem ok__law_width (T : Txt K mg) : FnOk P w K mg base CX0 1 T.a__law_width T.fd__law_width ["bits"] (sp__law_width K) := by
  have S := sc__law_width
  refine T.F__law_width.ok S (fun vs H Q E h => ?_) (fun cdv A outer s H vs Q E hr h => ?_)
  · obtain ⟨b, rfl, _⟩ := h
    rfl
  · obtain ⟨b, rfl, hb, k⟩ := h
    refine ⟨_, (pss_cons (ps_set (i := 1) S.nd rfl (Or.inl rfl) pe_int)
      (pss_cons (ps_for PassesOwn.never rfl (pi_range1 (by rfl) T.b_range (pa_cons (pv 0) pa_nil)) (pg_name (i := 2) S.nd rfl (Or.inl rfl)) (pss_one (ps_set (i := 1) S.nd rfl (Or.inl rfl) (pe_op op_mul (pv 1) pe_int))))
      (pss_one (ps_ret (pv 1))))), ?_⟩
    refine ⟨_, rfl, _, rfl, by omega, by omega, for_range (lo := 0) (n := (b : Int).toNat) (fun i σ H' => ∃ v, σ = [some (.int b), some (.int (2 ^ i)), v] ∧ i ≤ b ∧ H' = H) ⟨none, rfl, Nat.zero_le _, rfl⟩ ?_ ?_⟩
    · rintro i σ H' hi ⟨v, rfl, hi2, rfl⟩
      refine ⟨_, rfl, _, _, rfl, rfl, .inr ⟨by decide, by decide⟩, ?_⟩
      have hi' : i < b := by simpa using hi
      exact ⟨_, rfl, hi', rfl⟩
    · rintro σ H' ⟨v, rfl, hi2, rfl⟩
      exact ⟨_, rfl, by simpa using k⟩
/-! ### rings -/
/-- a ring's size: even, not small, not great -/
def Siz (n : Int) : Prop := ∃ h, n = 2 * h ∧ 32 ≤ h ∧ h ≤ 2147483648
def RingAt (C : Addr) (H : Hp) (r : Addr) (n : Int) : Prop := ∃ dx, H r = some (.ins C dx [("size", .int n)])
theorem pow_siz : ∀ b : Nat, 6 ≤ b → b ≤ 32 → Siz (2 ^ b) ∧ Builtin.bitAnd (2 ^ b : Int) (2 ^ b - 1) = 0 := by
  intro b h1 h2
  have all : ∀ c : Fin 27, ((2 : Int) ^ (c.val + 6) % 2 = 0 ∧ 64 ≤ (2 : Int) ^ (c.val + 6) ∧ (2 : Int) ^ (c.val + 6) ≤ 4294967296) ∧ Builtin.bitAnd (2 ^ (c.val + 6) : Int) (2 ^ (c.val + 6) - 1) = 0 := by decide +kernel
  have q := all ⟨b - 6, by omega⟩
  rw [show b - 6 + 6 = b by omega] at q
  obtain ⟨⟨q1, q2, q3⟩, q4⟩ := q
  exact ⟨⟨2 ^ b / 2, by omega, by omega, by omega⟩, q4⟩
/-- Python's b - a on a ring -/
theorem gap_eq {w a b : Int} (ha0 : 0 ≤ a) (ha : a < w) (hb0 : 0 ≤ b) (hb : b < w) : (b - a) % w = if a ≤ b then b - a else b - a + w := by
  split
  · exact Int.emod_eq_of_lt (by omega) (by omega)
  · rw [← Int.add_emod_right]
    exact Int.emod_eq_of_lt (by omega) (by omega)
theorem mod_up {w x : Int} (h0 : w ≤ x) (h1 : x < 2 * w) : x % w = x - w := by
  rw [← Int.sub_emod_right]
  exact Int.emod_eq_of_lt (by omega) (by omega)
theorem mod_at {w x : Int} (h0 : 0 ≤ x) (h1 : x < w) : x % w = x := Int.emod_eq_of_lt h0 h1
theorem mod_dn {w x : Int} (h0 : -w ≤ x) (h1 : x < 0) : x % w = x + w := by
  rw [← Int.add_emod_right]
  exact Int.emod_eq_of_lt (by omega) (by omega)
theorem mod_diff (x a w : Int) : ((x + a) % w - x % w) % w = a % w := by
  rw [← Int.sub_emod]
  congr 1
  omega
theorem mod_diff' (x a w : Int) : (x % w - (x + a) % w) % w = (-a) % w := by
  rw [← Int.sub_emod]
  congr 1
  omega
/-! ### the errors are made -/
abbrev sp_InvalidNumber_init_ (K : PySem.W.Frag) : Sp := sp_xinit K "number"
theorem ok_InvalidNumber_init_ (T : Txt K mg) : FnOk P w K mg base CX0 1 T.a_InvalidNumber_init_ T.fd_InvalidNumber_init_ ["self", "number"] (sp_InvalidNumber_init_ K) := by
  have S := sc_InvalidNumber_init_
  refine T.F_InvalidNumber_init_.ok S (fun vs H Q E h => ?_) (fun cdv A outer s H vs Q E hr h => ?_)
  · obtain ⟨a, C, v, rfl, _⟩ := h
    rfl
  · obtain ⟨a, C, v, rfl, O, hn, ha, k⟩ := h
    refine ⟨_, (pss_one (ps_ost (pv 0) (pv 1))), ?_⟩
    exact ⟨_, rfl, _, rfl, a, C, rfl, O, hn, .inl ⟨ha, k⟩⟩
abbrev sp_InvalidSetting_init_ (K : PySem.W.Frag) : Sp := sp_xinit K "setting"
theorem ok_InvalidSetting_init_ (T : Txt K mg) : FnOk P w K mg base CX0 1 T.a_InvalidSetting_init_ T.fd_InvalidSetting_init_ ["self", "setting"] (sp_InvalidSetting_init_ K) := by
  have S := sc_InvalidSetting_init_
  refine T.F_InvalidSetting_init_.ok S (fun vs H Q E h => ?_) (fun cdv A outer s H vs Q E hr h => ?_)
  · obtain ⟨a, C, v, rfl, _⟩ := h
    rfl
  · obtain ⟨a, C, v, rfl, O, hn, ha, k⟩ := h
    refine ⟨_, (pss_one (ps_ost (pv 0) (pv 1))), ?_⟩
    exact ⟨_, rfl, _, rfl, a, C, rfl, O, hn, .inl ⟨ha, k⟩⟩
abbrev sp_InvalidSegment_init_ (K : PySem.W.Frag) : Sp := sp_xinit K "part"
theorem ok_InvalidSegment_init_ (T : Txt K mg) : FnOk P w K mg base CX0 1 T.a_InvalidSegment_init_ T.fd_InvalidSegment_init_ ["self", "part"] (sp_InvalidSegment_init_ K) := by
  have S := sc_InvalidSegment_init_
  refine T.F_InvalidSegment_init_.ok S (fun vs H Q E h => ?_) (fun cdv A outer s H vs Q E hr h => ?_)
  · obtain ⟨a, C, v, rfl, _⟩ := h
    rfl
  · obtain ⟨a, C, v, rfl, O, hn, ha, k⟩ := h
    refine ⟨_, (pss_one (ps_ost (pv 0) (pv 1))), ?_⟩
    exact ⟨_, rfl, _, rfl, a, C, rfl, O, hn, .inl ⟨ha, k⟩⟩
abbrev sp_InvalidWords_init_ (K : PySem.W.Frag) : Sp := sp_xinit K "place"
theorem ok_InvalidWords_init_ (T : Txt K mg) : FnOk P w K mg base CX0 1 T.a_InvalidWords_init_ T.fd_InvalidWords_init_ ["self", "place"] (sp_InvalidWords_init_ K) := by
  have S := sc_InvalidWords_init_
  refine T.F_InvalidWords_init_.ok S (fun vs H Q E h => ?_) (fun cdv A outer s H vs Q E hr h => ?_)
  · obtain ⟨a, C, v, rfl, _⟩ := h
    rfl
  · obtain ⟨a, C, v, rfl, O, hn, ha, k⟩ := h
    refine ⟨_, (pss_one (ps_ost (pv 0) (pv 1))), ?_⟩
    exact ⟨_, rfl, _, rfl, a, C, rfl, O, hn, .inl ⟨ha, k⟩⟩
abbrev sp_NotAllowed_init_ (K : PySem.W.Frag) : Sp := sp_xinit K "state"
theorem ok_NotAllowed_init_ (T : Txt K mg) : FnOk P w K mg base CX0 1 T.a_NotAllowed_init_ T.fd_NotAllowed_init_ ["self", "state"] (sp_NotAllowed_init_ K) := by
  have S := sc_NotAllowed_init_
  refine T.F_NotAllowed_init_.ok S (fun vs H Q E h => ?_) (fun cdv A outer s H vs Q E hr h => ?_)
  · obtain ⟨a, C, v, rfl, _⟩ := h
    rfl
  · obtain ⟨a, C, v, rfl, O, hn, ha, k⟩ := h
    refine ⟨_, (pss_one (ps_ost (pv 0) (pv 1))), ?_⟩
    exact ⟨_, rfl, _, rfl, a, C, rfl, O, hn, .inl ⟨ha, k⟩⟩
abbrev sp_Broken_init_ (K : PySem.W.Frag) : Sp := sp_xinit K "reason"
theorem ok_Broken_init_ (T : Txt K mg) : FnOk P w K mg base CX0 1 T.a_Broken_init_ T.fd_Broken_init_ ["self", "reason"] (sp_Broken_init_ K) := by
  have S := sc_Broken_init_
  refine T.F_Broken_init_.ok S (fun vs H Q E h => ?_) (fun cdv A outer s H vs Q E hr h => ?_)
  · obtain ⟨a, C, v, rfl, _⟩ := h
    rfl
  · obtain ⟨a, C, v, rfl, O, hn, ha, k⟩ := h
    refine ⟨_, (pss_one (ps_ost (pv 0) (pv 1))), ?_⟩
    exact ⟨_, rfl, _, rfl, a, C, rfl, O, hn, .inl ⟨ha, k⟩⟩
abbrev sp_NoConnection_init_ (K : PySem.W.Frag) : Sp := sp_xinit K "handle"
theorem ok_NoConnection_init_ (T : Txt K mg) : FnOk P w K mg base CX0 1 T.a_NoConnection_init_ T.fd_NoConnection_init_ ["self", "handle"] (sp_NoConnection_init_ K) := by
  have S := sc_NoConnection_init_
  refine T.F_NoConnection_init_.ok S (fun vs H Q E h => ?_) (fun cdv A outer s H vs Q E hr h => ?_)
  · obtain ⟨a, C, v, rfl, _⟩ := h
    rfl
  · obtain ⟨a, C, v, rfl, O, hn, ha, k⟩ := h
    refine ⟨_, (pss_one (ps_ost (pv 0) (pv 1))), ?_⟩
    exact ⟨_, rfl, _, rfl, a, C, rfl, O, hn, .inl ⟨ha, k⟩⟩
abbrev sp_NoListener_init_ (K : PySem.W.Frag) : Sp := sp_xinit K "port"
theorem ok_NoListener_init_ (T : Txt K mg) : FnOk P w K mg base CX0 1 T.a_NoListener_init_ T.fd_NoListener_init_ ["self", "port"] (sp_NoListener_init_ K) := by
  have S := sc_NoListener_init_
  refine T.F_NoListener_init_.ok S (fun vs H Q E h => ?_) (fun cdv A outer s H vs Q E hr h => ?_)
  · obtain ⟨a, C, v, rfl, _⟩ := h
    rfl
  · obtain ⟨a, C, v, rfl, O, hn, ha, k⟩ := h
    refine ⟨_, (pss_one (ps_ost (pv 0) (pv 1))), ?_⟩
    exact ⟨_, rfl, _, rfl, a, C, rfl, O, hn, .inl ⟨ha, k⟩⟩
abbrev sp_PortTaken_init_ (K : PySem.W.Frag) : Sp := sp_xinit K "port"
theorem ok_PortTaken_init_ (T : Txt K mg) : FnOk P w K mg base CX0 1 T.a_PortTaken_init_ T.fd_PortTaken_init_ ["self", "port"] (sp_PortTaken_init_ K) := by
  have S := sc_PortTaken_init_
  refine T.F_PortTaken_init_.ok S (fun vs H Q E h => ?_) (fun cdv A outer s H vs Q E hr h => ?_)
  · obtain ⟨a, C, v, rfl, _⟩ := h
    rfl
  · obtain ⟨a, C, v, rfl, O, hn, ha, k⟩ := h
    refine ⟨_, (pss_one (ps_ost (pv 0) (pv 1))), ?_⟩
    exact ⟨_, rfl, _, rfl, a, C, rfl, O, hn, .inl ⟨ha, k⟩⟩
abbrev sp_TooMany_init_ (K : PySem.W.Frag) : Sp := sp_xinit K "most"
theorem ok_TooMany_init_ (T : Txt K mg) : FnOk P w K mg base CX0 1 T.a_TooMany_init_ T.fd_TooMany_init_ ["self", "most"] (sp_TooMany_init_ K) := by
  have S := sc_TooMany_init_
  refine T.F_TooMany_init_.ok S (fun vs H Q E h => ?_) (fun cdv A outer s H vs Q E hr h => ?_)
  · obtain ⟨a, C, v, rfl, _⟩ := h
    rfl
  · obtain ⟨a, C, v, rfl, O, hn, ha, k⟩ := h
    refine ⟨_, (pss_one (ps_ost (pv 0) (pv 1))), ?_⟩
    exact ⟨_, rfl, _, rfl, a, C, rfl, O, hn, .inl ⟨ha, k⟩⟩
def sp_InvalidFate_init_ (K : PySem.W.Frag) : Sp := fun vs H Q _ => ∃ (a C : Addr) (v u : V), vs = [.ref a, v, u] ∧ OexC K C ∧ PySem.W.findIn K (.ref C) "side" = some none ∧ PySem.W.findIn K (.ref C) "place" = some none ∧ H a = some (exo a C none) ∧
  ∀ dx, H dx = none → dx ≠ a → Q .non (upd (upd (upd H dx (exd dx [("side", v)])) a (exo a C (some dx))) dx (exd dx [("place", u), ("side", v)]))
theorem ok_InvalidFate_init_ (T : Txt K mg) : FnOk P w K mg base CX0 1 T.a_InvalidFate_init_ T.fd_InvalidFate_init_ ["self", "side", "place"] (sp_InvalidFate_init_ K) := by
  have S := sc_InvalidFate_init_
  refine T.F_InvalidFate_init_.ok S (fun vs H Q E h => ?_) (fun cdv A outer s H vs Q E hr h => ?_)
  · obtain ⟨a, C, v, u, rfl, _⟩ := h
    rfl
  · obtain ⟨a, C, v, u, rfl, O, h1, h2, ha, k⟩ := h
    refine ⟨_, (pss_cons (ps_ost (pv 0) (pv 1))
      (pss_one (ps_ost (pv 0) (pv 2)))), ?_⟩
    refine ⟨_, rfl, _, rfl, a, C, rfl, O, h1, .inl ⟨ha, fun dx nd ne => ?_⟩⟩
    exact ⟨_, rfl, _, rfl, a, C, rfl, O, h2, .inr ⟨dx, _, upd_same, by rw [upd_ne ne]; exact upd_same, (by show 1 ≤ 900; decide), k dx nd ne⟩⟩
abbrev sp_InvalidTrace_init_ (K : PySem.W.Frag) : Sp := sp_xinit K "place"
theorem ok_InvalidTrace_init_ (T : Txt K mg) : FnOk P w K mg base CX0 1 T.a_InvalidTrace_init_ T.fd_InvalidTrace_init_ ["self", "place"] (sp_InvalidTrace_init_ K) := by
  have S := sc_InvalidTrace_init_
  refine T.F_InvalidTrace_init_.ok S (fun vs H Q E h => ?_) (fun cdv A outer s H vs Q E hr h => ?_)
  · obtain ⟨a, C, v, rfl, _⟩ := h
    rfl
  · obtain ⟨a, C, v, rfl, O, hn, ha, k⟩ := h
    refine ⟨_, (pss_one (ps_ost (pv 0) (pv 1))), ?_⟩
    exact ⟨_, rfl, _, rfl, a, C, rfl, O, hn, .inl ⟨ha, k⟩⟩
abbrev sp_InvalidDeed_init_ (K : PySem.W.Frag) : Sp := sp_xinit K "deed"
theorem ok_InvalidDeed_init_ (T : Txt K mg) : FnOk P w K mg base CX0 1 T.a_InvalidDeed_init_ T.fd_InvalidDeed_init_ ["self", "deed"] (sp_InvalidDeed_init_ K) := by
  have S := sc_InvalidDeed_init_
  refine T.F_InvalidDeed_init_.ok S (fun vs H Q E h => ?_) (fun cdv A outer s H vs Q E hr h => ?_)
  · obtain ⟨a, C, v, rfl, _⟩ := h
    rfl
  · obtain ⟨a, C, v, rfl, O, hn, ha, k⟩ := h
    refine ⟨_, (pss_one (ps_ost (pv 0) (pv 1))), ?_⟩
    exact ⟨_, rfl, _, rfl, a, C, rfl, O, hn, .inl ⟨ha, k⟩⟩
abbrev sp_Stopped_init_ (K : PySem.W.Frag) : Sp := sp_xinit K "place"
theorem ok_Stopped_init_ (T : Txt K mg) : FnOk P w K mg base CX0 1 T.a_Stopped_init_ T.fd_Stopped_init_ ["self", "place"] (sp_Stopped_init_ K) := by
  have S := sc_Stopped_init_
  refine T.F_Stopped_init_.ok S (fun vs H Q E h => ?_) (fun cdv A outer s H vs Q E hr h => ?_)
  · obtain ⟨a, C, v, rfl, _⟩ := h
    rfl
  · obtain ⟨a, C, v, rfl, O, hn, ha, k⟩ := h
    refine ⟨_, (pss_one (ps_ost (pv 0) (pv 1))), ?_⟩
    exact ⟨_, rfl, _, rfl, a, C, rfl, O, hn, .inl ⟨ha, k⟩⟩
abbrev sp_InvalidLine_init_ (K : PySem.W.Frag) : Sp := sp_xinit K "line"
theorem ok_InvalidLine_init_ (T : Txt K mg) : FnOk P w K mg base CX0 1 T.a_InvalidLine_init_ T.fd_InvalidLine_init_ ["self", "line"] (sp_InvalidLine_init_ K) := by
  have S := sc_InvalidLine_init_
  refine T.F_InvalidLine_init_.ok S (fun vs H Q E h => ?_) (fun cdv A outer s H vs Q E hr h => ?_)
  · obtain ⟨a, C, v, rfl, _⟩ := h
    rfl
  · obtain ⟨a, C, v, rfl, O, hn, ha, k⟩ := h
    refine ⟨_, (pss_one (ps_ost (pv 0) (pv 1))), ?_⟩
    exact ⟨_, rfl, _, rfl, a, C, rfl, O, hn, .inl ⟨ha, k⟩⟩
/-! ### rings, refusals too -/
/-- an error of the class at C is let out: its one field holds x, all else stands -/
def Told (H : Hp) (E : XK) (C : Addr) (f : Str) (x : V) : Prop := ∀ d H', H d = none → Same H H' → H' d = some (.xd [(f, x)]) → E (.ref C) (some d) H'
theorem Told.imp {H : Hp} {E E' : XK} {C : Addr} {f : Str} {x : V} (h : Told H E C f x) (k : ∀ cls d H', E cls d H' → E' cls d H') : Told H E' C f x := fun d H' a b c => k _ _ _ (h d H' a b c)
/-- a size -/
def Pow2 (o : Option Int) (b : Nat) : Prop := o = some (2 ^ b) ∧ 6 ≤ b ∧ b ≤ 32
theorem land_pow {n : Nat} (h0 : 64 ≤ n) (h1 : n ≤ 4294967296) (h : Nat.land n (n - 1) = 0) : ∃ b, n = 2 ^ b ∧ 6 ≤ b ∧ b ≤ 32 := by
  have n0 : n ≠ 0 := by omega
  have lo : 2 ^ Nat.log2 n ≤ n := Nat.log2_self_le n0
  have hi : n < 2 ^ (Nat.log2 n + 1) := Nat.lt_log2_self
  generalize hk : Nat.log2 n = k at lo hi
  have e : n = 2 ^ k := by
    refine Classical.byContradiction fun ne => ?_
    have t1 : Nat.testBit n k = true := by
      rw [Nat.testBit_eq_decide_div_mod_eq]
      have : n / 2 ^ k = 1 := by
        rw [Nat.div_eq_iff (Nat.two_pow_pos k)]
        omega
      rw [this]
      rfl
    have t2 : Nat.testBit (n - 1) k = true := by
      rw [Nat.testBit_eq_decide_div_mod_eq]
      have : (n - 1) / 2 ^ k = 1 := by
        rw [Nat.div_eq_iff (Nat.two_pow_pos k)]
        omega
      rw [this]
      rfl
    have t3 : Nat.testBit (n &&& (n - 1)) k = true := by
      rw [Nat.testBit_and, t1, t2]
      rfl
    rw [show n &&& (n - 1) = 0 from h, Nat.zero_testBit] at t3
    cases t3
  refine ⟨k, e, ?_, ?_⟩
  · refine Classical.byContradiction fun q => ?_
    have : 2 ^ (k + 1) ≤ 2 ^ 6 := Nat.pow_le_pow_right (by decide) (by omega)
    omega
  · refine Classical.byContradiction fun q => ?_
    have : 2 ^ 33 ≤ 2 ^ k := Nat.pow_le_pow_right (by decide) (by omega)
    omega
theorem and_pow {n : Int} (h0 : 64 ≤ n) (h1 : n ≤ 4294967296) (h : Builtin.bitAnd n (n - 1) = 0) : ∃ b : Nat, n = 2 ^ b ∧ 6 ≤ b ∧ b ≤ 32 := by
  obtain ⟨m, rfl⟩ : ∃ m : Nat, n = (m : Int) := ⟨n.toNat, by omega⟩
  have e : Builtin.bitAnd (m : Int) ((m : Int) - 1) = ((Nat.land m (m - 1) : Nat) : Int) := by
    rw [show ((m : Int) - 1) = ((m - 1 : Nat) : Int) by omega]
    rfl
  rw [e] at h
  obtain ⟨b, hb, h6, h32⟩ := land_pow (n := m) (by omega) (by omega) (by omega)
  exact ⟨b, by rw [hb]; exact Int.natCast_pow 2 b, h6, h32⟩
def sp_is_size (K : PySem.W.Frag) : Sp := fun vs H Q _ => ∃ (x : V) (o : Option Int), vs = [x] ∧ Kd K H x o ∧ (((∃ b, Pow2 o b) ∧ Q (.bl true) H) ∨ ((∀ b, ¬ Pow2 o b) ∧ Q (.bl false) H))
theorem ok_is_size (T : Txt K mg) : FnOk P w K mg base CX0 3 T.a_is_size T.fd_is_size ["value"] (sp_is_size K) := by
  have S := sc_is_size
  refine T.F_is_size.ok S (fun vs H Q E h => ?_) (fun cdv A outer s H vs Q E hr h => ?_)
  · obtain ⟨x, o, rfl, _⟩ := h
    rfl
  · obtain ⟨x, o, rfl, hk, k⟩ := h
    obtain ⟨u1, v1⟩ := T.V_Ring_LEAST
    obtain ⟨u2, v2⟩ := T.V_Ring_GREATEST
    refine ⟨_, (pss_one (ps_ret (pe_and (pe_call (ok_is_between T) (hr.mono (by decide)) rfl T.g_is_between T.F_is_between.kp T.B_is_between .nil pass0 (pa_cons (pv 0) (pa_cons (ClX.pe_cval (pe_glob (v := .ref T.c_Ring) rfl T.g_Ring rfl)) (pa_cons (ClX.pe_cval (pe_glob (v := .ref T.c_Ring) rfl T.g_Ring rfl)) pa_nil)))) (pe_one (pe_cmpR op_eq (pe_op op_and (pv 0) (pe_op op_sub (pv 0) pe_int)) pe_int (nomark _)))))), ?_⟩
    refine ⟨_, rfl, _, T.mc_Ring, _, u1, rfl, T.R_Ring, v1, _, T.mc_Ring, _, u2, rfl, T.R_Ring, v2, _, _, _, rfl, ?_⟩
    cases o with
    | none =>
      refine .inr ⟨hk, _, rfl, iteF ?_⟩
      rcases k with ⟨⟨b, z, _⟩, _⟩ | ⟨_, k⟩
      · cases z
      · exact k
    | some n =>
      obtain rfl : x = .int n := hk
      refine .inl ⟨n, rfl, _, rfl, ?_⟩
      by_cases q : 64 ≤ n ∧ n ≤ 4294967296
      · rw [decide_eq_true q.1, decide_eq_true q.2]
        refine iteT ⟨_, rfl, _, rfl, _, _, rfl, rfl, _, _, rfl, rfl, rfl, ?_⟩
        by_cases z : Builtin.bitAnd n (n - 1) = 0
        · rw [decide_eq_true (int_eq z)]
          obtain ⟨b, e, h6, h32⟩ := and_pow q.1 q.2 z
          rcases k with ⟨_, k⟩ | ⟨no, _⟩
          · exact k
          · exact (no b ⟨by rw [e], h6, h32⟩).elim
        · rw [decide_eq_false (int_ne z)]
          rcases k with ⟨⟨b', e', h6, h32⟩, _⟩ | ⟨_, k⟩
          · cases e'
            exact (z (pow_siz b' h6 h32).2).elim
          · exact k
      · have e : (decide ((64 : Int) ≤ n) && decide (n ≤ 4294967296)) = false := by
          by_cases q1 : (64 : Int) ≤ n
          · rw [decide_eq_false (fun q2 => q ⟨q1, q2⟩), Bool.and_false]
          · rw [decide_eq_false q1, Bool.false_and]
        rw [e]
        refine iteF ?_
        rcases k with ⟨⟨b', e', h6, h32⟩, _⟩ | ⟨_, k⟩
        · cases e'
          obtain ⟨⟨g, eg, g1, g2⟩, _⟩ := pow_siz b' h6 h32
          exact (q ⟨by omega, by omega⟩).elim
        · exact k
def sp_Ring_init_ (K : PySem.W.Frag) (C CS : Addr) : Sp := fun vs H Q E => ∃ (p dx : Addr) (x : V) (o : Option Int), vs = [.ref p, x] ∧ H p = some (.ins C dx []) ∧ Kd K H x o ∧
  ((∃ b, Pow2 o b ∧ ∀ H', SameX p H H' → H' p = some (.ins C dx [("size", .int (2 ^ b))]) → Q .non H') ∨ ((∀ b, ¬ Pow2 o b) ∧ Told H E CS "setting" (.str "size")))
theorem ok_Ring_init_ (T : Txt K mg) : FnOk P w K mg base (L2.CX P w) 4 T.a_Ring_init_ T.fd_Ring_init_ ["self", "size"] (sp_Ring_init_ K T.c_Ring T.c_InvalidSetting) := by
  have S := sc_Ring_init_
  refine T.F_Ring_init_.okX S (fun vs H Q E h => ?_) (fun cdv A outer s H vs Q E hr h => ?_)
  · obtain ⟨p, dx, x, o, rfl, _⟩ := h
    rfl
  · obtain ⟨p, dx, x, o, rfl, hp, hk, k⟩ := h
    refine ⟨_, (pss_cons (ps_if (pt_not (pt_val (pe_call (ok_is_size T) (hr.mono (by decide)) rfl T.g_is_size T.F_is_size.kp T.B_is_size .nil pass0 (pa_cons (pv 1) pa_nil)))) (pss_one (ps_raise rfl (takes_of rfl rfl rfl rfl) (pmk_oex T.X_InvalidSetting.o T.X_InvalidSetting.i T.X_InvalidSetting.t (ok_InvalidSetting_init_ T) (hr.mono (by decide)) T.B_InvalidSetting_init_ .nil pass0 rfl T.X_InvalidSetting.g (pa_cons pe_str pa_nil)))) pss_nil)
      (pss_one (ps_fld (pv 0) (pv 1) rfl))), ?_⟩
    refine ⟨_, rfl, x, o, rfl, hk, ?_⟩
    rcases k with ⟨b, ⟨rfl, h6, h32⟩, k⟩ | ⟨no, k⟩
    · obtain rfl : x = .int (2 ^ b) := hk
      exact .inl ⟨⟨b, rfl, h6, h32⟩, _, rfl, _, rfl, _, rfl, p, _, dx, [], rfl, hp, T.cl_Ring, T.n_Ring_size, (by show 0 < 1000; decide), k _ (.upd) upd_same⟩
    · exact .inr ⟨no, _, rfl, mkO_of T.X_InvalidSetting.o T.nX_InvalidSetting k⟩
/-- a ring made: all that stood stands -/
theorem made_same {H H3 : Hp} {r dx : Addr} {o u : HO} (nr : H r = none) (nd : H dx = none) (s : SameX r (upd (upd H dx o) r u) H3) : Same H H3 := fun q w e =>
  s _ _ (ne_of_none e nr) (by rw [upd_ne (ne_of_none e nr), upd_ne (ne_of_none e nd)]; exact e)
def sp_Ring_of_bits (K : PySem.W.Frag) (C CS : Addr) : Sp := fun vs H Q E => ∃ (x : V) (o : Option Int), vs = [.ref C, x] ∧ Kd K H x o ∧
  ((∃ b : Nat, o = some (b : Int) ∧ 6 ≤ b ∧ b ≤ 32 ∧ ∀ r H', H r = none → Same H H' → RingAt C H' r (2 ^ b) → Q (.ref r) H') ∨ (inR 6 32 o = false ∧ Told H E CS "setting" (.str "bits")))
theorem ok_Ring_of_bits (T : Txt K mg) : FnOk P w K mg base (L2.CX P w) 6 T.a_Ring_of_bits T.fd_Ring_of_bits ["cls", "bits"] (sp_Ring_of_bits K T.c_Ring T.c_InvalidSetting) := by
  have S := sc_Ring_of_bits
  refine T.F_Ring_of_bits.okX S (fun vs H Q E h => ?_) (fun cdv A outer s H vs Q E hr h => ?_)
  · obtain ⟨x, o, rfl, _⟩ := h
    rfl
  · obtain ⟨x, o, rfl, hk, k⟩ := h
    refine ⟨_, (pss_cons (ps_if (pt_not (pt_val (pe_call (ok_is_between T) (hr.mono (by decide)) rfl T.g_is_between T.F_is_between.kp T.B_is_between .nil pass0 (pa_cons (pv 1) (pa_cons pe_int (pa_cons pe_int pa_nil)))))) (pss_one (ps_raise rfl (takes_of rfl rfl rfl rfl) (pmk_oex T.X_InvalidSetting.o T.X_InvalidSetting.i T.X_InvalidSetting.t (ok_InvalidSetting_init_ T) (hr.mono (by decide)) T.B_InvalidSetting_init_ .nil pass0 rfl T.X_InvalidSetting.g (pa_cons pe_str pa_nil)))) pss_nil)
      (pss_one (ps_ret (pe_makeL (i := 0) T.M_Ring (ok_Ring_init_ T) (hr.mono (by decide)) rfl (.inl rfl) T.B_Ring_init_ .nil passL (pa_cons (pe_op op_shl pe_int (pv 1)) pa_nil))))), ?_⟩
    refine ⟨_, rfl, _, _, _, rfl, ?_⟩
    rcases k with ⟨b, rfl, h6, h32, k⟩ | ⟨no, k⟩
    · obtain rfl : x = .int b := hk
      refine .inl ⟨_, rfl, true, congrArg V.bl (by rw [decide_eq_true (show (6 : Int) ≤ b by omega), decide_eq_true (show (b : Int) ≤ 32 by omega)]; rfl), ?_⟩
      refine ⟨rfl, _, rfl, _, _, rfl, rfl, ⟨by omega, by omega, by decide⟩, fun r dx nr nd ne => ?_⟩
      have e1 : (1 : Int) * 2 ^ ((b : Int).toNat) = 2 ^ b := by rw [Int.one_mul]; rfl
      refine ⟨r, dx, .int (2 ^ b), some (2 ^ b), by rw [← e1]; rfl, upd_same, rfl, .inl ⟨b, ⟨rfl, h6, h32⟩, fun H3 s3 hR => ⟨rfl, ?_⟩⟩⟩
      exact k r H3 nr (made_same nr nd s3) ⟨dx, hR⟩
    · cases o with
      | none => exact .inr ⟨hk, false, rfl, mkO_of T.X_InvalidSetting.o T.nX_InvalidSetting k⟩
      | some n =>
        obtain rfl : x = .int n := hk
        refine .inl ⟨n, rfl, false, congrArg V.bl no, ?_⟩
        exact mkO_of T.X_InvalidSetting.o T.nX_InvalidSetting k
def sp_Ring_contains_ (K : PySem.W.Frag) (C : Addr) : Sp := fun vs H Q _ => ∃ (r : Addr) (n : Int) (x : V) (o : Option Int), vs = [.ref r, x] ∧ RingAt C H r n ∧ Kd K H x o ∧ Q (.bl (inR 0 (n - 1) o)) H
theorem ok_Ring_contains_ (T : Txt K mg) : FnOk P w K mg base CX0 3 T.a_Ring_contains_ T.fd_Ring_contains_ ["self", "number"] (sp_Ring_contains_ K T.c_Ring) := by
  have S := sc_Ring_contains_
  refine T.F_Ring_contains_.ok S (fun vs H Q E h => ?_) (fun cdv A outer s H vs Q E hr h => ?_)
  · obtain ⟨r, n, x, o, rfl, _⟩ := h
    rfl
  · obtain ⟨r, n, x, o, rfl, ⟨dx, hR⟩, hk, k⟩ := h
    refine ⟨_, (pss_one (ps_ret (pe_call (ok_is_between T) (hr.mono (by decide)) rfl T.g_is_between T.F_is_between.kp T.B_is_between .nil pass0 (pa_cons (pv 1) (pa_cons pe_int (pa_cons (pe_op op_sub (pe_fld (pv 0) rfl) pe_int) pa_nil)))))), ?_⟩
    refine ⟨_, rfl, _, rfl, r, _, dx, _, _, rfl, hR, T.cl_Ring, T.n_Ring_size, rfl, _, _, rfl, rfl, _, _, _, rfl, ?_⟩
    cases o with
    | none => exact .inr ⟨hk, k⟩
    | some m =>
      obtain rfl : x = .int m := hk
      exact .inl ⟨m, rfl, k⟩
def sp_Ring_require (K : PySem.W.Frag) (C CN : Addr) : Sp := fun vs H Q E => ∃ (r : Addr) (n : Int) (x : V) (o : Option Int), vs = [.ref r, x] ∧ RingAt C H r n ∧ Kd K H x o ∧ ((inR 0 (n - 1) o = true ∧ Q .non H) ∨ (inR 0 (n - 1) o = false ∧ Told H E CN "number" x))
theorem ok_Ring_require (T : Txt K mg) : FnOk P w K mg base (L2.CX P w) 4 T.a_Ring_require T.fd_Ring_require ["self", "number"] (sp_Ring_require K T.c_Ring T.c_InvalidNumber) := by
  have S := sc_Ring_require
  refine T.F_Ring_require.okX S (fun vs H Q E h => ?_) (fun cdv A outer s H vs Q E hr h => ?_)
  · obtain ⟨r, n, x, o, rfl, _⟩ := h
    rfl
  · obtain ⟨r, n, x, o, rfl, hR, hk, k⟩ := h
    refine ⟨_, (pss_one (ps_if (pt_cmpR (op_notInOwn T.m_Ring_contains_ (ok_Ring_contains_ T) (hr.mono (by decide)) T.B_Ring_contains_ pass0) (pv 1) (pv 0) rfl) (pss_one (ps_raise rfl (takes_of rfl rfl rfl rfl) (pmk_oex T.X_InvalidNumber.o T.X_InvalidNumber.i T.X_InvalidNumber.t (ok_InvalidNumber_init_ T) (hr.mono (by decide)) T.B_InvalidNumber_init_ .nil pass0 rfl T.X_InvalidNumber.g (pa_cons (pv 1) pa_nil)))) pss_nil)), ?_⟩
    obtain ⟨dx, hR'⟩ := id hR
    refine ⟨_, rfl, _, rfl, r, _, _, rfl, hR', r, n, _, o, rfl, hR, hk, _, rfl, ?_⟩
    rcases k with ⟨e, k⟩ | ⟨e, k⟩
    · rw [e]
      exact ⟨false, rfl, k⟩
    · rw [e]
      exact ⟨true, rfl, _, rfl, mkO_of T.X_InvalidNumber.o T.nX_InvalidNumber k⟩
def sp_Ring_wrap (K : PySem.W.Frag) (C CN : Addr) : Sp := fun vs H Q E => ∃ (r : Addr) (n : Int) (x : V) (o : Option Int), vs = [.ref r, x] ∧ RingAt C H r n ∧ 0 < n ∧ Kd K H x o ∧ ((∃ v, o = some v ∧ Q (.int (v % n)) H) ∨ (o = none ∧ Told H E CN "number" x))
theorem ok_Ring_wrap (T : Txt K mg) : FnOk P w K mg base (L2.CX P w) 3 T.a_Ring_wrap T.fd_Ring_wrap ["self", "offset"] (sp_Ring_wrap K T.c_Ring T.c_InvalidNumber) := by
  have S := sc_Ring_wrap
  refine T.F_Ring_wrap.okX S (fun vs H Q E h => ?_) (fun cdv A outer s H vs Q E hr h => ?_)
  · obtain ⟨r, n, x, o, rfl, _⟩ := h
    rfl
  · obtain ⟨r, n, x, o, rfl, hR, h0, hk, k⟩ := h
    refine ⟨_, (pss_cons (ps_if (pt_not (pt_val (pe_call (ok_is_integer T) (hr.mono (by decide)) rfl T.g_is_integer T.F_is_integer.kp T.B_is_integer .nil pass0 (pa_cons (pv 1) pa_nil)))) (pss_one (ps_raise rfl (takes_of rfl rfl rfl rfl) (pmk_oex T.X_InvalidNumber.o T.X_InvalidNumber.i T.X_InvalidNumber.t (ok_InvalidNumber_init_ T) (hr.mono (by decide)) T.B_InvalidNumber_init_ .nil pass0 rfl T.X_InvalidNumber.g (pa_cons (pv 1) pa_nil)))) pss_nil)
      (pss_one (ps_ret (pe_op op_mod (pv 1) (pe_fld (pv 0) rfl))))), ?_⟩
    obtain ⟨dx, hR'⟩ := id hR
    rcases k with ⟨v, rfl, k⟩ | ⟨rfl, k⟩
    · obtain rfl : x = .int v := hk
      refine ⟨_, rfl, _, true, rfl, intK_int v, _, rfl, ?_⟩
      exact ⟨_, rfl, _, rfl, r, _, dx, _, _, rfl, hR', T.cl_Ring, T.n_Ring_size, rfl, _, _, rfl, rfl, h0, k⟩
    · exact ⟨_, rfl, _, false, rfl, hk, _, rfl, _, rfl, mkO_of T.X_InvalidNumber.o T.nX_InvalidNumber k⟩
/-- two numbers of the ring, or the first that is none is told -/
def Two (H : Hp) (Q : VK) (E : XK) (CN : Addr) (n : Int) (x y : V) (ox oy : Option Int) (v : Int → Int → V) : Prop :=
  (inR 0 (n - 1) ox = false ∧ Told H E CN "number" x) ∨ (inR 0 (n - 1) ox = true ∧ inR 0 (n - 1) oy = false ∧ Told H E CN "number" y) ∨ ∃ a b, ox = some a ∧ oy = some b ∧ (0 ≤ a ∧ a < n) ∧ (0 ≤ b ∧ b < n) ∧ Q (v a b) H
theorem inR_ok {n a : Int} (h : 0 ≤ a ∧ a < n) : inR 0 (n - 1) (some a) = true := by
  show (decide (0 ≤ a) && decide (a ≤ n - 1)) = true
  rw [decide_eq_true h.1, decide_eq_true (show a ≤ n - 1 by omega)]
  rfl
theorem inR_get {n : Int} {o : Option Int} (h : inR 0 (n - 1) o = true) : ∃ a, o = some a ∧ 0 ≤ a ∧ a < n := by
  cases o with
  | none => cases h
  | some a =>
    have h' : (decide (0 ≤ a) && decide (a ≤ n - 1)) = true := h
    rw [Bool.and_eq_true] at h'
    have := of_decide_eq_true h'.1
    have := of_decide_eq_true h'.2
    exact ⟨a, rfl, by omega, by omega⟩
def sp_Ring_gap (K : PySem.W.Frag) (C CN : Addr) : Sp := fun vs H Q E => ∃ (r : Addr) (n : Int) (x y : V) (ox oy : Option Int), vs = [.ref r, x, y] ∧ RingAt C H r n ∧ 0 < n ∧ Kd K H x ox ∧ Kd K H y oy ∧ Two H Q E CN n x y ox oy fun a b => .int ((b - a) % n)
theorem ok_Ring_gap (T : Txt K mg) : FnOk P w K mg base (L2.CX P w) 5 T.a_Ring_gap T.fd_Ring_gap ["self", "low", "high"] (sp_Ring_gap K T.c_Ring T.c_InvalidNumber) := by
  have S := sc_Ring_gap
  refine T.F_Ring_gap.okX S (fun vs H Q E h => ?_) (fun cdv A outer s H vs Q E hr h => ?_)
  · obtain ⟨r, n, x, y, ox, oy, rfl, _⟩ := h
    rfl
  · obtain ⟨r, n, x, y, ox, oy, rfl, hR, n0, hx, hy, k⟩ := h
    refine ⟨_, (pss_cons (ps_expr (pe_meth (pv 0) T.cl_Ring T.m_Ring_require (ok_Ring_require T) (hr.mono (by decide)) T.B_Ring_require .nil (passes_call (takes_of rfl rfl rfl rfl) (fun _ _ _ _ h => h)) (pa_cons (pv 1) pa_nil)))
      (pss_cons (ps_expr (pe_meth (pv 0) T.cl_Ring T.m_Ring_require (ok_Ring_require T) (hr.mono (by decide)) T.B_Ring_require .nil (passes_call (takes_of rfl rfl rfl rfl) (fun _ _ _ _ h => h)) (pa_cons (pv 2) pa_nil)))
      (pss_one (ps_ret (pe_op op_mod (pe_op op_sub (pv 2) (pv 1)) (pe_fld (pv 0) rfl)))))), ?_⟩
    obtain ⟨dx, hR'⟩ := id hR
    refine ⟨_, rfl, r, dx, _, rfl, hR', lk1 (by decide +kernel), _, rfl, r, n, x, ox, rfl, hR, hx, ?_⟩
    rcases k with ⟨e, k⟩ | ⟨e, e2, k⟩ | ⟨a, b, rfl, rfl, ha, hb, k⟩
    · exact .inr ⟨e, k⟩
    · refine .inl ⟨e, ?_⟩
      exact ⟨_, rfl, r, dx, _, rfl, hR', lk1 (by decide +kernel), _, rfl, r, n, y, oy, rfl, hR, hy, .inr ⟨e2, k⟩⟩
    · obtain rfl : x = .int a := hx
      obtain rfl : y = .int b := hy
      refine .inl ⟨inR_ok ha, ?_⟩
      refine ⟨_, rfl, r, dx, _, rfl, hR', lk1 (by decide +kernel), _, rfl, r, n, _, some b, rfl, hR, rfl, .inl ⟨inR_ok hb, ?_⟩⟩
      exact ⟨_, rfl, _, rfl, _, _, rfl, rfl, _, rfl, r, _, dx, _, _, rfl, hR', T.cl_Ring, T.n_Ring_size, rfl, _, _, rfl, rfl, n0, k⟩
/-- 1 <= gap < half -/
def bef (n a b : Int) : Bool := decide (1 ≤ (b - a) % n) && decide ((b - a) % n < n / 2)
def sp_Ring_before (K : PySem.W.Frag) (C CN : Addr) : Sp := fun vs H Q E => ∃ (r : Addr) (n : Int) (x y : V) (ox oy : Option Int), vs = [.ref r, x, y] ∧ RingAt C H r n ∧ 0 < n ∧ Kd K H x ox ∧ Kd K H y oy ∧ Two H Q E CN n x y ox oy fun a b => .bl (bef n a b)
theorem ok_Ring_before (T : Txt K mg) : FnOk P w K mg base (L2.CX P w) 6 T.a_Ring_before T.fd_Ring_before ["self", "low", "high"] (sp_Ring_before K T.c_Ring T.c_InvalidNumber) := by
  have S := sc_Ring_before
  refine T.F_Ring_before.okX S (fun vs H Q E h => ?_) (fun cdv A outer s H vs Q E hr h => ?_)
  · obtain ⟨r, n, x, y, ox, oy, rfl, _⟩ := h
    rfl
  · obtain ⟨r, n, x, y, ox, oy, rfl, hR, n0, hx, hy, k⟩ := h
    refine ⟨_, (pss_one (ps_ret (pe_chain op_le op_lt pe_int (pe_meth (pv 0) T.cl_Ring T.m_Ring_gap (ok_Ring_gap T) (hr.mono (by decide)) T.B_Ring_gap .nil (passes_call (takes_of rfl rfl rfl rfl) (fun _ _ _ _ h => h)) (pa_cons (pv 1) (pa_cons (pv 2) pa_nil))) (pe_op op_fdiv (pe_fld (pv 0) rfl) pe_int)))), ?_⟩
    obtain ⟨dx, hR'⟩ := id hR
    refine ⟨_, rfl, r, dx, _, rfl, hR', lk1 (by decide +kernel), _, rfl, _, rfl, r, n, x, y, ox, oy, rfl, hR, n0, hx, hy, ?_⟩
    rcases k with k | k | ⟨a, b, ea, eb, ha, hb, k⟩
    · exact .inl k
    · exact .inr (.inl k)
    · refine .inr (.inr ⟨a, b, ea, eb, ha, hb, _, _, rfl, rfl, _, rfl, ?_⟩)
      dsimp only [bef] at k
      by_cases q : 1 ≤ (b - a) % n
      · rw [decide_eq_true q, Bool.true_and] at k
        rw [decide_eq_true q]
        exact ⟨_, rfl, r, _, dx, _, _, rfl, hR', T.cl_Ring, T.n_Ring_size, rfl, _, _, rfl, rfl, ⟨by decide, by decide⟩, _, _, rfl, rfl, k⟩
      · rw [decide_eq_false q, Bool.false_and] at k
        rw [decide_eq_false q]
        exact k
/-- three numbers of the ring, or the first that is none is told -/
def Three (H : Hp) (Q : VK) (E : XK) (CN : Addr) (n : Int) (x y z : V) (ox oy oz : Option Int) (v : Int → Int → Int → V) : Prop :=
  (inR 0 (n - 1) ox = false ∧ Told H E CN "number" x) ∨ (inR 0 (n - 1) ox = true ∧ inR 0 (n - 1) oy = false ∧ Told H E CN "number" y) ∨ (inR 0 (n - 1) ox = true ∧ inR 0 (n - 1) oy = true ∧ inR 0 (n - 1) oz = false ∧ Told H E CN "number" z) ∨
  ∃ a b c, ox = some a ∧ oy = some b ∧ oz = some c ∧ (0 ≤ a ∧ a < n) ∧ (0 ≤ b ∧ b < n) ∧ (0 ≤ c ∧ c < n) ∧ Q (v a b c) H
def sp_Ring_within (K : PySem.W.Frag) (C CN : Addr) : Sp := fun vs H Q E => ∃ (r : Addr) (n : Int) (x y z : V) (ox oy oz : Option Int), vs = [.ref r, x, y, z] ∧ RingAt C H r n ∧ 0 < n ∧ Kd K H x ox ∧ Kd K H y oy ∧ Kd K H z oz ∧ Three H Q E CN n x y z ox oy oz fun a b c => .bl (decide ((b - a) % n < (c - a) % n))
theorem ok_Ring_within (T : Txt K mg) : FnOk P w K mg base (L2.CX P w) 6 T.a_Ring_within T.fd_Ring_within ["self", "low", "number", "high"] (sp_Ring_within K T.c_Ring T.c_InvalidNumber) := by
  have S := sc_Ring_within
  refine T.F_Ring_within.okX S (fun vs H Q E h => ?_) (fun cdv A outer s H vs Q E hr h => ?_)
  · obtain ⟨r, n, x, y, z, ox, oy, oz, rfl, _⟩ := h
    rfl
  · obtain ⟨r, n, x, y, z, ox, oy, oz, rfl, hR, n0, hx, hy, hz, k⟩ := h
    refine ⟨_, (pss_one (ps_ret (pe_cmpR op_lt (pe_meth (pv 0) T.cl_Ring T.m_Ring_gap (ok_Ring_gap T) (hr.mono (by decide)) T.B_Ring_gap .nil (passes_call (takes_of rfl rfl rfl rfl) (fun _ _ _ _ h => h)) (pa_cons (pv 1) (pa_cons (pv 2) pa_nil))) (pe_meth (pv 0) T.cl_Ring T.m_Ring_gap (ok_Ring_gap T) (hr.mono (by decide)) T.B_Ring_gap .nil (passes_call (takes_of rfl rfl rfl rfl) (fun _ _ _ _ h => h)) (pa_cons (pv 1) (pa_cons (pv 3) pa_nil))) (nomark _)))), ?_⟩
    obtain ⟨dx, hR'⟩ := id hR
    refine ⟨_, rfl, r, dx, _, rfl, hR', lk1 (by decide +kernel), _, rfl, _, rfl, r, n, x, y, ox, oy, rfl, hR, n0, hx, hy, ?_⟩
    rcases k with k | k | ⟨e1, e2, e3, k⟩ | ⟨a, b, c, ea, eb, ec, ha, hb, hc, k⟩
    · exact .inl k
    · exact .inr (.inl k)
    · obtain ⟨a, rfl, ha⟩ := inR_get e1
      obtain ⟨b, rfl, hb⟩ := inR_get e2
      refine .inr (.inr ⟨a, b, rfl, rfl, ha, hb, ?_⟩)
      exact ⟨_, rfl, r, dx, _, rfl, hR', lk1 (by decide +kernel), _, rfl, _, rfl, r, n, x, z, _, oz, rfl, hR, n0, hx, hz, .inr (.inl ⟨e1, e3, k⟩)⟩
    · refine .inr (.inr ⟨a, b, ea, eb, ha, hb, ?_⟩)
      exact ⟨_, rfl, r, dx, _, rfl, hR', lk1 (by decide +kernel), _, rfl, _, rfl, r, n, x, z, ox, oz, rfl, hR, n0, hx, hz, .inr (.inr ⟨a, c, ea, ec, ha, hc, _, _, rfl, rfl, k⟩)⟩
/-- the number near y whose number on the ring is x -/
def unw (n x y : Int) : Int := y - n / 2 + (x - (y - n / 2)) % n
def sp_Ring_unwrap (K : PySem.W.Frag) (C CN : Addr) : Sp := fun vs H Q E => ∃ (r : Addr) (n : Int) (x y : V) (ox oy : Option Int), vs = [.ref r, x, y] ∧ RingAt C H r n ∧ 0 < n ∧ Kd K H x ox ∧ Kd K H y oy ∧
  ((inR 0 (n - 1) ox = false ∧ Told H E CN "number" x) ∨ (inR 0 (n - 1) ox = true ∧ oy = none ∧ Told H E CN "number" y) ∨ ∃ a b, ox = some a ∧ oy = some b ∧ (0 ≤ a ∧ a < n) ∧ Q (.int (unw n a b)) H)
theorem ok_Ring_unwrap (T : Txt K mg) : FnOk P w K mg base (L2.CX P w) 5 T.a_Ring_unwrap T.fd_Ring_unwrap ["self", "number", "near"] (sp_Ring_unwrap K T.c_Ring T.c_InvalidNumber) := by
  have S := sc_Ring_unwrap
  refine T.F_Ring_unwrap.okX S (fun vs H Q E h => ?_) (fun cdv A outer s H vs Q E hr h => ?_)
  · obtain ⟨r, n, x, y, ox, oy, rfl, _⟩ := h
    rfl
  · obtain ⟨r, n, x, y, ox, oy, rfl, hR, n0, hx, hy, k⟩ := h
    refine ⟨_, (pss_cons (ps_expr (pe_meth (pv 0) T.cl_Ring T.m_Ring_require (ok_Ring_require T) (hr.mono (by decide)) T.B_Ring_require .nil (passes_call (takes_of rfl rfl rfl rfl) (fun _ _ _ _ h => h)) (pa_cons (pv 1) pa_nil)))
      (pss_cons (ps_if (pt_not (pt_val (pe_call (ok_is_integer T) (hr.mono (by decide)) rfl T.g_is_integer T.F_is_integer.kp T.B_is_integer .nil pass0 (pa_cons (pv 2) pa_nil)))) (pss_one (ps_raise rfl (takes_of rfl rfl rfl rfl) (pmk_oex T.X_InvalidNumber.o T.X_InvalidNumber.i T.X_InvalidNumber.t (ok_InvalidNumber_init_ T) (hr.mono (by decide)) T.B_InvalidNumber_init_ .nil pass0 rfl T.X_InvalidNumber.g (pa_cons (pv 2) pa_nil)))) pss_nil)
      (pss_cons (ps_set (i := 3) S.nd rfl (Or.inl rfl) (pe_op op_sub (pv 2) (pe_op op_fdiv (pe_fld (pv 0) rfl) pe_int)))
      (pss_one (ps_ret (pe_op op_add (pv 3) (pe_op op_mod (pe_op op_sub (pv 1) (pv 3)) (pe_fld (pv 0) rfl)))))))), ?_⟩
    obtain ⟨dx, hR'⟩ := id hR
    refine ⟨_, rfl, r, dx, _, rfl, hR', lk1 (by decide +kernel), _, rfl, r, n, x, ox, rfl, hR, hx, ?_⟩
    rcases k with k | ⟨e, rfl, k⟩ | ⟨a, b, rfl, rfl, ha, k⟩
    · exact .inr k
    · refine .inl ⟨e, ?_⟩
      exact ⟨_, rfl, _, false, rfl, hy, _, rfl, _, rfl, mkO_of T.X_InvalidNumber.o T.nX_InvalidNumber k⟩
    · obtain rfl : x = .int a := hx
      obtain rfl : y = .int b := hy
      refine .inl ⟨inR_ok ha, ?_⟩
      refine ⟨_, rfl, _, true, rfl, intK_int b, _, rfl, ?_⟩
      refine ⟨_, rfl, _, rfl, r, _, dx, _, _, rfl, hR', T.cl_Ring, T.n_Ring_size, rfl, _, _, rfl, rfl, ⟨by decide, by decide⟩, _, _, rfl, rfl, ?_⟩
      exact ⟨_, rfl, _, rfl, _, rfl, _, _, rfl, rfl, _, rfl, r, _, dx, _, _, rfl, hR', T.cl_Ring, T.n_Ring_size, rfl, _, _, rfl, rfl, n0, _, _, rfl, rfl, k⟩
/-! ### the law's words -/
def sp__law_truth (K : PySem.W.Frag) : Sp := fun vs H Q _ => ∃ (a b : Bool), vs = [.bl a, .bl b] ∧ Q (.bl (a == b)) H
theorem ok__law_truth (T : Txt K mg) : FnOk P w K mg base CX0 1 T.a__law_truth T.fd__law_truth ["actual", "wanted"] (sp__law_truth K) := by
  have S := sc__law_truth
  refine T.F__law_truth.ok S (fun vs H Q E h => ?_) (fun cdv A outer s H vs Q E hr h => ?_)
  · obtain ⟨a, b, rfl, _⟩ := h
    rfl
  · obtain ⟨a, b, rfl, k⟩ := h
    refine ⟨_, (pss_one (ps_ret (pe_and (pe_callB (id := "isinstance") call_isi (by rfl) T.b_isinstance (by decide +kernel) (pa_cons (pv 0) (pa_cons (pe_bltn (v := .ty "bool") (u := .type "bool") (by rfl) T.b_bool (by decide +kernel) rfl) pa_nil))) (pe_one (pe_cmpR op_eq (pv 0) (pv 1) (nomark _)))))), ?_⟩
    refine ⟨_, rfl, _, _, _, _, true, rfl, .ty _, .base (.bl a), kit_ty (by decide +kernel), true, rfl, ?_⟩
    refine ⟨_, rfl, _, rfl, rfl, ?_⟩
    rw [dec_bl]
    exact k
def sp__law_is (K : PySem.W.Frag) : Sp := fun vs H Q _ => ∃ (x y : V) (o : Option Int), vs = [x, y] ∧ Kd K H x o ∧ ((∃ a b, o = some a ∧ y = .int b ∧ Q (.bl (decide (a = b))) H) ∨ (o = none ∧ Q (.bl false) H))
theorem ok__law_is (T : Txt K mg) : FnOk P w K mg base CX0 1 T.a__law_is T.fd__law_is ["actual", "wanted"] (sp__law_is K) := by
  have S := sc__law_is
  refine T.F__law_is.ok S (fun vs H Q E h => ?_) (fun cdv A outer s H vs Q E hr h => ?_)
  · obtain ⟨x, y, o, rfl, _⟩ := h
    rfl
  · obtain ⟨x, y, o, rfl, hk, k⟩ := h
    refine ⟨_, (pss_one (ps_ret (pe_and (pe_callB (id := "isinstance") call_isi (by rfl) T.b_isinstance (by decide +kernel) (pa_cons (pv 0) (pa_cons (pe_bltn (v := .ty "int") (u := .type "int") (by rfl) T.b_int (by decide +kernel) rfl) pa_nil))) (pe_and (pe_not (pe_callB (id := "isinstance") call_isi (by rfl) T.b_isinstance (by decide +kernel) (pa_cons (pv 0) (pa_cons (pe_bltn (v := .ty "bool") (u := .type "bool") (by rfl) T.b_bool (by decide +kernel) rfl) pa_nil)))) (pe_one (pe_cmpR op_eq (pv 0) (pv 1) (nomark _))))))), ?_⟩
    rcases k with ⟨a, b, rfl, rfl, k⟩ | ⟨rfl, k⟩
    · obtain rfl : x = .int a := hk
      refine ⟨_, rfl, _, _, _, _, true, rfl, .ty _, .base (.int a), kit_ty (by decide +kernel), true, rfl, iteT ?_⟩
      refine ⟨_, rfl, _, _, _, _, false, rfl, .ty _, .base (.int a), kit_ty (by decide +kernel), false, rfl, true, rfl, iteT ?_⟩
      refine ⟨_, rfl, _, rfl, rfl, ?_⟩
      rw [dec_int]
      exact k
    · obtain ⟨t, i, b, ty, hi, hb, e⟩ := (show IntK K H x false from hk)
      cases i with
      | false => exact ⟨_, rfl, _, _, _, _, false, rfl, .ty _, ty, hi, false, rfl, iteF k⟩
      | true =>
        cases b with
        | false => cases e
        | true => exact ⟨_, rfl, _, _, _, _, true, rfl, .ty _, ty, hi, true, rfl, iteT ⟨_, rfl, _, _, _, _, true, rfl, .ty _, ty, hb, true, rfl, false, rfl, iteF k⟩⟩
/-- no ring at all -/
def NoRing (K : PySem.W.Frag) (C : Addr) (H : Hp) (y : V) : Prop := ∃ t, TyX K H y t ∧ PySem.W.kitOne K t (.ref C) = some false ∧ PySem.W.notFirst K C t = true
def sp_Ring_eq_ (K : PySem.W.Frag) (C : Addr) : Sp := fun vs H Q _ => ∃ (r : Addr) (n : Int) (y : V), vs = [.ref r, y] ∧ RingAt C H r n ∧ ((∃ q m, y = .ref q ∧ RingAt C H q m ∧ Q (.bl (decide (n = m))) H) ∨ (NoRing K C H y ∧ Q (.bl false) H))
theorem ring_ty {T : Txt K mg} {H : Hp} {q dx : Addr} {fs : List (Str × V)} (h : H q = some (.ins T.c_Ring dx fs)) : TyX K H (.ref q) (.ref T.c_Ring) := .base (.ins h T.cl_Ring T.ri_class T.ri_get T.ri_tk T.ri_mro)
theorem ok_Ring_eq_ (T : Txt K mg) : FnOk P w K mg base CX0 1 T.a_Ring_eq_ T.fd_Ring_eq_ ["self", "other"] (sp_Ring_eq_ K T.c_Ring) := by
  have S := sc_Ring_eq_
  refine T.F_Ring_eq_.ok S (fun vs H Q E h => ?_) (fun cdv A outer s H vs Q E hr h => ?_)
  · obtain ⟨r, n, y, rfl, _⟩ := h
    rfl
  · obtain ⟨r, n, y, rfl, ⟨dx, hR⟩, k⟩ := h
    refine ⟨_, (pss_one (ps_ret (pe_and (pe_callB (id := "isinstance") call_isi (by rfl) T.b_isinstance (by decide +kernel) (pa_cons (pv 1) (pa_cons (pe_glob (v := .ref T.c_Ring) rfl T.g_Ring rfl) pa_nil))) (pe_one (pe_cmpR op_eq (pe_fld (pv 0) rfl) (pe_fld (pv 1) rfl) (nomark _)))))), ?_⟩
    rcases k with ⟨q, m, rfl, ⟨dy, hq⟩, k⟩ | ⟨⟨t, ty, hk, _⟩, k⟩
    · refine ⟨_, rfl, _, _, _, _, true, rfl, .own _, ring_ty hq, T.KR_Ring.at 0 _ _ rfl, true, rfl, iteT ?_⟩
      refine ⟨_, rfl, r, _, dx, _, _, rfl, hR, T.cl_Ring, T.n_Ring_size, rfl, _, rfl, q, _, dy, _, _, rfl, hq, T.cl_Ring, T.n_Ring_size, rfl, rfl, ?_⟩
      rw [dec_int]
      exact k
    · exact ⟨_, rfl, _, _, _, _, false, rfl, .own _, ty, hk, false, rfl, iteF k⟩
/-! ### the eighteen errors -/
theorem same3 {H : Hp} {a dx : Addr} {o1 o2 o3 : HO} (ha : H a = none) (hd : (upd H a o1) dx = none) (ne : dx ≠ a) : Same H (upd (upd (upd H a o1) dx o2) a o3) := fun b u e => by
  rw [upd_ne ne] at hd
  rw [upd_ne (ne_of_none e ha), upd_ne (ne_of_none e hd), upd_ne (ne_of_none e ha)]
  exact e
theorem mkE_one {K : PySem.W.Frag} {f : Str} {C : Addr} {v : V} {H : Hp} {Q : VK} (O : OexC K C) (hn : PySem.W.findIn K (.ref C) f = some none) (k : ∀ p H', Same H H' → ErrAt H' p C [(f, v)] → Q (.ref p) H') :
    [v].length ≤ 1000 ∧ ∀ a, H a = none → sp_xinit K f (.ref a :: [v]) (upd H a (exo a C none)) (fun w H2 => w = .non ∧ Q (.ref a) H2) (fun _ _ _ => False) :=
  ⟨Nat.succ_le_succ (Nat.zero_le _), fun a ha => ⟨a, C, v, rfl, O, hn, upd_same, fun dx hd ne => ⟨rfl, k a _ (same3 ha hd ne) (.inr ⟨dx, upd_same, by rw [upd_ne ne]; exact upd_same⟩)⟩⟩⟩
theorem mkE_none {C : Addr} {H : Hp} {Q : VK} (k : ∀ p H', Same H H' → ErrAt H' p C [] → Q (.ref p) H') : ∀ a, H a = none → Q (.ref a) (upd H a (exo a C none)) := fun a ha => k a _ (Same.new ha) (.inl ⟨rfl, upd_same⟩)
theorem mkE_two {K : PySem.W.Frag} {C : Addr} {v u : V} {H : Hp} {Q : VK} (O : OexC K C) (h1 : PySem.W.findIn K (.ref C) "side" = some none) (h2 : PySem.W.findIn K (.ref C) "place" = some none) (k : ∀ p H', Same H H' → ErrAt H' p C [("place", u), ("side", v)] → Q (.ref p) H') :
    [v, u].length ≤ 1000 ∧ ∀ a, H a = none → sp_InvalidFate_init_ K (.ref a :: [v, u]) (upd H a (exo a C none)) (fun w H2 => w = .non ∧ Q (.ref a) H2) (fun _ _ _ => False) :=
  ⟨Nat.succ_le_succ (Nat.succ_le_succ (Nat.zero_le _)), fun a ha => ⟨a, C, v, u, rfl, O, h1, h2, upd_same, fun dx hd ne => ⟨rfl, k a _ (fun b w e => by
    have nb : b ≠ dx := ne_of_none e (by rw [upd_ne ne] at hd; exact hd)
    rw [upd_ne nb]
    exact same3 ha hd ne b w e) (.inr ⟨dx, by rw [upd_ne ne.symm]; exact upd_same, upd_same⟩)⟩⟩⟩
/-- which error it is, what it keeps -/
def Kept {K : PySem.W.Frag} {mg : Str → Option Value} (T : Txt K mg) (H : Hp) (w a : Int) (t : Str) (C : Addr) (fs : List (Str × V)) : Prop :=
  (w = 0 ∧ C = T.c_InvalidNumber ∧ fs = ([("number", .int a)] : List (Str × V))) ∨
  (w = 1 ∧ C = T.c_InvalidSetting ∧ fs = ([("setting", .str t)] : List (Str × V))) ∨
  (w = 2 ∧ C = T.c_InvalidSegment ∧ fs = ([("part", .str t)] : List (Str × V))) ∨
  (w = 3 ∧ C = T.c_InvalidWords ∧ fs = ([("place", .int a)] : List (Str × V))) ∨
  (w = 4 ∧ C = T.c_NotAllowed ∧ fs = ([("state", .str t)] : List (Str × V))) ∨
  (w = 5 ∧ C = T.c_Broken ∧ fs = ([("reason", .str t)] : List (Str × V))) ∨
  (w = 6 ∧ C = T.c_NoConnection ∧ fs = ([("handle", .int a)] : List (Str × V))) ∨
  (w = 7 ∧ C = T.c_NoListener ∧ fs = ([("port", .int a)] : List (Str × V))) ∨
  (w = 8 ∧ C = T.c_PortTaken ∧ fs = ([("port", .int a)] : List (Str × V))) ∨
  (w = 9 ∧ C = T.c_StationDown ∧ fs = ([] : List (Str × V))) ∨
  (w = 10 ∧ C = T.c_TooMany ∧ fs = ([("most", .int a)] : List (Str × V))) ∨
  (w = 11 ∧ C = T.c_InvalidFate ∧ fs = ([("place", .int (a + 1)), ("side", .int a)] : List (Str × V))) ∨
  (w = 12 ∧ C = T.c_InvalidTrace ∧ fs = ([("place", .int a)] : List (Str × V))) ∨
  (w = 13 ∧ C = T.c_InvalidDeed ∧ ∃ q, fs = ([("deed", .ref q)] : List (Str × V)) ∧ H q = some (.tup [.str "tick", .int a])) ∨
  (w = 14 ∧ C = T.c_NothingLeft ∧ fs = ([] : List (Str × V))) ∨
  (w = 15 ∧ C = T.c_Stopped ∧ fs = ([("place", .int a)] : List (Str × V))) ∨
  (w = 16 ∧ C = T.c_InvalidLine ∧ fs = ([("line", .int a)] : List (Str × V))) ∨
  (w = 17 ∧ C = T.c_WrongSum ∧ fs = ([("place", .int a)] : List (Str × V)))
def rowOf {K : PySem.W.Frag} {mg : Str → Option Value} (T : Txt K mg) (b : Int → Bool) : List (Value × Bool) := [(.ref T.c_InvalidNumber, b 0), (.ref T.c_InvalidSetting, b 1), (.ref T.c_InvalidSegment, b 2), (.ref T.c_InvalidWords, b 3), (.ref T.c_NotAllowed, b 4), (.ref T.c_Broken, b 5), (.ref T.c_NoConnection, b 6), (.ref T.c_NoListener, b 7), (.ref T.c_PortTaken, b 8), (.ref T.c_StationDown, b 9), (.ref T.c_TooMany, b 10), (.ref T.c_InvalidFate, b 11), (.ref T.c_InvalidTrace, b 12), (.ref T.c_InvalidDeed, b 13), (.ref T.c_NothingLeft, b 14), (.ref T.c_Stopped, b 15), (.ref T.c_InvalidLine, b 16), (.ref T.c_WrongSum, b 17), (.ref T.c_LossError, true), (.type "ValueError", true)]
def own18 (w j : Int) : Bool := decide (j = w) || (decide (j = 3) && decide (w = 17))
theorem kept_row {T : Txt K mg} {H : Hp} {w a : Int} {t : Str} {C : Addr} {fs : List (Str × V)} (h : Kept T H w a t C fs) : ExcC K C ∧ KRow K (.ref C) (rowOf T (own18 w)) := by
  rcases h with ⟨rfl, rfl, _⟩ | ⟨rfl, rfl, _⟩ | ⟨rfl, rfl, _⟩ | ⟨rfl, rfl, _⟩ | ⟨rfl, rfl, _⟩ | ⟨rfl, rfl, _⟩ | ⟨rfl, rfl, _⟩ | ⟨rfl, rfl, _⟩ | ⟨rfl, rfl, _⟩ | ⟨rfl, rfl, _⟩ | ⟨rfl, rfl, _⟩ | ⟨rfl, rfl, _⟩ | ⟨rfl, rfl, _⟩ | ⟨rfl, rfl, _⟩ | ⟨rfl, rfl, _⟩ | ⟨rfl, rfl, _⟩ | ⟨rfl, rfl, _⟩ | ⟨rfl, rfl, _⟩
  · exact ⟨T.X_InvalidNumber.e, T.KR_InvalidNumber⟩
  · exact ⟨T.X_InvalidSetting.e, T.KR_InvalidSetting⟩
  · exact ⟨T.X_InvalidSegment.e, T.KR_InvalidSegment⟩
  · exact ⟨T.X_InvalidWords.e, T.KR_InvalidWords⟩
  · exact ⟨T.X_NotAllowed.e, T.KR_NotAllowed⟩
  · exact ⟨T.X_Broken.e, T.KR_Broken⟩
  · exact ⟨T.X_NoConnection.e, T.KR_NoConnection⟩
  · exact ⟨T.X_NoListener.e, T.KR_NoListener⟩
  · exact ⟨T.X_PortTaken.e, T.KR_PortTaken⟩
  · exact ⟨T.X_StationDown.e, T.KR_StationDown⟩
  · exact ⟨T.X_TooMany.e, T.KR_TooMany⟩
  · exact ⟨T.X_InvalidFate.e, T.KR_InvalidFate⟩
  · exact ⟨T.X_InvalidTrace.e, T.KR_InvalidTrace⟩
  · exact ⟨T.X_InvalidDeed.e, T.KR_InvalidDeed⟩
  · exact ⟨T.X_NothingLeft.e, T.KR_NothingLeft⟩
  · exact ⟨T.X_Stopped.e, T.KR_Stopped⟩
  · exact ⟨T.X_InvalidLine.e, T.KR_InvalidLine⟩
  · exact ⟨T.X_WrongSum.e, T.KR_WrongSum⟩
theorem Kept.same {T : Txt K mg} {H H' : Hp} {w a : Int} {t : Str} {C : Addr} {fs : List (Str × V)} (h : Kept T H w a t C fs) (k : ∀ q, H q = some (.tup [.str "tick", .int a]) → H' q = some (.tup [.str "tick", .int a])) : Kept T H' w a t C fs := by
  rcases h with h | h | h | h | h | h | h | h | h | h | h | h | h | ⟨e1, e2, q, e3, e4⟩ | h | h | h | h
  · exact (.inl h)
  · exact (.inr (.inl h))
  · exact (.inr (.inr (.inl h)))
  · exact (.inr (.inr (.inr (.inl h))))
  · exact (.inr (.inr (.inr (.inr (.inl h)))))
  · exact (.inr (.inr (.inr (.inr (.inr (.inl h))))))
  · exact (.inr (.inr (.inr (.inr (.inr (.inr (.inl h)))))))
  · exact (.inr (.inr (.inr (.inr (.inr (.inr (.inr (.inl h))))))))
  · exact (.inr (.inr (.inr (.inr (.inr (.inr (.inr (.inr (.inl h)))))))))
  · exact (.inr (.inr (.inr (.inr (.inr (.inr (.inr (.inr (.inr (.inl h))))))))))
  · exact (.inr (.inr (.inr (.inr (.inr (.inr (.inr (.inr (.inr (.inr (.inl h)))))))))))
  · exact (.inr (.inr (.inr (.inr (.inr (.inr (.inr (.inr (.inr (.inr (.inr (.inl h))))))))))))
  · exact (.inr (.inr (.inr (.inr (.inr (.inr (.inr (.inr (.inr (.inr (.inr (.inr (.inl h)))))))))))))
  · exact (.inr (.inr (.inr (.inr (.inr (.inr (.inr (.inr (.inr (.inr (.inr (.inr (.inr (.inl ⟨e1, e2, q, e3, k q e4⟩))))))))))))))
  · exact (.inr (.inr (.inr (.inr (.inr (.inr (.inr (.inr (.inr (.inr (.inr (.inr (.inr (.inr (.inl h)))))))))))))))
  · exact (.inr (.inr (.inr (.inr (.inr (.inr (.inr (.inr (.inr (.inr (.inr (.inr (.inr (.inr (.inr (.inl h))))))))))))))))
  · exact (.inr (.inr (.inr (.inr (.inr (.inr (.inr (.inr (.inr (.inr (.inr (.inr (.inr (.inr (.inr (.inr (.inl h)))))))))))))))))
  · exact (.inr (.inr (.inr (.inr (.inr (.inr (.inr (.inr (.inr (.inr (.inr (.inr (.inr (.inr (.inr (.inr (.inr h)))))))))))))))))
def sp__law_error {K : PySem.W.Frag} {mg : Str → Option Value} (T : Txt K mg) : Sp := fun vs H Q _ => ∃ (w a : Int) (t : Str), vs = [.int w, .int a, .str t] ∧ 0 ≤ w ∧ w < 18 ∧ ∀ p C fs H', Same H H' → ErrAt H' p C fs → Kept T H' w a t C fs → Q (.ref p) H'
theorem ok__law_error (T : Txt K mg) : FnOk P w K mg base CX0 3 T.a__law_error T.fd__law_error ["which", "amount", "text"] (sp__law_error T) := by
  have S := sc__law_error
  refine T.F__law_error.ok S (fun vs H Q E h => ?_) (fun cdv A outer s H vs Q E hr h => ?_)
  · obtain ⟨w, a, t, rfl, _⟩ := h
    rfl
  · obtain ⟨w, a, t, rfl, w0, w1, k⟩ := h
    have hw : w = 0 ∨ w = 1 ∨ w = 2 ∨ w = 3 ∨ w = 4 ∨ w = 5 ∨ w = 6 ∨ w = 7 ∨ w = 8 ∨ w = 9 ∨ w = 10 ∨ w = 11 ∨ w = 12 ∨ w = 13 ∨ w = 14 ∨ w = 15 ∨ w = 16 ∨ w = 17 := by omega
    refine ⟨_, (pss_cons (ps_if (pt_cmpR op_eq (pv 0) pe_int (nomark _)) (pss_one (ps_ret (pe_mkErr T.X_InvalidNumber.o T.X_InvalidNumber.i T.X_InvalidNumber.t (ok_InvalidNumber_init_ T) (hr.mono (by decide)) T.B_InvalidNumber_init_ pass0 rfl T.X_InvalidNumber.g (pa_cons (pv 1) pa_nil)))) pss_nil)
      (pss_cons (ps_if (pt_cmpR op_eq (pv 0) pe_int (nomark _)) (pss_one (ps_ret (pe_mkErr T.X_InvalidSetting.o T.X_InvalidSetting.i T.X_InvalidSetting.t (ok_InvalidSetting_init_ T) (hr.mono (by decide)) T.B_InvalidSetting_init_ pass0 rfl T.X_InvalidSetting.g (pa_cons (pv 2) pa_nil)))) pss_nil)
      (pss_cons (ps_if (pt_cmpR op_eq (pv 0) pe_int (nomark _)) (pss_one (ps_ret (pe_mkErr T.X_InvalidSegment.o T.X_InvalidSegment.i T.X_InvalidSegment.t (ok_InvalidSegment_init_ T) (hr.mono (by decide)) T.B_InvalidSegment_init_ pass0 rfl T.X_InvalidSegment.g (pa_cons (pv 2) pa_nil)))) pss_nil)
      (pss_cons (ps_if (pt_cmpR op_eq (pv 0) pe_int (nomark _)) (pss_one (ps_ret (pe_mkErr T.X_InvalidWords.o T.X_InvalidWords.i T.X_InvalidWords.t (ok_InvalidWords_init_ T) (hr.mono (by decide)) T.B_InvalidWords_init_ pass0 rfl T.X_InvalidWords.g (pa_cons (pv 1) pa_nil)))) pss_nil)
      (pss_cons (ps_if (pt_cmpR op_eq (pv 0) pe_int (nomark _)) (pss_one (ps_ret (pe_mkErr T.X_NotAllowed.o T.X_NotAllowed.i T.X_NotAllowed.t (ok_NotAllowed_init_ T) (hr.mono (by decide)) T.B_NotAllowed_init_ pass0 rfl T.X_NotAllowed.g (pa_cons (pv 2) pa_nil)))) pss_nil)
      (pss_cons (ps_if (pt_cmpR op_eq (pv 0) pe_int (nomark _)) (pss_one (ps_ret (pe_mkErr T.X_Broken.o T.X_Broken.i T.X_Broken.t (ok_Broken_init_ T) (hr.mono (by decide)) T.B_Broken_init_ pass0 rfl T.X_Broken.g (pa_cons (pv 2) pa_nil)))) pss_nil)
      (pss_cons (ps_if (pt_cmpR op_eq (pv 0) pe_int (nomark _)) (pss_one (ps_ret (pe_mkErr T.X_NoConnection.o T.X_NoConnection.i T.X_NoConnection.t (ok_NoConnection_init_ T) (hr.mono (by decide)) T.B_NoConnection_init_ pass0 rfl T.X_NoConnection.g (pa_cons (pv 1) pa_nil)))) pss_nil)
      (pss_cons (ps_if (pt_cmpR op_eq (pv 0) pe_int (nomark _)) (pss_one (ps_ret (pe_mkErr T.X_NoListener.o T.X_NoListener.i T.X_NoListener.t (ok_NoListener_init_ T) (hr.mono (by decide)) T.B_NoListener_init_ pass0 rfl T.X_NoListener.g (pa_cons (pv 1) pa_nil)))) pss_nil)
      (pss_cons (ps_if (pt_cmpR op_eq (pv 0) pe_int (nomark _)) (pss_one (ps_ret (pe_mkErr T.X_PortTaken.o T.X_PortTaken.i T.X_PortTaken.t (ok_PortTaken_init_ T) (hr.mono (by decide)) T.B_PortTaken_init_ pass0 rfl T.X_PortTaken.g (pa_cons (pv 1) pa_nil)))) pss_nil)
      (pss_cons (ps_if (pt_cmpR op_eq (pv 0) pe_int (nomark _)) (pss_one (ps_ret (pe_mkErr0 T.X_StationDown.q T.X_StationDown.k rfl T.X_StationDown.g))) pss_nil)
      (pss_cons (ps_if (pt_cmpR op_eq (pv 0) pe_int (nomark _)) (pss_one (ps_ret (pe_mkErr T.X_TooMany.o T.X_TooMany.i T.X_TooMany.t (ok_TooMany_init_ T) (hr.mono (by decide)) T.B_TooMany_init_ pass0 rfl T.X_TooMany.g (pa_cons (pv 1) pa_nil)))) pss_nil)
      (pss_cons (ps_if (pt_cmpR op_eq (pv 0) pe_int (nomark _)) (pss_one (ps_ret (pe_mkErr T.X_InvalidFate.o T.X_InvalidFate.i T.X_InvalidFate.t (ok_InvalidFate_init_ T) (hr.mono (by decide)) T.B_InvalidFate_init_ pass0 rfl T.X_InvalidFate.g (pa_cons (pv 1) (pa_cons (pe_op op_add (pv 1) pe_int) pa_nil))))) pss_nil)
      (pss_cons (ps_if (pt_cmpR op_eq (pv 0) pe_int (nomark _)) (pss_one (ps_ret (pe_mkErr T.X_InvalidTrace.o T.X_InvalidTrace.i T.X_InvalidTrace.t (ok_InvalidTrace_init_ T) (hr.mono (by decide)) T.B_InvalidTrace_init_ pass0 rfl T.X_InvalidTrace.g (pa_cons (pv 1) pa_nil)))) pss_nil)
      (pss_cons (ps_if (pt_cmpR op_eq (pv 0) pe_int (nomark _)) (pss_one (ps_ret (pe_mkErr T.X_InvalidDeed.o T.X_InvalidDeed.i T.X_InvalidDeed.t (ok_InvalidDeed_init_ T) (hr.mono (by decide)) T.B_InvalidDeed_init_ pass0 rfl T.X_InvalidDeed.g (pa_cons (pe_tup (pa_cons pe_str (pa_cons (pv 1) pa_nil))) pa_nil)))) pss_nil)
      (pss_cons (ps_if (pt_cmpR op_eq (pv 0) pe_int (nomark _)) (pss_one (ps_ret (pe_mkErr0 T.X_NothingLeft.q T.X_NothingLeft.k rfl T.X_NothingLeft.g))) pss_nil)
      (pss_cons (ps_if (pt_cmpR op_eq (pv 0) pe_int (nomark _)) (pss_one (ps_ret (pe_mkErr T.X_Stopped.o T.X_Stopped.i T.X_Stopped.t (ok_Stopped_init_ T) (hr.mono (by decide)) T.B_Stopped_init_ pass0 rfl T.X_Stopped.g (pa_cons (pv 1) pa_nil)))) pss_nil)
      (pss_cons (ps_if (pt_cmpR op_eq (pv 0) pe_int (nomark _)) (pss_one (ps_ret (pe_mkErr T.X_InvalidLine.o T.X_InvalidLine.i T.X_InvalidLine.t (ok_InvalidLine_init_ T) (hr.mono (by decide)) T.B_InvalidLine_init_ pass0 rfl T.X_InvalidLine.g (pa_cons (pv 1) pa_nil)))) pss_nil)
      (pss_one (ps_ret (pe_mkErr T.X_WrongSum.o T.X_WrongSum.i T.X_WrongSum.t (ok_InvalidWords_init_ T) (hr.mono (by decide)) T.B_InvalidWords_init_ pass0 rfl T.X_WrongSum.g (pa_cons (pv 1) pa_nil))))))))))))))))))))), ?_⟩
    rcases hw with rfl | rfl | rfl | rfl | rfl | rfl | rfl | rfl | rfl | rfl | rfl | rfl | rfl | rfl | rfl | rfl | rfl | rfl
    · refine ⟨_, rfl, rfl, true, bl_t (int_eq rfl), ?_⟩
      exact ⟨_, rfl, mkE_one T.X_InvalidNumber.o T.nX_InvalidNumber fun p H' s he => k p _ _ H' s he (.inl ⟨rfl, rfl, rfl⟩)⟩
    · refine ⟨_, rfl, rfl, false, bl_f (int_ne (by decide)), ?_⟩
      refine ⟨_, rfl, rfl, true, bl_t (int_eq rfl), ?_⟩
      exact ⟨_, rfl, mkE_one T.X_InvalidSetting.o T.nX_InvalidSetting fun p H' s he => k p _ _ H' s he (.inr (.inl ⟨rfl, rfl, rfl⟩))⟩
    · refine ⟨_, rfl, rfl, false, bl_f (int_ne (by decide)), ?_⟩
      refine ⟨_, rfl, rfl, false, bl_f (int_ne (by decide)), ?_⟩
      refine ⟨_, rfl, rfl, true, bl_t (int_eq rfl), ?_⟩
      exact ⟨_, rfl, mkE_one T.X_InvalidSegment.o T.nX_InvalidSegment fun p H' s he => k p _ _ H' s he (.inr (.inr (.inl ⟨rfl, rfl, rfl⟩)))⟩
    · refine ⟨_, rfl, rfl, false, bl_f (int_ne (by decide)), ?_⟩
      refine ⟨_, rfl, rfl, false, bl_f (int_ne (by decide)), ?_⟩
      refine ⟨_, rfl, rfl, false, bl_f (int_ne (by decide)), ?_⟩
      refine ⟨_, rfl, rfl, true, bl_t (int_eq rfl), ?_⟩
      exact ⟨_, rfl, mkE_one T.X_InvalidWords.o T.nX_InvalidWords fun p H' s he => k p _ _ H' s he (.inr (.inr (.inr (.inl ⟨rfl, rfl, rfl⟩))))⟩
    · refine ⟨_, rfl, rfl, false, bl_f (int_ne (by decide)), ?_⟩
      refine ⟨_, rfl, rfl, false, bl_f (int_ne (by decide)), ?_⟩
      refine ⟨_, rfl, rfl, false, bl_f (int_ne (by decide)), ?_⟩
      refine ⟨_, rfl, rfl, false, bl_f (int_ne (by decide)), ?_⟩
      refine ⟨_, rfl, rfl, true, bl_t (int_eq rfl), ?_⟩
      exact ⟨_, rfl, mkE_one T.X_NotAllowed.o T.nX_NotAllowed fun p H' s he => k p _ _ H' s he (.inr (.inr (.inr (.inr (.inl ⟨rfl, rfl, rfl⟩)))))⟩
    · refine ⟨_, rfl, rfl, false, bl_f (int_ne (by decide)), ?_⟩
      refine ⟨_, rfl, rfl, false, bl_f (int_ne (by decide)), ?_⟩
      refine ⟨_, rfl, rfl, false, bl_f (int_ne (by decide)), ?_⟩
      refine ⟨_, rfl, rfl, false, bl_f (int_ne (by decide)), ?_⟩
      refine ⟨_, rfl, rfl, false, bl_f (int_ne (by decide)), ?_⟩
      refine ⟨_, rfl, rfl, true, bl_t (int_eq rfl), ?_⟩
      exact ⟨_, rfl, mkE_one T.X_Broken.o T.nX_Broken fun p H' s he => k p _ _ H' s he (.inr (.inr (.inr (.inr (.inr (.inl ⟨rfl, rfl, rfl⟩))))))⟩
    · refine ⟨_, rfl, rfl, false, bl_f (int_ne (by decide)), ?_⟩
      refine ⟨_, rfl, rfl, false, bl_f (int_ne (by decide)), ?_⟩
      refine ⟨_, rfl, rfl, false, bl_f (int_ne (by decide)), ?_⟩
      refine ⟨_, rfl, rfl, false, bl_f (int_ne (by decide)), ?_⟩
      refine ⟨_, rfl, rfl, false, bl_f (int_ne (by decide)), ?_⟩
      refine ⟨_, rfl, rfl, false, bl_f (int_ne (by decide)), ?_⟩
      refine ⟨_, rfl, rfl, true, bl_t (int_eq rfl), ?_⟩
      exact ⟨_, rfl, mkE_one T.X_NoConnection.o T.nX_NoConnection fun p H' s he => k p _ _ H' s he (.inr (.inr (.inr (.inr (.inr (.inr (.inl ⟨rfl, rfl, rfl⟩)))))))⟩
    · refine ⟨_, rfl, rfl, false, bl_f (int_ne (by decide)), ?_⟩
      refine ⟨_, rfl, rfl, false, bl_f (int_ne (by decide)), ?_⟩
      refine ⟨_, rfl, rfl, false, bl_f (int_ne (by decide)), ?_⟩
      refine ⟨_, rfl, rfl, false, bl_f (int_ne (by decide)), ?_⟩
      refine ⟨_, rfl, rfl, false, bl_f (int_ne (by decide)), ?_⟩
      refine ⟨_, rfl, rfl, false, bl_f (int_ne (by decide)), ?_⟩
      refine ⟨_, rfl, rfl, false, bl_f (int_ne (by decide)), ?_⟩
      refine ⟨_, rfl, rfl, true, bl_t (int_eq rfl), ?_⟩
      exact ⟨_, rfl, mkE_one T.X_NoListener.o T.nX_NoListener fun p H' s he => k p _ _ H' s he (.inr (.inr (.inr (.inr (.inr (.inr (.inr (.inl ⟨rfl, rfl, rfl⟩))))))))⟩
    · refine ⟨_, rfl, rfl, false, bl_f (int_ne (by decide)), ?_⟩
      refine ⟨_, rfl, rfl, false, bl_f (int_ne (by decide)), ?_⟩
      refine ⟨_, rfl, rfl, false, bl_f (int_ne (by decide)), ?_⟩
      refine ⟨_, rfl, rfl, false, bl_f (int_ne (by decide)), ?_⟩
      refine ⟨_, rfl, rfl, false, bl_f (int_ne (by decide)), ?_⟩
      refine ⟨_, rfl, rfl, false, bl_f (int_ne (by decide)), ?_⟩
      refine ⟨_, rfl, rfl, false, bl_f (int_ne (by decide)), ?_⟩
      refine ⟨_, rfl, rfl, false, bl_f (int_ne (by decide)), ?_⟩
      refine ⟨_, rfl, rfl, true, bl_t (int_eq rfl), ?_⟩
      exact ⟨_, rfl, mkE_one T.X_PortTaken.o T.nX_PortTaken fun p H' s he => k p _ _ H' s he (.inr (.inr (.inr (.inr (.inr (.inr (.inr (.inr (.inl ⟨rfl, rfl, rfl⟩)))))))))⟩
    · refine ⟨_, rfl, rfl, false, bl_f (int_ne (by decide)), ?_⟩
      refine ⟨_, rfl, rfl, false, bl_f (int_ne (by decide)), ?_⟩
      refine ⟨_, rfl, rfl, false, bl_f (int_ne (by decide)), ?_⟩
      refine ⟨_, rfl, rfl, false, bl_f (int_ne (by decide)), ?_⟩
      refine ⟨_, rfl, rfl, false, bl_f (int_ne (by decide)), ?_⟩
      refine ⟨_, rfl, rfl, false, bl_f (int_ne (by decide)), ?_⟩
      refine ⟨_, rfl, rfl, false, bl_f (int_ne (by decide)), ?_⟩
      refine ⟨_, rfl, rfl, false, bl_f (int_ne (by decide)), ?_⟩
      refine ⟨_, rfl, rfl, false, bl_f (int_ne (by decide)), ?_⟩
      refine ⟨_, rfl, rfl, true, bl_t (int_eq rfl), ?_⟩
      exact mkE_none fun p H' s he => k p _ _ H' s he (.inr (.inr (.inr (.inr (.inr (.inr (.inr (.inr (.inr (.inl ⟨rfl, rfl, rfl⟩))))))))))
    · refine ⟨_, rfl, rfl, false, bl_f (int_ne (by decide)), ?_⟩
      refine ⟨_, rfl, rfl, false, bl_f (int_ne (by decide)), ?_⟩
      refine ⟨_, rfl, rfl, false, bl_f (int_ne (by decide)), ?_⟩
      refine ⟨_, rfl, rfl, false, bl_f (int_ne (by decide)), ?_⟩
      refine ⟨_, rfl, rfl, false, bl_f (int_ne (by decide)), ?_⟩
      refine ⟨_, rfl, rfl, false, bl_f (int_ne (by decide)), ?_⟩
      refine ⟨_, rfl, rfl, false, bl_f (int_ne (by decide)), ?_⟩
      refine ⟨_, rfl, rfl, false, bl_f (int_ne (by decide)), ?_⟩
      refine ⟨_, rfl, rfl, false, bl_f (int_ne (by decide)), ?_⟩
      refine ⟨_, rfl, rfl, false, bl_f (int_ne (by decide)), ?_⟩
      refine ⟨_, rfl, rfl, true, bl_t (int_eq rfl), ?_⟩
      exact ⟨_, rfl, mkE_one T.X_TooMany.o T.nX_TooMany fun p H' s he => k p _ _ H' s he (.inr (.inr (.inr (.inr (.inr (.inr (.inr (.inr (.inr (.inr (.inl ⟨rfl, rfl, rfl⟩)))))))))))⟩
    · refine ⟨_, rfl, rfl, false, bl_f (int_ne (by decide)), ?_⟩
      refine ⟨_, rfl, rfl, false, bl_f (int_ne (by decide)), ?_⟩
      refine ⟨_, rfl, rfl, false, bl_f (int_ne (by decide)), ?_⟩
      refine ⟨_, rfl, rfl, false, bl_f (int_ne (by decide)), ?_⟩
      refine ⟨_, rfl, rfl, false, bl_f (int_ne (by decide)), ?_⟩
      refine ⟨_, rfl, rfl, false, bl_f (int_ne (by decide)), ?_⟩
      refine ⟨_, rfl, rfl, false, bl_f (int_ne (by decide)), ?_⟩
      refine ⟨_, rfl, rfl, false, bl_f (int_ne (by decide)), ?_⟩
      refine ⟨_, rfl, rfl, false, bl_f (int_ne (by decide)), ?_⟩
      refine ⟨_, rfl, rfl, false, bl_f (int_ne (by decide)), ?_⟩
      refine ⟨_, rfl, rfl, false, bl_f (int_ne (by decide)), ?_⟩
      refine ⟨_, rfl, rfl, true, bl_t (int_eq rfl), ?_⟩
      exact ⟨_, rfl, _, rfl, _, _, rfl, rfl, mkE_two T.X_InvalidFate.o T.nX_InvalidFate_side T.nX_InvalidFate_place fun p H' s he => k p _ _ H' s he (.inr (.inr (.inr (.inr (.inr (.inr (.inr (.inr (.inr (.inr (.inr (.inl ⟨rfl, rfl, rfl⟩))))))))))))⟩
    · refine ⟨_, rfl, rfl, false, bl_f (int_ne (by decide)), ?_⟩
      refine ⟨_, rfl, rfl, false, bl_f (int_ne (by decide)), ?_⟩
      refine ⟨_, rfl, rfl, false, bl_f (int_ne (by decide)), ?_⟩
      refine ⟨_, rfl, rfl, false, bl_f (int_ne (by decide)), ?_⟩
      refine ⟨_, rfl, rfl, false, bl_f (int_ne (by decide)), ?_⟩
      refine ⟨_, rfl, rfl, false, bl_f (int_ne (by decide)), ?_⟩
      refine ⟨_, rfl, rfl, false, bl_f (int_ne (by decide)), ?_⟩
      refine ⟨_, rfl, rfl, false, bl_f (int_ne (by decide)), ?_⟩
      refine ⟨_, rfl, rfl, false, bl_f (int_ne (by decide)), ?_⟩
      refine ⟨_, rfl, rfl, false, bl_f (int_ne (by decide)), ?_⟩
      refine ⟨_, rfl, rfl, false, bl_f (int_ne (by decide)), ?_⟩
      refine ⟨_, rfl, rfl, false, bl_f (int_ne (by decide)), ?_⟩
      refine ⟨_, rfl, rfl, true, bl_t (int_eq rfl), ?_⟩
      exact ⟨_, rfl, mkE_one T.X_InvalidTrace.o T.nX_InvalidTrace fun p H' s he => k p _ _ H' s he (.inr (.inr (.inr (.inr (.inr (.inr (.inr (.inr (.inr (.inr (.inr (.inr (.inl ⟨rfl, rfl, rfl⟩)))))))))))))⟩
    · refine ⟨_, rfl, rfl, false, bl_f (int_ne (by decide)), ?_⟩
      refine ⟨_, rfl, rfl, false, bl_f (int_ne (by decide)), ?_⟩
      refine ⟨_, rfl, rfl, false, bl_f (int_ne (by decide)), ?_⟩
      refine ⟨_, rfl, rfl, false, bl_f (int_ne (by decide)), ?_⟩
      refine ⟨_, rfl, rfl, false, bl_f (int_ne (by decide)), ?_⟩
      refine ⟨_, rfl, rfl, false, bl_f (int_ne (by decide)), ?_⟩
      refine ⟨_, rfl, rfl, false, bl_f (int_ne (by decide)), ?_⟩
      refine ⟨_, rfl, rfl, false, bl_f (int_ne (by decide)), ?_⟩
      refine ⟨_, rfl, rfl, false, bl_f (int_ne (by decide)), ?_⟩
      refine ⟨_, rfl, rfl, false, bl_f (int_ne (by decide)), ?_⟩
      refine ⟨_, rfl, rfl, false, bl_f (int_ne (by decide)), ?_⟩
      refine ⟨_, rfl, rfl, false, bl_f (int_ne (by decide)), ?_⟩
      refine ⟨_, rfl, rfl, false, bl_f (int_ne (by decide)), ?_⟩
      refine ⟨_, rfl, rfl, true, bl_t (int_eq rfl), ?_⟩
      exact ⟨_, rfl, (by show 2 ≤ sizeLine; decide), fun q hq => mkE_one T.X_InvalidDeed.o T.nX_InvalidDeed fun p H' s he => k p _ _ H' ((Same.new hq).trans s) he (.inr (.inr (.inr (.inr (.inr (.inr (.inr (.inr (.inr (.inr (.inr (.inr (.inr (.inl ⟨rfl, rfl, q, rfl, s _ _ upd_same⟩))))))))))))))⟩
    · refine ⟨_, rfl, rfl, false, bl_f (int_ne (by decide)), ?_⟩
      refine ⟨_, rfl, rfl, false, bl_f (int_ne (by decide)), ?_⟩
      refine ⟨_, rfl, rfl, false, bl_f (int_ne (by decide)), ?_⟩
      refine ⟨_, rfl, rfl, false, bl_f (int_ne (by decide)), ?_⟩
      refine ⟨_, rfl, rfl, false, bl_f (int_ne (by decide)), ?_⟩
      refine ⟨_, rfl, rfl, false, bl_f (int_ne (by decide)), ?_⟩
      refine ⟨_, rfl, rfl, false, bl_f (int_ne (by decide)), ?_⟩
      refine ⟨_, rfl, rfl, false, bl_f (int_ne (by decide)), ?_⟩
      refine ⟨_, rfl, rfl, false, bl_f (int_ne (by decide)), ?_⟩
      refine ⟨_, rfl, rfl, false, bl_f (int_ne (by decide)), ?_⟩
      refine ⟨_, rfl, rfl, false, bl_f (int_ne (by decide)), ?_⟩
      refine ⟨_, rfl, rfl, false, bl_f (int_ne (by decide)), ?_⟩
      refine ⟨_, rfl, rfl, false, bl_f (int_ne (by decide)), ?_⟩
      refine ⟨_, rfl, rfl, false, bl_f (int_ne (by decide)), ?_⟩
      refine ⟨_, rfl, rfl, true, bl_t (int_eq rfl), ?_⟩
      exact mkE_none fun p H' s he => k p _ _ H' s he (.inr (.inr (.inr (.inr (.inr (.inr (.inr (.inr (.inr (.inr (.inr (.inr (.inr (.inr (.inl ⟨rfl, rfl, rfl⟩)))))))))))))))
    · refine ⟨_, rfl, rfl, false, bl_f (int_ne (by decide)), ?_⟩
      refine ⟨_, rfl, rfl, false, bl_f (int_ne (by decide)), ?_⟩
      refine ⟨_, rfl, rfl, false, bl_f (int_ne (by decide)), ?_⟩
      refine ⟨_, rfl, rfl, false, bl_f (int_ne (by decide)), ?_⟩
      refine ⟨_, rfl, rfl, false, bl_f (int_ne (by decide)), ?_⟩
      refine ⟨_, rfl, rfl, false, bl_f (int_ne (by decide)), ?_⟩
      refine ⟨_, rfl, rfl, false, bl_f (int_ne (by decide)), ?_⟩
      refine ⟨_, rfl, rfl, false, bl_f (int_ne (by decide)), ?_⟩
      refine ⟨_, rfl, rfl, false, bl_f (int_ne (by decide)), ?_⟩
      refine ⟨_, rfl, rfl, false, bl_f (int_ne (by decide)), ?_⟩
      refine ⟨_, rfl, rfl, false, bl_f (int_ne (by decide)), ?_⟩
      refine ⟨_, rfl, rfl, false, bl_f (int_ne (by decide)), ?_⟩
      refine ⟨_, rfl, rfl, false, bl_f (int_ne (by decide)), ?_⟩
      refine ⟨_, rfl, rfl, false, bl_f (int_ne (by decide)), ?_⟩
      refine ⟨_, rfl, rfl, false, bl_f (int_ne (by decide)), ?_⟩
      refine ⟨_, rfl, rfl, true, bl_t (int_eq rfl), ?_⟩
      exact ⟨_, rfl, mkE_one T.X_Stopped.o T.nX_Stopped fun p H' s he => k p _ _ H' s he (.inr (.inr (.inr (.inr (.inr (.inr (.inr (.inr (.inr (.inr (.inr (.inr (.inr (.inr (.inr (.inl ⟨rfl, rfl, rfl⟩))))))))))))))))⟩
    · refine ⟨_, rfl, rfl, false, bl_f (int_ne (by decide)), ?_⟩
      refine ⟨_, rfl, rfl, false, bl_f (int_ne (by decide)), ?_⟩
      refine ⟨_, rfl, rfl, false, bl_f (int_ne (by decide)), ?_⟩
      refine ⟨_, rfl, rfl, false, bl_f (int_ne (by decide)), ?_⟩
      refine ⟨_, rfl, rfl, false, bl_f (int_ne (by decide)), ?_⟩
      refine ⟨_, rfl, rfl, false, bl_f (int_ne (by decide)), ?_⟩
      refine ⟨_, rfl, rfl, false, bl_f (int_ne (by decide)), ?_⟩
      refine ⟨_, rfl, rfl, false, bl_f (int_ne (by decide)), ?_⟩
      refine ⟨_, rfl, rfl, false, bl_f (int_ne (by decide)), ?_⟩
      refine ⟨_, rfl, rfl, false, bl_f (int_ne (by decide)), ?_⟩
      refine ⟨_, rfl, rfl, false, bl_f (int_ne (by decide)), ?_⟩
      refine ⟨_, rfl, rfl, false, bl_f (int_ne (by decide)), ?_⟩
      refine ⟨_, rfl, rfl, false, bl_f (int_ne (by decide)), ?_⟩
      refine ⟨_, rfl, rfl, false, bl_f (int_ne (by decide)), ?_⟩
      refine ⟨_, rfl, rfl, false, bl_f (int_ne (by decide)), ?_⟩
      refine ⟨_, rfl, rfl, false, bl_f (int_ne (by decide)), ?_⟩
      refine ⟨_, rfl, rfl, true, bl_t (int_eq rfl), ?_⟩
      exact ⟨_, rfl, mkE_one T.X_InvalidLine.o T.nX_InvalidLine fun p H' s he => k p _ _ H' s he (.inr (.inr (.inr (.inr (.inr (.inr (.inr (.inr (.inr (.inr (.inr (.inr (.inr (.inr (.inr (.inr (.inl ⟨rfl, rfl, rfl⟩)))))))))))))))))⟩
    · refine ⟨_, rfl, rfl, false, bl_f (int_ne (by decide)), ?_⟩
      refine ⟨_, rfl, rfl, false, bl_f (int_ne (by decide)), ?_⟩
      refine ⟨_, rfl, rfl, false, bl_f (int_ne (by decide)), ?_⟩
      refine ⟨_, rfl, rfl, false, bl_f (int_ne (by decide)), ?_⟩
      refine ⟨_, rfl, rfl, false, bl_f (int_ne (by decide)), ?_⟩
      refine ⟨_, rfl, rfl, false, bl_f (int_ne (by decide)), ?_⟩
      refine ⟨_, rfl, rfl, false, bl_f (int_ne (by decide)), ?_⟩
      refine ⟨_, rfl, rfl, false, bl_f (int_ne (by decide)), ?_⟩
      refine ⟨_, rfl, rfl, false, bl_f (int_ne (by decide)), ?_⟩
      refine ⟨_, rfl, rfl, false, bl_f (int_ne (by decide)), ?_⟩
      refine ⟨_, rfl, rfl, false, bl_f (int_ne (by decide)), ?_⟩
      refine ⟨_, rfl, rfl, false, bl_f (int_ne (by decide)), ?_⟩
      refine ⟨_, rfl, rfl, false, bl_f (int_ne (by decide)), ?_⟩
      refine ⟨_, rfl, rfl, false, bl_f (int_ne (by decide)), ?_⟩
      refine ⟨_, rfl, rfl, false, bl_f (int_ne (by decide)), ?_⟩
      refine ⟨_, rfl, rfl, false, bl_f (int_ne (by decide)), ?_⟩
      refine ⟨_, rfl, rfl, false, bl_f (int_ne (by decide)), ?_⟩
      exact ⟨_, rfl, mkE_one T.X_WrongSum.o T.nX_WrongSum fun p H' s he => k p _ _ H' s he (.inr (.inr (.inr (.inr (.inr (.inr (.inr (.inr (.inr (.inr (.inr (.inr (.inr (.inr (.inr (.inr (.inr ⟨rfl, rfl, rfl⟩)))))))))))))))))⟩
def sp__law_classes {K : PySem.W.Frag} {mg : Str → Option Value} (T : Txt K mg) : Sp := fun vs H Q _ => ∃ (p C : Addr) (fs : List (Str × V)) (b : Int → Bool), vs = [.ref p] ∧ ErrAt H p C fs ∧ ExcC K C ∧ KRow K (.ref C) (rowOf T b) ∧
  ∀ q H', Same H H' → H' q = some (.lst ((List.range 18).map fun (j : Nat) => V.bl (b (j : Int)))) → Q (.ref q) H'
theorem ok__law_classes (T : Txt K mg) : FnOk P w K mg base CX0 1 T.a__law_classes T.fd__law_classes ["made"] (sp__law_classes T) := by
  have S := sc__law_classes
  refine T.F__law_classes.ok S (fun vs H Q E h => ?_) (fun cdv A outer s H vs Q E hr h => ?_)
  · obtain ⟨p, C, fs, b, rfl, _⟩ := h
    rfl
  · obtain ⟨p, C, fs, b, rfl, he, hx, hrow, k⟩ := h
    have hr := hrow
    refine ⟨_, (pss_cons (ps_set (i := 1) S.nd rfl (Or.inl rfl) (pe_lst (pa_cons (pe_callB (id := "isinstance") call_isErr (by rfl) T.b_isinstance (by decide +kernel) (pa_cons (pv 0) (pa_cons (pe_glob (v := .ref T.c_InvalidNumber) rfl T.X_InvalidNumber.g rfl) pa_nil))) (pa_cons (pe_callB (id := "isinstance") call_isErr (by rfl) T.b_isinstance (by decide +kernel) (pa_cons (pv 0) (pa_cons (pe_glob (v := .ref T.c_InvalidSetting) rfl T.X_InvalidSetting.g rfl) pa_nil))) (pa_cons (pe_callB (id := "isinstance") call_isErr (by rfl) T.b_isinstance (by decide +kernel) (pa_cons (pv 0) (pa_cons (pe_glob (v := .ref T.c_InvalidSegment) rfl T.X_InvalidSegment.g rfl) pa_nil))) pa_nil)))))
      (pss_cons (ps_set (i := 1) S.nd rfl (Or.inl rfl) (pe_op op_cat (pv 1) (pe_lst (pa_cons (pe_callB (id := "isinstance") call_isErr (by rfl) T.b_isinstance (by decide +kernel) (pa_cons (pv 0) (pa_cons (pe_glob (v := .ref T.c_InvalidWords) rfl T.X_InvalidWords.g rfl) pa_nil))) (pa_cons (pe_callB (id := "isinstance") call_isErr (by rfl) T.b_isinstance (by decide +kernel) (pa_cons (pv 0) (pa_cons (pe_glob (v := .ref T.c_NotAllowed) rfl T.X_NotAllowed.g rfl) pa_nil))) (pa_cons (pe_callB (id := "isinstance") call_isErr (by rfl) T.b_isinstance (by decide +kernel) (pa_cons (pv 0) (pa_cons (pe_glob (v := .ref T.c_Broken) rfl T.X_Broken.g rfl) pa_nil))) pa_nil))))))
      (pss_cons (ps_set (i := 1) S.nd rfl (Or.inl rfl) (pe_op op_cat (pv 1) (pe_lst (pa_cons (pe_callB (id := "isinstance") call_isErr (by rfl) T.b_isinstance (by decide +kernel) (pa_cons (pv 0) (pa_cons (pe_glob (v := .ref T.c_NoConnection) rfl T.X_NoConnection.g rfl) pa_nil))) (pa_cons (pe_callB (id := "isinstance") call_isErr (by rfl) T.b_isinstance (by decide +kernel) (pa_cons (pv 0) (pa_cons (pe_glob (v := .ref T.c_NoListener) rfl T.X_NoListener.g rfl) pa_nil))) (pa_cons (pe_callB (id := "isinstance") call_isErr (by rfl) T.b_isinstance (by decide +kernel) (pa_cons (pv 0) (pa_cons (pe_glob (v := .ref T.c_PortTaken) rfl T.X_PortTaken.g rfl) pa_nil))) pa_nil))))))
      (pss_cons (ps_set (i := 1) S.nd rfl (Or.inl rfl) (pe_op op_cat (pv 1) (pe_lst (pa_cons (pe_callB (id := "isinstance") call_isErr (by rfl) T.b_isinstance (by decide +kernel) (pa_cons (pv 0) (pa_cons (pe_glob (v := .ref T.c_StationDown) rfl T.X_StationDown.g rfl) pa_nil))) (pa_cons (pe_callB (id := "isinstance") call_isErr (by rfl) T.b_isinstance (by decide +kernel) (pa_cons (pv 0) (pa_cons (pe_glob (v := .ref T.c_TooMany) rfl T.X_TooMany.g rfl) pa_nil))) (pa_cons (pe_callB (id := "isinstance") call_isErr (by rfl) T.b_isinstance (by decide +kernel) (pa_cons (pv 0) (pa_cons (pe_glob (v := .ref T.c_InvalidFate) rfl T.X_InvalidFate.g rfl) pa_nil))) pa_nil))))))
      (pss_cons (ps_set (i := 1) S.nd rfl (Or.inl rfl) (pe_op op_cat (pv 1) (pe_lst (pa_cons (pe_callB (id := "isinstance") call_isErr (by rfl) T.b_isinstance (by decide +kernel) (pa_cons (pv 0) (pa_cons (pe_glob (v := .ref T.c_InvalidTrace) rfl T.X_InvalidTrace.g rfl) pa_nil))) (pa_cons (pe_callB (id := "isinstance") call_isErr (by rfl) T.b_isinstance (by decide +kernel) (pa_cons (pv 0) (pa_cons (pe_glob (v := .ref T.c_InvalidDeed) rfl T.X_InvalidDeed.g rfl) pa_nil))) (pa_cons (pe_callB (id := "isinstance") call_isErr (by rfl) T.b_isinstance (by decide +kernel) (pa_cons (pv 0) (pa_cons (pe_glob (v := .ref T.c_NothingLeft) rfl T.X_NothingLeft.g rfl) pa_nil))) pa_nil))))))
      (pss_one (ps_ret (pe_op op_cat (pv 1) (pe_lst (pa_cons (pe_callB (id := "isinstance") call_isErr (by rfl) T.b_isinstance (by decide +kernel) (pa_cons (pv 0) (pa_cons (pe_glob (v := .ref T.c_Stopped) rfl T.X_Stopped.g rfl) pa_nil))) (pa_cons (pe_callB (id := "isinstance") call_isErr (by rfl) T.b_isinstance (by decide +kernel) (pa_cons (pv 0) (pa_cons (pe_glob (v := .ref T.c_InvalidLine) rfl T.X_InvalidLine.g rfl) pa_nil))) (pa_cons (pe_callB (id := "isinstance") call_isErr (by rfl) T.b_isinstance (by decide +kernel) (pa_cons (pv 0) (pa_cons (pe_glob (v := .ref T.c_WrongSum) rfl T.X_WrongSum.g rfl) pa_nil))) pa_nil)))))))))))), ?_⟩
    refine ⟨_, rfl, p, C, fs, _, _, b 0, rfl, he, (fun _ r => r), hx, hr.at 0 _ _ rfl, _, rfl, p, C, fs, _, _, b 1, rfl, he, (fun _ r => r), hx, hr.at 1 _ _ rfl, _, rfl, p, C, fs, _, _, b 2, rfl, he, (fun _ r => r), hx, hr.at 2 _ _ rfl, ?_⟩
    refine ⟨(by show 3 ≤ sizeLine; decide), fun q hq => ?_⟩
    have s := Same.new (o := .lst [.bl (b 0), .bl (b 1), .bl (b 2)]) hq
    have he := he.same s
    have hL : (upd H q (.lst [.bl (b 0), .bl (b 1), .bl (b 2)])) q = some (.lst [.bl (b 0), .bl (b 1), .bl (b 2)]) := upd_same
    generalize upd H q (.lst [.bl (b 0), .bl (b 1), .bl (b 2)]) = H1 at s he hL
    refine ⟨_, rfl, _, rfl, p, C, fs, _, _, b 3, rfl, he, (fun _ r => r), hx, hr.at 3 _ _ rfl, _, rfl, p, C, fs, _, _, b 4, rfl, he, (fun _ r => r), hx, hr.at 4 _ _ rfl, _, rfl, p, C, fs, _, _, b 5, rfl, he, (fun _ r => r), hx, hr.at 5 _ _ rfl, ?_⟩
    refine ⟨(by show 3 ≤ sizeLine; decide), fun r hr1 => ?_⟩
    refine ⟨q, r, _, _, rfl, rfl, Same.new hr1 _ _ hL, upd_same, (by show 6 ≤ sizeLine; decide), fun q2 hq2 => ?_⟩
    have s := (s.trans (Same.new (o := .lst [.bl (b 3), .bl (b 4), .bl (b 5)]) hr1)).trans (Same.new (o := .lst ([.bl (b 0), .bl (b 1), .bl (b 2)] ++ [.bl (b 3), .bl (b 4), .bl (b 5)])) hq2)
    have he := (he.same (Same.new (o := .lst [.bl (b 3), .bl (b 4), .bl (b 5)]) hr1)).same (Same.new (o := .lst ([.bl (b 0), .bl (b 1), .bl (b 2)] ++ [.bl (b 3), .bl (b 4), .bl (b 5)])) hq2)
    have hL : (upd (upd H1 r (.lst [.bl (b 3), .bl (b 4), .bl (b 5)])) q2 (.lst ([.bl (b 0), .bl (b 1), .bl (b 2)] ++ [.bl (b 3), .bl (b 4), .bl (b 5)]))) q2 = some (.lst [.bl (b 0), .bl (b 1), .bl (b 2), .bl (b 3), .bl (b 4), .bl (b 5)]) := upd_same
    generalize upd (upd H1 r (.lst [.bl (b 3), .bl (b 4), .bl (b 5)])) q2 (.lst ([.bl (b 0), .bl (b 1), .bl (b 2)] ++ [.bl (b 3), .bl (b 4), .bl (b 5)])) = H2 at s he hL
    clear hq2 hr1
    clear r
    generalize q2 = q at hL
    refine ⟨_, rfl, _, rfl, p, C, fs, _, _, b 6, rfl, he, (fun _ r => r), hx, hr.at 6 _ _ rfl, _, rfl, p, C, fs, _, _, b 7, rfl, he, (fun _ r => r), hx, hr.at 7 _ _ rfl, _, rfl, p, C, fs, _, _, b 8, rfl, he, (fun _ r => r), hx, hr.at 8 _ _ rfl, ?_⟩
    refine ⟨(by show 3 ≤ sizeLine; decide), fun r hr1 => ?_⟩
    refine ⟨q, r, _, _, rfl, rfl, Same.new hr1 _ _ hL, upd_same, (by show 9 ≤ sizeLine; decide), fun q2 hq2 => ?_⟩
    have s := (s.trans (Same.new (o := .lst [.bl (b 6), .bl (b 7), .bl (b 8)]) hr1)).trans (Same.new (o := .lst ([.bl (b 0), .bl (b 1), .bl (b 2), .bl (b 3), .bl (b 4), .bl (b 5)] ++ [.bl (b 6), .bl (b 7), .bl (b 8)])) hq2)
    have he := (he.same (Same.new (o := .lst [.bl (b 6), .bl (b 7), .bl (b 8)]) hr1)).same (Same.new (o := .lst ([.bl (b 0), .bl (b 1), .bl (b 2), .bl (b 3), .bl (b 4), .bl (b 5)] ++ [.bl (b 6), .bl (b 7), .bl (b 8)])) hq2)
    have hL : (upd (upd H2 r (.lst [.bl (b 6), .bl (b 7), .bl (b 8)])) q2 (.lst ([.bl (b 0), .bl (b 1), .bl (b 2), .bl (b 3), .bl (b 4), .bl (b 5)] ++ [.bl (b 6), .bl (b 7), .bl (b 8)]))) q2 = some (.lst [.bl (b 0), .bl (b 1), .bl (b 2), .bl (b 3), .bl (b 4), .bl (b 5), .bl (b 6), .bl (b 7), .bl (b 8)]) := upd_same
    generalize upd (upd H2 r (.lst [.bl (b 6), .bl (b 7), .bl (b 8)])) q2 (.lst ([.bl (b 0), .bl (b 1), .bl (b 2), .bl (b 3), .bl (b 4), .bl (b 5)] ++ [.bl (b 6), .bl (b 7), .bl (b 8)])) = H3 at s he hL
    clear hq2 hr1
    clear r
    generalize q2 = q at hL
    refine ⟨_, rfl, _, rfl, p, C, fs, _, _, b 9, rfl, he, (fun _ r => r), hx, hr.at 9 _ _ rfl, _, rfl, p, C, fs, _, _, b 10, rfl, he, (fun _ r => r), hx, hr.at 10 _ _ rfl, _, rfl, p, C, fs, _, _, b 11, rfl, he, (fun _ r => r), hx, hr.at 11 _ _ rfl, ?_⟩
    refine ⟨(by show 3 ≤ sizeLine; decide), fun r hr1 => ?_⟩
    refine ⟨q, r, _, _, rfl, rfl, Same.new hr1 _ _ hL, upd_same, (by show 12 ≤ sizeLine; decide), fun q2 hq2 => ?_⟩
    have s := (s.trans (Same.new (o := .lst [.bl (b 9), .bl (b 10), .bl (b 11)]) hr1)).trans (Same.new (o := .lst ([.bl (b 0), .bl (b 1), .bl (b 2), .bl (b 3), .bl (b 4), .bl (b 5), .bl (b 6), .bl (b 7), .bl (b 8)] ++ [.bl (b 9), .bl (b 10), .bl (b 11)])) hq2)
    have he := (he.same (Same.new (o := .lst [.bl (b 9), .bl (b 10), .bl (b 11)]) hr1)).same (Same.new (o := .lst ([.bl (b 0), .bl (b 1), .bl (b 2), .bl (b 3), .bl (b 4), .bl (b 5), .bl (b 6), .bl (b 7), .bl (b 8)] ++ [.bl (b 9), .bl (b 10), .bl (b 11)])) hq2)
    have hL : (upd (upd H3 r (.lst [.bl (b 9), .bl (b 10), .bl (b 11)])) q2 (.lst ([.bl (b 0), .bl (b 1), .bl (b 2), .bl (b 3), .bl (b 4), .bl (b 5), .bl (b 6), .bl (b 7), .bl (b 8)] ++ [.bl (b 9), .bl (b 10), .bl (b 11)]))) q2 = some (.lst [.bl (b 0), .bl (b 1), .bl (b 2), .bl (b 3), .bl (b 4), .bl (b 5), .bl (b 6), .bl (b 7), .bl (b 8), .bl (b 9), .bl (b 10), .bl (b 11)]) := upd_same
    generalize upd (upd H3 r (.lst [.bl (b 9), .bl (b 10), .bl (b 11)])) q2 (.lst ([.bl (b 0), .bl (b 1), .bl (b 2), .bl (b 3), .bl (b 4), .bl (b 5), .bl (b 6), .bl (b 7), .bl (b 8)] ++ [.bl (b 9), .bl (b 10), .bl (b 11)])) = H4 at s he hL
    clear hq2 hr1
    clear r
    generalize q2 = q at hL
    refine ⟨_, rfl, _, rfl, p, C, fs, _, _, b 12, rfl, he, (fun _ r => r), hx, hr.at 12 _ _ rfl, _, rfl, p, C, fs, _, _, b 13, rfl, he, (fun _ r => r), hx, hr.at 13 _ _ rfl, _, rfl, p, C, fs, _, _, b 14, rfl, he, (fun _ r => r), hx, hr.at 14 _ _ rfl, ?_⟩
    refine ⟨(by show 3 ≤ sizeLine; decide), fun r hr1 => ?_⟩
    refine ⟨q, r, _, _, rfl, rfl, Same.new hr1 _ _ hL, upd_same, (by show 15 ≤ sizeLine; decide), fun q2 hq2 => ?_⟩
    have s := (s.trans (Same.new (o := .lst [.bl (b 12), .bl (b 13), .bl (b 14)]) hr1)).trans (Same.new (o := .lst ([.bl (b 0), .bl (b 1), .bl (b 2), .bl (b 3), .bl (b 4), .bl (b 5), .bl (b 6), .bl (b 7), .bl (b 8), .bl (b 9), .bl (b 10), .bl (b 11)] ++ [.bl (b 12), .bl (b 13), .bl (b 14)])) hq2)
    have he := (he.same (Same.new (o := .lst [.bl (b 12), .bl (b 13), .bl (b 14)]) hr1)).same (Same.new (o := .lst ([.bl (b 0), .bl (b 1), .bl (b 2), .bl (b 3), .bl (b 4), .bl (b 5), .bl (b 6), .bl (b 7), .bl (b 8), .bl (b 9), .bl (b 10), .bl (b 11)] ++ [.bl (b 12), .bl (b 13), .bl (b 14)])) hq2)
    have hL : (upd (upd H4 r (.lst [.bl (b 12), .bl (b 13), .bl (b 14)])) q2 (.lst ([.bl (b 0), .bl (b 1), .bl (b 2), .bl (b 3), .bl (b 4), .bl (b 5), .bl (b 6), .bl (b 7), .bl (b 8), .bl (b 9), .bl (b 10), .bl (b 11)] ++ [.bl (b 12), .bl (b 13), .bl (b 14)]))) q2 = some (.lst [.bl (b 0), .bl (b 1), .bl (b 2), .bl (b 3), .bl (b 4), .bl (b 5), .bl (b 6), .bl (b 7), .bl (b 8), .bl (b 9), .bl (b 10), .bl (b 11), .bl (b 12), .bl (b 13), .bl (b 14)]) := upd_same
    generalize upd (upd H4 r (.lst [.bl (b 12), .bl (b 13), .bl (b 14)])) q2 (.lst ([.bl (b 0), .bl (b 1), .bl (b 2), .bl (b 3), .bl (b 4), .bl (b 5), .bl (b 6), .bl (b 7), .bl (b 8), .bl (b 9), .bl (b 10), .bl (b 11)] ++ [.bl (b 12), .bl (b 13), .bl (b 14)])) = H5 at s he hL
    clear hq2 hr1
    clear r
    generalize q2 = q at hL
    refine ⟨_, rfl, _, rfl, p, C, fs, _, _, b 15, rfl, he, (fun _ r => r), hx, hr.at 15 _ _ rfl, _, rfl, p, C, fs, _, _, b 16, rfl, he, (fun _ r => r), hx, hr.at 16 _ _ rfl, _, rfl, p, C, fs, _, _, b 17, rfl, he, (fun _ r => r), hx, hr.at 17 _ _ rfl, ?_⟩
    refine ⟨(by show 3 ≤ sizeLine; decide), fun r hr1 => ?_⟩
    refine ⟨q, r, _, _, rfl, rfl, Same.new hr1 _ _ hL, upd_same, (by show 18 ≤ sizeLine; decide), fun q2 hq2 => ?_⟩
    exact k q2 _ ((s.trans (Same.new hr1)).trans (Same.new hq2)) upd_same
/-! ### what the errors keep -/
def sp__law_numbers {K : PySem.W.Frag} {mg : Str → Option Value} (T : Txt K mg) : Sp := fun vs H Q _ => ∃ (p C : Addr) (fs : List (Str × V)) (w a : Int) (t : Str), vs = [.ref p, .int w] ∧ ErrAt H p C fs ∧ Kept T H w a t C fs ∧
  (w ≠ 1 ∧ w ≠ 2 ∧ w ≠ 4 ∧ w ≠ 5 ∧ w ≠ 9 ∧ w ≠ 13 ∧ w ≠ 14) ∧ ∀ q l H', Same H H' → H' q = some (.lst l) → (∀ x ∈ l, x = V.int a) → Q (.ref q) H'
theorem ok__law_numbers (T : Txt K mg) : FnOk P w K mg base CX0 1 T.a__law_numbers T.fd__law_numbers ["made", "which"] (sp__law_numbers T) := by
  have S := sc__law_numbers
  refine T.F__law_numbers.ok S (fun vs H Q E h => ?_) (fun cdv A outer s H vs Q E hr h => ?_)
  · obtain ⟨p, C, fs, w, a, t, rfl, _⟩ := h
    rfl
  · obtain ⟨p, C, fs, w, a, t, rfl, he, kp, ⟨n1, n2, n4, n5, n9, n13, n14⟩, k⟩ := h
    have one : ∀ {H1 : Hp}, Same H H1 → [V.int a].length ≤ sizeLine ∧ ∀ q, H1 q = none → Q (.ref q) (upd H1 q (.lst [V.int a])) := fun {H1} s => ⟨(by show 1 ≤ sizeLine; decide), fun q hq => k q _ _ (s.trans (Same.new hq)) upd_same fun x hx => by
      rcases List.mem_cons.mp hx with z | z
      · exact z
      · exact (List.not_mem_nil z).elim⟩
    refine ⟨_, (pss_cons (ps_if (pt_cmpR op_eq (pv 1) pe_int (nomark _)) (pss_one (ps_ret (pe_lst (pa_cons (pe_errf (pv 0)) pa_nil)))) pss_nil)
      (pss_cons (ps_if (pt_cmpR op_eq (pv 1) pe_int (nomark _)) (pss_one (ps_ret (pe_lst (pa_cons (pe_errf (pv 0)) pa_nil)))) pss_nil)
      (pss_cons (ps_if (PW.pt (pw_or (pt_cmpR op_eq (pv 1) pe_int (nomark _)) (pw_or1 (pt_cmpR op_eq (pv 1) pe_int (nomark _))))) (pss_one (ps_ret (pe_lst (pa_cons (pe_errf (pv 0)) pa_nil)))) pss_nil)
      (pss_cons (ps_if (pt_cmpR op_eq (pv 1) pe_int (nomark _)) (pss_one (ps_ret (pe_lst (pa_cons (pe_errf (pv 0)) pa_nil)))) pss_nil)
      (pss_cons (ps_if (pt_cmpR op_eq (pv 1) pe_int (nomark _)) (pss_one (ps_ret (pe_lst (pa_cons (pe_errf (pv 0)) (pa_cons (pe_op op_sub (pe_errf (pv 0)) pe_int) pa_nil))))) pss_nil)
      (pss_cons (ps_if (pt_cmpR op_eq (pv 1) pe_int (nomark _)) (pss_one (ps_ret (pe_lst (pa_cons (pe_errf (pv 0)) pa_nil)))) pss_nil)
      (pss_one (ps_ret (pe_lst (pa_cons (pe_errf (pv 0)) pa_nil)))))))))), ?_⟩
    rcases kp with ⟨e1, rfl, rfl⟩ | ⟨e1, rfl, rfl⟩ | ⟨e1, rfl, rfl⟩ | ⟨e1, rfl, rfl⟩ | ⟨e1, rfl, rfl⟩ | ⟨e1, rfl, rfl⟩ | ⟨e1, rfl, rfl⟩ | ⟨e1, rfl, rfl⟩ | ⟨e1, rfl, rfl⟩ | ⟨e1, rfl, rfl⟩ | ⟨e1, rfl, rfl⟩ | ⟨e1, rfl, rfl⟩ | ⟨e1, rfl, rfl⟩ | ⟨e1, rfl, q, rfl, hq⟩ | ⟨e1, rfl, rfl⟩ | ⟨e1, rfl, rfl⟩ | ⟨e1, rfl, rfl⟩ | ⟨e1, rfl, rfl⟩
    · refine ⟨_, rfl, rfl, true, bl_t (int_eq e1), ?_⟩
      exact ⟨_, rfl, p, _, _, _, rfl, he, T.X_InvalidNumber.x, T.nX_InvalidNumber, rfl, one fun _ _ z => z⟩
    · exact (n1 e1).elim
    · exact (n2 e1).elim
    · refine ⟨_, rfl, rfl, false, bl_f (int_ne (by omega)), ?_⟩
      refine ⟨_, rfl, rfl, false, bl_f (int_ne (by omega)), ?_⟩
      refine ⟨_, rfl, rfl, false, bl_f (int_ne (by omega)), _, rfl, rfl, false, bl_f (int_ne (by omega)), ?_⟩
      refine ⟨_, rfl, rfl, false, bl_f (int_ne (by omega)), ?_⟩
      refine ⟨_, rfl, rfl, false, bl_f (int_ne (by omega)), ?_⟩
      refine ⟨_, rfl, rfl, false, bl_f (int_ne (by omega)), ?_⟩
      exact ⟨_, rfl, p, _, _, _, rfl, he, T.X_InvalidWords.x, T.nX_InvalidWords, rfl, one fun _ _ z => z⟩
    · exact (n4 e1).elim
    · exact (n5 e1).elim
    · refine ⟨_, rfl, rfl, false, bl_f (int_ne (by omega)), ?_⟩
      refine ⟨_, rfl, rfl, true, bl_t (int_eq e1), ?_⟩
      exact ⟨_, rfl, p, _, _, _, rfl, he, T.X_NoConnection.x, T.nX_NoConnection, rfl, one fun _ _ z => z⟩
    · refine ⟨_, rfl, rfl, false, bl_f (int_ne (by omega)), ?_⟩
      refine ⟨_, rfl, rfl, false, bl_f (int_ne (by omega)), ?_⟩
      refine ⟨_, rfl, rfl, true, bl_t (int_eq e1), ?_⟩
      exact ⟨_, rfl, p, _, _, _, rfl, he, T.X_NoListener.x, T.nX_NoListener, rfl, one fun _ _ z => z⟩
    · refine ⟨_, rfl, rfl, false, bl_f (int_ne (by omega)), ?_⟩
      refine ⟨_, rfl, rfl, false, bl_f (int_ne (by omega)), ?_⟩
      refine ⟨_, rfl, rfl, false, bl_f (int_ne (by omega)), _, rfl, rfl, true, bl_t (int_eq e1), ?_⟩
      exact ⟨_, rfl, p, _, _, _, rfl, he, T.X_PortTaken.x, T.nX_PortTaken, rfl, one fun _ _ z => z⟩
    · exact (n9 e1).elim
    · refine ⟨_, rfl, rfl, false, bl_f (int_ne (by omega)), ?_⟩
      refine ⟨_, rfl, rfl, false, bl_f (int_ne (by omega)), ?_⟩
      refine ⟨_, rfl, rfl, false, bl_f (int_ne (by omega)), _, rfl, rfl, false, bl_f (int_ne (by omega)), ?_⟩
      refine ⟨_, rfl, rfl, true, bl_t (int_eq e1), ?_⟩
      exact ⟨_, rfl, p, _, _, _, rfl, he, T.X_TooMany.x, T.nX_TooMany, rfl, one fun _ _ z => z⟩
    · refine ⟨_, rfl, rfl, false, bl_f (int_ne (by omega)), ?_⟩
      refine ⟨_, rfl, rfl, false, bl_f (int_ne (by omega)), ?_⟩
      refine ⟨_, rfl, rfl, false, bl_f (int_ne (by omega)), _, rfl, rfl, false, bl_f (int_ne (by omega)), ?_⟩
      refine ⟨_, rfl, rfl, false, bl_f (int_ne (by omega)), ?_⟩
      refine ⟨_, rfl, rfl, true, bl_t (int_eq e1), ?_⟩
      refine ⟨_, rfl, p, _, _, _, rfl, he, T.X_InvalidFate.x, T.nX_InvalidFate_side, rfl, ?_⟩
      refine ⟨_, rfl, p, _, _, _, rfl, he, T.X_InvalidFate.x, T.nX_InvalidFate_place, rfl, _, _, rfl, rfl, (by show 2 ≤ sizeLine; decide), fun q hq => k q _ _ (Same.new hq) upd_same fun x hx => ?_⟩
      rcases List.mem_cons.mp hx with z | z
      · exact z
      · rcases List.mem_cons.mp z with z | z
        · rw [z]
          exact congrArg V.int (by omega)
        · exact (List.not_mem_nil z).elim
    · refine ⟨_, rfl, rfl, false, bl_f (int_ne (by omega)), ?_⟩
      refine ⟨_, rfl, rfl, false, bl_f (int_ne (by omega)), ?_⟩
      refine ⟨_, rfl, rfl, false, bl_f (int_ne (by omega)), _, rfl, rfl, false, bl_f (int_ne (by omega)), ?_⟩
      refine ⟨_, rfl, rfl, false, bl_f (int_ne (by omega)), ?_⟩
      refine ⟨_, rfl, rfl, false, bl_f (int_ne (by omega)), ?_⟩
      refine ⟨_, rfl, rfl, false, bl_f (int_ne (by omega)), ?_⟩
      exact ⟨_, rfl, p, _, _, _, rfl, he, T.X_InvalidTrace.x, T.nX_InvalidTrace, rfl, one fun _ _ z => z⟩
    · exact (n13 e1).elim
    · exact (n14 e1).elim
    · refine ⟨_, rfl, rfl, false, bl_f (int_ne (by omega)), ?_⟩
      refine ⟨_, rfl, rfl, false, bl_f (int_ne (by omega)), ?_⟩
      refine ⟨_, rfl, rfl, false, bl_f (int_ne (by omega)), _, rfl, rfl, false, bl_f (int_ne (by omega)), ?_⟩
      refine ⟨_, rfl, rfl, false, bl_f (int_ne (by omega)), ?_⟩
      refine ⟨_, rfl, rfl, false, bl_f (int_ne (by omega)), ?_⟩
      refine ⟨_, rfl, rfl, false, bl_f (int_ne (by omega)), ?_⟩
      exact ⟨_, rfl, p, _, _, _, rfl, he, T.X_Stopped.x, T.nX_Stopped, rfl, one fun _ _ z => z⟩
    · refine ⟨_, rfl, rfl, false, bl_f (int_ne (by omega)), ?_⟩
      refine ⟨_, rfl, rfl, false, bl_f (int_ne (by omega)), ?_⟩
      refine ⟨_, rfl, rfl, false, bl_f (int_ne (by omega)), _, rfl, rfl, false, bl_f (int_ne (by omega)), ?_⟩
      refine ⟨_, rfl, rfl, false, bl_f (int_ne (by omega)), ?_⟩
      refine ⟨_, rfl, rfl, false, bl_f (int_ne (by omega)), ?_⟩
      refine ⟨_, rfl, rfl, true, bl_t (int_eq e1), ?_⟩
      exact ⟨_, rfl, p, _, _, _, rfl, he, T.X_InvalidLine.x, T.nX_InvalidLine, rfl, one fun _ _ z => z⟩
    · refine ⟨_, rfl, rfl, false, bl_f (int_ne (by omega)), ?_⟩
      refine ⟨_, rfl, rfl, false, bl_f (int_ne (by omega)), ?_⟩
      refine ⟨_, rfl, rfl, false, bl_f (int_ne (by omega)), _, rfl, rfl, false, bl_f (int_ne (by omega)), ?_⟩
      refine ⟨_, rfl, rfl, false, bl_f (int_ne (by omega)), ?_⟩
      refine ⟨_, rfl, rfl, false, bl_f (int_ne (by omega)), ?_⟩
      refine ⟨_, rfl, rfl, false, bl_f (int_ne (by omega)), ?_⟩
      exact ⟨_, rfl, p, _, _, _, rfl, he, T.X_WrongSum.x, T.nX_WrongSum, rfl, one fun _ _ z => z⟩
def sp__law_string {K : PySem.W.Frag} {mg : Str → Option Value} (T : Txt K mg) : Sp := fun vs H Q _ => ∃ (p C : Addr) (fs : List (Str × V)) (w a : Int) (t : Str), vs = [.ref p, .int w] ∧ ErrAt H p C fs ∧ Kept T H w a t C fs ∧ (w = 1 ∨ w = 2 ∨ w = 4 ∨ w = 5) ∧ Q (.str t) H
theorem ok__law_string (T : Txt K mg) : FnOk P w K mg base CX0 1 T.a__law_string T.fd__law_string ["made", "which"] (sp__law_string T) := by
  have S := sc__law_string
  refine T.F__law_string.ok S (fun vs H Q E h => ?_) (fun cdv A outer s H vs Q E hr h => ?_)
  · obtain ⟨p, C, fs, w, a, t, rfl, _⟩ := h
    rfl
  · obtain ⟨p, C, fs, w, a, t, rfl, he, kp, hw, k⟩ := h
    refine ⟨_, (pss_cons (ps_if (pt_cmpR op_eq (pv 1) pe_int (nomark _)) (pss_one (ps_ret (pe_errf (pv 0)))) pss_nil)
      (pss_cons (ps_if (pt_cmpR op_eq (pv 1) pe_int (nomark _)) (pss_one (ps_ret (pe_errf (pv 0)))) pss_nil)
      (pss_cons (ps_if (pt_cmpR op_eq (pv 1) pe_int (nomark _)) (pss_one (ps_ret (pe_errf (pv 0)))) pss_nil)
      (pss_one (ps_ret (pe_errf (pv 0))))))), ?_⟩
    rcases kp with ⟨e1, rfl, rfl⟩ | ⟨e1, rfl, rfl⟩ | ⟨e1, rfl, rfl⟩ | ⟨e1, rfl, rfl⟩ | ⟨e1, rfl, rfl⟩ | ⟨e1, rfl, rfl⟩ | ⟨e1, rfl, rfl⟩ | ⟨e1, rfl, rfl⟩ | ⟨e1, rfl, rfl⟩ | ⟨e1, rfl, rfl⟩ | ⟨e1, rfl, rfl⟩ | ⟨e1, rfl, rfl⟩ | ⟨e1, rfl, rfl⟩ | ⟨e1, rfl, q, rfl, hq⟩ | ⟨e1, rfl, rfl⟩ | ⟨e1, rfl, rfl⟩ | ⟨e1, rfl, rfl⟩ | ⟨e1, rfl, rfl⟩
    · exact absurd hw (by omega)
    · refine ⟨_, rfl, rfl, true, bl_t (int_eq e1), ?_⟩
      exact ⟨_, rfl, p, _, _, _, rfl, he, T.X_InvalidSetting.x, T.nX_InvalidSetting, rfl, k⟩
    · refine ⟨_, rfl, rfl, false, bl_f (int_ne (by omega)), ?_⟩
      refine ⟨_, rfl, rfl, true, bl_t (int_eq e1), ?_⟩
      exact ⟨_, rfl, p, _, _, _, rfl, he, T.X_InvalidSegment.x, T.nX_InvalidSegment, rfl, k⟩
    · exact absurd hw (by omega)
    · refine ⟨_, rfl, rfl, false, bl_f (int_ne (by omega)), ?_⟩
      refine ⟨_, rfl, rfl, false, bl_f (int_ne (by omega)), ?_⟩
      refine ⟨_, rfl, rfl, true, bl_t (int_eq e1), ?_⟩
      exact ⟨_, rfl, p, _, _, _, rfl, he, T.X_NotAllowed.x, T.nX_NotAllowed, rfl, k⟩
    · refine ⟨_, rfl, rfl, false, bl_f (int_ne (by omega)), ?_⟩
      refine ⟨_, rfl, rfl, false, bl_f (int_ne (by omega)), ?_⟩
      refine ⟨_, rfl, rfl, false, bl_f (int_ne (by omega)), ?_⟩
      exact ⟨_, rfl, p, _, _, _, rfl, he, T.X_Broken.x, T.nX_Broken, rfl, k⟩
    · exact absurd hw (by omega)
    · exact absurd hw (by omega)
    · exact absurd hw (by omega)
    · exact absurd hw (by omega)
    · exact absurd hw (by omega)
    · exact absurd hw (by omega)
    · exact absurd hw (by omega)
    · exact absurd hw (by omega)
    · exact absurd hw (by omega)
    · exact absurd hw (by omega)
    · exact absurd hw (by omega)
    · exact absurd hw (by omega)
def sp__law_keeps {K : PySem.W.Frag} {mg : Str → Option Value} (T : Txt K mg) : Sp := fun vs H Q _ => ∃ (p C : Addr) (fs : List (Str × V)) (w a : Int) (t : Str), vs = [.ref p, .int w, .int a, .str t] ∧ 0 ≤ w ∧ w < 18 ∧ ErrAt H p C fs ∧ Kept T H w a t C fs ∧ ∀ H', Same H H' → Q (.bl true) H'
theorem dp_tick {K : PySem.W.Frag} {H : Hp} {q : Addr} {a : Int} (h : H q = some (.tup [.str "tick", .int a])) : Dp K H (.ref q) (.tuple [.str "tick", .int a]) := .tup (SqT.of h) (.cons (.str _) (.cons (.int a) .nil))
theorem tick_shaped (a : Int) : PySem.SeqAt.shaped (.tuple [.str "tick", .int a]) = true := by
  unfold PySem.SeqAt.shaped
  have e : PyData.strOk (Str.ofString "tick") = true := by decide +kernel
  simp only [PyData.canLay0, PyData.canLayAll0, PyData.depth, PyData.depthAll, e]
  rfl
theorem ok__law_keeps (T : Txt K mg) : FnOk P w K mg base CX0 2 T.a__law_keeps T.fd__law_keeps ["made", "which", "amount", "text"] (sp__law_keeps T) := by
  have S := sc__law_keeps
  refine T.F__law_keeps.ok S (fun vs H Q E h => ?_) (fun cdv A outer s H vs Q E hr h => ?_)
  · obtain ⟨p, C, fs, w, a, t, rfl, _⟩ := h
    rfl
  · obtain ⟨p, C, fs, w, a, t, rfl, w0, w1, he, kp, k⟩ := h
    refine ⟨_, (pss_cons (ps_if (PW.pt (pw_or (pt_cmpR op_eq (pv 1) pe_int (nomark _)) (pw_or1 (pt_cmpR op_eq (pv 1) pe_int (nomark _))))) (pss_one (ps_ret pe_bl)) pss_nil)
      (pss_cons (ps_if (pt_cmpR op_eq (pv 1) pe_int (nomark _)) (pss_one (ps_ret (pe_and (pe_callB (id := "isinstance") call_isi (by rfl) T.b_isinstance (by decide +kernel) (pa_cons (pe_errf (pv 0)) (pa_cons (pe_bltn (v := .ty "tuple") (u := .type "tuple") (by rfl) T.b_tuple (by decide +kernel) rfl) pa_nil))) (pe_one (pe_cmpR (op_eqD hr.units) (pe_errf (pv 0)) (pe_tup (pa_cons pe_str (pa_cons (pv 2) pa_nil))) (nomark _)))))) pss_nil)
      (pss_cons (ps_if (PW.pt (pw_or (pt_cmpR op_eq (pv 1) pe_int (nomark _)) (pw_or (pt_cmpR op_eq (pv 1) pe_int (nomark _)) (pw_or (pt_cmpR op_eq (pv 1) pe_int (nomark _)) (pw_or1 (pt_cmpR op_eq (pv 1) pe_int (nomark _))))))) (pss_one (ps_ret (pe_and (pe_callB (id := "isinstance") call_isi (by rfl) T.b_isinstance (by decide +kernel) (pa_cons (pe_call (ok__law_string T) (hr.mono (by decide)) rfl T.g__law_string T.F__law_string.kp T.B__law_string .nil pass0 (pa_cons (pv 0) (pa_cons (pv 1) pa_nil))) (pa_cons (pe_bltn (v := .ty "str") (u := .type "str") (by rfl) T.b_str (by decide +kernel) rfl) pa_nil))) (pe_one (pe_cmpR op_eq (pe_call (ok__law_string T) (hr.mono (by decide)) rfl T.g__law_string T.F__law_string.kp T.B__law_string .nil pass0 (pa_cons (pv 0) (pa_cons (pv 1) pa_nil))) (pv 3) (nomark _)))))) pss_nil)
      (pss_cons (ps_for PassesOwn.never rfl (pi_list (pe_call (ok__law_numbers T) (hr.mono (by decide)) rfl T.g__law_numbers T.F__law_numbers.kp T.B__law_numbers .nil pass0 (pa_cons (pv 0) (pa_cons (pv 1) pa_nil)))) (pg_name (i := 4) S.nd rfl (Or.inl rfl)) (pss_one (ps_if (pt_not (pt_val (pe_call (ok__law_is T) (hr.mono (by decide)) rfl T.g__law_is T.F__law_is.kp T.B__law_is .nil pass0 (pa_cons (pv 4) (pa_cons (pv 2) pa_nil))))) (pss_one (ps_ret pe_bl)) pss_nil)))
      (pss_one (ps_ret pe_bl)))))), ?_⟩
    by_cases h9 : w = 9
    · exact ⟨_, rfl, rfl, true, bl_t (int_eq h9), k _ fun _ _ z => z⟩
    by_cases h14 : w = 14
    · exact ⟨_, rfl, rfl, false, bl_f (int_ne h9), _, rfl, rfl, true, bl_t (int_eq h14), k _ fun _ _ z => z⟩
    refine ⟨_, rfl, rfl, false, bl_f (int_ne h9), _, rfl, rfl, false, bl_f (int_ne h14), ?_⟩
    by_cases h13 : w = 13
    · refine ⟨_, rfl, rfl, true, bl_t (int_eq h13), ?_⟩
      have hd : C = T.c_InvalidDeed ∧ ∃ q, fs = ([("deed", .ref q)] : List (Str × V)) ∧ H q = some (.tup [.str "tick", .int a]) := by
        rcases kp with ⟨e1, _, _⟩ | ⟨e1, _, _⟩ | ⟨e1, _, _⟩ | ⟨e1, _, _⟩ | ⟨e1, _, _⟩ | ⟨e1, _, _⟩ | ⟨e1, _, _⟩ | ⟨e1, _, _⟩ | ⟨e1, _, _⟩ | ⟨e1, _, _⟩ | ⟨e1, _, _⟩ | ⟨e1, _, _⟩ | ⟨e1, _, _⟩ | ⟨e1, rfl, q, rfl, hq⟩ | ⟨e1, _, _⟩ | ⟨e1, _, _⟩ | ⟨e1, _, _⟩ | ⟨e1, _, _⟩
        · exact absurd (e1.symm.trans h13) (by decide)
        · exact absurd (e1.symm.trans h13) (by decide)
        · exact absurd (e1.symm.trans h13) (by decide)
        · exact absurd (e1.symm.trans h13) (by decide)
        · exact absurd (e1.symm.trans h13) (by decide)
        · exact absurd (e1.symm.trans h13) (by decide)
        · exact absurd (e1.symm.trans h13) (by decide)
        · exact absurd (e1.symm.trans h13) (by decide)
        · exact absurd (e1.symm.trans h13) (by decide)
        · exact absurd (e1.symm.trans h13) (by decide)
        · exact absurd (e1.symm.trans h13) (by decide)
        · exact absurd (e1.symm.trans h13) (by decide)
        · exact absurd (e1.symm.trans h13) (by decide)
        · exact ⟨rfl, q, rfl, hq⟩
        · exact absurd (e1.symm.trans h13) (by decide)
        · exact absurd (e1.symm.trans h13) (by decide)
        · exact absurd (e1.symm.trans h13) (by decide)
        · exact absurd (e1.symm.trans h13) (by decide)
      obtain ⟨rfl, q, rfl, hq⟩ := hd
      refine ⟨_, rfl, p, _, _, _, rfl, he, T.X_InvalidDeed.x, T.nX_InvalidDeed, rfl, ?_⟩
      refine ⟨_, _, _, _, true, rfl, .ty _, .base (.tup hq), kit_ty (by decide +kernel), true, rfl, iteT ?_⟩
      refine ⟨_, rfl, p, _, _, _, rfl, he, T.X_InvalidDeed.x, T.nX_InvalidDeed, rfl, ?_⟩
      refine ⟨_, rfl, (by show 2 ≤ sizeLine; decide), fun r hr1 => ?_⟩
      refine ⟨_, _, dp_tick (Same.new hr1 _ _ hq), dp_tick upd_same, tick_shaped a, tick_shaped a, ?_⟩
      rw [PySem.SeqAt.eqv_refl _ (PySem.SeqAt.canLay_of_shaped (tick_shaped a))]
      exact k _ (Same.new hr1)
    refine ⟨_, rfl, rfl, false, bl_f (int_ne h13), ?_⟩
    by_cases hs : w = 1 ∨ w = 2 ∨ w = 4 ∨ w = 5
    · rcases hs with e | e | e | e
      · refine ⟨_, rfl, rfl, true, bl_t (int_eq e), ?_⟩
        refine ⟨_, rfl, _, rfl, p, C, fs, w, a, t, rfl, he, kp, (by omega), _, _, _, _, true, rfl, .ty _, .base (.str t), kit_ty (by decide +kernel), true, rfl, iteT ?_⟩
        refine ⟨_, rfl, _, rfl, p, C, fs, w, a, t, rfl, he, kp, (by omega), _, rfl, rfl, ?_⟩
        rw [decide_eq_true rfl]
        exact k _ fun _ _ z => z
      · refine ⟨_, rfl, rfl, false, bl_f (int_ne (by omega)), _, rfl, rfl, true, bl_t (int_eq e), ?_⟩
        refine ⟨_, rfl, _, rfl, p, C, fs, w, a, t, rfl, he, kp, (by omega), _, _, _, _, true, rfl, .ty _, .base (.str t), kit_ty (by decide +kernel), true, rfl, iteT ?_⟩
        refine ⟨_, rfl, _, rfl, p, C, fs, w, a, t, rfl, he, kp, (by omega), _, rfl, rfl, ?_⟩
        rw [decide_eq_true rfl]
        exact k _ fun _ _ z => z
      · refine ⟨_, rfl, rfl, false, bl_f (int_ne (by omega)), _, rfl, rfl, false, bl_f (int_ne (by omega)), _, rfl, rfl, true, bl_t (int_eq e), ?_⟩
        refine ⟨_, rfl, _, rfl, p, C, fs, w, a, t, rfl, he, kp, (by omega), _, _, _, _, true, rfl, .ty _, .base (.str t), kit_ty (by decide +kernel), true, rfl, iteT ?_⟩
        refine ⟨_, rfl, _, rfl, p, C, fs, w, a, t, rfl, he, kp, (by omega), _, rfl, rfl, ?_⟩
        rw [decide_eq_true rfl]
        exact k _ fun _ _ z => z
      · refine ⟨_, rfl, rfl, false, bl_f (int_ne (by omega)), _, rfl, rfl, false, bl_f (int_ne (by omega)), _, rfl, rfl, false, bl_f (int_ne (by omega)), _, rfl, rfl, true, bl_t (int_eq e), ?_⟩
        refine ⟨_, rfl, _, rfl, p, C, fs, w, a, t, rfl, he, kp, (by omega), _, _, _, _, true, rfl, .ty _, .base (.str t), kit_ty (by decide +kernel), true, rfl, iteT ?_⟩
        refine ⟨_, rfl, _, rfl, p, C, fs, w, a, t, rfl, he, kp, (by omega), _, rfl, rfl, ?_⟩
        rw [decide_eq_true rfl]
        exact k _ fun _ _ z => z
    · refine ⟨_, rfl, rfl, false, bl_f (int_ne (by omega)), _, rfl, rfl, false, bl_f (int_ne (by omega)), _, rfl, rfl, false, bl_f (int_ne (by omega)), _, rfl, rfl, false, bl_f (int_ne (by omega)), ?_⟩
      refine ⟨_, rfl, _, rfl, p, C, fs, w, a, t, rfl, he, kp, ⟨by omega, by omega, by omega, by omega, h9, h13, h14⟩, fun q l H1 s1 hL hall => ?_⟩
      refine ⟨_, rfl, ⟨_, SqL.of hL⟩, for_list (K := K) (a := q) (xs := l) (fun i σ H' => ∃ (v : Option V), σ = [some (.ref p), some (.int w), some (.int a), some (.str t), v] ∧ H' = H1) ⟨none, rfl, rfl⟩ (fun i σ H' _ ⟨_, _, e⟩ => by rw [e]; exact SqL.of hL) ?_ ?_⟩
      · rintro i x σ H' hi ⟨v, rfl, rfl⟩
        obtain rfl := hall x (List.mem_of_getElem? hi)
        refine ⟨_, rfl, _, rfl, _, _, some a, rfl, rfl, .inl ⟨a, a, rfl, rfl, true, bl_t rfl, ?_⟩⟩
        exact ⟨_, rfl, rfl⟩
      · rintro σ H' ⟨v, rfl, rfl⟩
        exact k _ s1
/-! ### the law of the errors -/
def eight : List V := [.str "size", .str "bits", .str "low", .str "", .str "a b", .str "piece", .str "closed", .str "x"]
theorem eight_at {j : Nat} (h : j < 8) : ∃ t : Str, eight[j]? = some (.str t) := by
  rcases (show j = 0 ∨ j = 1 ∨ j = 2 ∨ j = 3 ∨ j = 4 ∨ j = 5 ∨ j = 6 ∨ j = 7 by omega) with rfl | rfl | rfl | rfl | rfl | rfl | rfl | rfl <;> exact ⟨_, rfl⟩
theorem ErrAt.typ {H H' : Hp} {a C p c : Addr} {fs : List (Str × V)} (h : ErrAt H a C fs) (P : Purse p c H) (s : SameX p H H') : ErrAt H' a C fs := by
  obtain ⟨⟨xs, hp⟩, _⟩ := P.there
  exact h.on hp s
def sp__law_errors (K : PySem.W.Frag) : Sp := fun vs H Q _ => ∃ p : Addr, vs = [.ref p] ∧ ∃ c, Purse p c H ∧ ∀ H', Purse p c H' → SameX p H H' → Q (.bl true) H'
theorem ok__law_errors (T : Txt K mg) : FnOk P w K mg base CX0 4 T.a__law_errors T.fd__law_errors ["purse"] (sp__law_errors K) := by
  have S := sc__law_errors
  refine T.F__law_errors.ok S (fun vs H Q E h => ?_) (fun cdv A outer s H vs Q E hr h => ?_)
  · obtain ⟨p, rfl, _⟩ := h
    rfl
  · obtain ⟨p, rfl, c, P0, k⟩ := h
    refine ⟨_, (pss_cons (ps_set (i := 1) S.nd rfl (Or.inl rfl) (pe_call (ok__law_draw T) (hr.mono (by decide)) rfl T.g__law_draw T.F__law_draw.kp T.B__law_draw .nil pass0 (pa_cons (pv 0) (pa_cons pe_int pa_nil))))
      (pss_cons (ps_set (i := 2) S.nd rfl (Or.inl rfl) (pe_call (ok__law_draw T) (hr.mono (by decide)) rfl T.g__law_draw T.F__law_draw.kp T.B__law_draw .nil pass0 (pa_cons (pv 0) (pa_cons pe_int pa_nil))))
      (pss_cons (ps_set (i := 3) S.nd rfl (Or.inl rfl) (pe_ix ix_list (pe_lst (pa_cons pe_str (pa_cons pe_str (pa_cons pe_str (pa_cons pe_str (pa_cons pe_str (pa_cons pe_str (pa_cons pe_str (pa_cons pe_str pa_nil))))))))) (pe_call (ok__law_draw T) (hr.mono (by decide)) rfl T.g__law_draw T.F__law_draw.kp T.B__law_draw .nil pass0 (pa_cons (pv 0) (pa_cons pe_int pa_nil))) (fun _ _ => rfl)))
      (pss_cons (ps_set (i := 4) S.nd rfl (Or.inl rfl) (pe_call (ok__law_error T) (hr.mono (by decide)) rfl T.g__law_error T.F__law_error.kp T.B__law_error .nil pass0 (pa_cons (pv 1) (pa_cons (pv 2) (pa_cons (pv 3) pa_nil)))))
      (pss_cons (ps_if (PW.pt (pw_or (pt_not (pt_val (pe_callB (id := "isinstance") call_isErr (by rfl) T.b_isinstance (by decide +kernel) (pa_cons (pv 4) (pa_cons (pe_glob (v := .ref T.c_LossError) rfl T.X_LossError.g rfl) pa_nil))))) (pw_or1 (pt_not (pt_val (pe_callB (id := "isinstance") call_isErr (by rfl) T.b_isinstance (by decide +kernel) (pa_cons (pv 4) (pa_cons (pe_bltn (v := .ty "ValueError") (u := .type "ValueError") (by rfl) T.b_ValueError (by decide +kernel) rfl) pa_nil)))))))) (pss_one (ps_ret pe_bl)) pss_nil)
      (pss_cons (ps_set (i := 5) S.nd rfl (Or.inl rfl) (pe_call (ok__law_classes T) (hr.mono (by decide)) rfl T.g__law_classes T.F__law_classes.kp T.B__law_classes .nil pass0 (pa_cons (pv 4) pa_nil)))
      (pss_cons (ps_for PassesOwn.never rfl (pi_range1 (by rfl) T.b_range (pa_cons pe_int pa_nil)) (pg_name (i := 6) S.nd rfl (Or.inl rfl)) (pss_one (ps_if (pt_cmpR op_ne (pe_ix ix_list (pv 5) (pv 6) (fun _ _ => rfl)) (pe_or (pe_cmpR op_eq (pv 6) (pv 1) (nomark _)) (pe_one (pe_and (pe_cmpR op_eq (pv 6) pe_int (nomark _)) (pe_one (pe_cmpR op_eq (pv 1) pe_int (nomark _)))))) (nomark _)) (pss_one (ps_ret pe_bl)) pss_nil)))
      (pss_one (ps_ret (pe_call (ok__law_keeps T) (hr.mono (by decide)) rfl T.g__law_keeps T.F__law_keeps.kp T.B__law_keeps .nil pass0 (pa_cons (pv 4) (pa_cons (pv 1) (pa_cons (pv 2) (pa_cons (pv 3) pa_nil)))))))))))))), ?_⟩
    refine ⟨_, rfl, p, 18, rfl, c, P0, by decide, by decide, fun w H1 w0 w1 P1 s1 => ?_⟩
    refine ⟨_, rfl, p, 1000000, rfl, c, P1, by decide, by decide, fun a H2 a0 a1 P2 s2 => ?_⟩
    refine ⟨(by show 8 ≤ sizeLine; decide), fun L hL => ?_⟩
    have sL : Same H2 (upd H2 L (.lst eight)) := Same.new hL
    have nLp : L ≠ p := by
      obtain ⟨⟨_, hp⟩, _⟩ := P2.there
      exact (ne_of_none hp hL).symm
    refine ⟨_, rfl, p, 8, rfl, c, P2.same sL, by decide, by decide, fun d H3 d0 d1 P3 s3 => ?_⟩
    obtain ⟨j, rfl⟩ : ∃ j : Nat, d = (j : Int) := ⟨d.toNat, by omega⟩
    obtain ⟨t, ht⟩ := eight_at (show j < 8 by omega)
    have hL3 : H3 L = some (.lst eight) := s3 _ _ nLp upd_same
    refine ⟨_, _, _, _, rfl, rfl, SqL.of hL3, atI_nat ht, ?_⟩
    have s03 : SameX p H H3 := ((s1.trans s2).trans (.of sL)).trans s3
    refine ⟨_, rfl, _, rfl, _, rfl, w, a, t, rfl, w0, w1, fun e C fs H4 s4 he kp => ?_⟩
    obtain ⟨hx, hrow⟩ := kept_row kp
    refine ⟨_, rfl, e, C, fs, _, _, true, rfl, he, (fun _ r => r), hx, hrow.at 18 _ _ rfl, true, rfl, ?_⟩
    refine ⟨_, rfl, e, C, fs, _, _, true, rfl, he, (fun _ r => r), hx, hrow.at 19 _ _ rfl, true, rfl, ?_⟩
    refine ⟨_, rfl, e, C, fs, own18 w, rfl, he, hx, hrow, fun q H5 s5 hq => ?_⟩
    have P5 := (P3.same s4).same s5
    have s05 : SameX p H H5 := s03.trans (.of (s4.trans s5))
    have he5 := he.same s5
    have kp5 : Kept T H5 w a t C fs := kp.same fun q z => s5 _ _ z
    refine ⟨18, rfl, by decide, by decide, for_range (lo := 0) (n := (18 : Int).toNat) (fun i σ H' => ∃ v, σ = [some (.ref p), some (.int w), some (.int a), some (.str t), some (.ref e), some (.ref q), v] ∧ H' = H5) ⟨none, rfl, rfl⟩ ?_ ?_⟩
    · rintro i σ H' hi ⟨v, rfl, rfl⟩
      have hi' : i < 18 := hi
      have hxi : ((List.range 18).map fun (j : Nat) => V.bl (own18 w (j : Int)))[0 + i]? = some (V.bl (own18 w (i : Int))) := by rw [Nat.zero_add]; simp [hi']
      refine ⟨_, rfl, _, rfl, _, _, _, _, rfl, rfl, SqL.of hq, atI_nat hxi, ?_⟩
      have e0 : (0 : Int) + (i : Int) = (i : Int) := by omega
      by_cases q1 : (i : Int) = w
      · refine ⟨_, rfl, _, rfl, rfl, true, bl_t (int_eq (by omega)), rfl, false, ?_, _, rfl, rfl⟩
        rw [show own18 w (i : Int) = true by rw [own18, decide_eq_true q1]; rfl]
        rfl
      · refine ⟨_, rfl, _, rfl, rfl, false, bl_f (int_ne (by omega)), ?_⟩
        by_cases q3 : (i : Int) = 3
        · refine ⟨_, rfl, rfl, true, bl_t (int_eq (by omega)), _, rfl, rfl, rfl, false, ?_, _, rfl, rfl⟩
          rw [dec_int, show own18 w (i : Int) = decide (w = 17) by rw [own18, decide_eq_false q1, decide_eq_true q3, Bool.false_or, Bool.true_and]]
          rw [decide_eq_true (rfl : V.bl (decide (w = 17)) = _)]
          rfl
        · refine ⟨_, rfl, rfl, false, bl_f (int_ne (by omega)), rfl, false, ?_, _, rfl, rfl⟩
          rw [show own18 w (i : Int) = false by rw [own18, decide_eq_false q1, decide_eq_false q3]; rfl]
          rfl
    · rintro σ H' ⟨v, rfl, rfl⟩
      refine ⟨_, rfl, _, rfl, _, rfl, _, rfl, e, C, fs, w, a, t, rfl, w0, w1, he5, kp5, fun H6 s6 => ?_⟩
      exact k _ (P5.same s6) (s05.trans (.of s6))
/-! ### values of other kinds -/
/-- a value of another kind, and what repr reads in it -/
inductive Odd (H : Hp) : V → PyData → Prop
  | bl (b : Bool) : Odd H (.bl b) (.bool b)
  | non : Odd H .non .none
  | s7 : Odd H (.str "7") (.str "7")
  | s0 : Odd H (.str "") (.str "")
  | t3 {t : Addr} : H t = some (.tup [.int 3]) → Odd H (.ref t) (.tuple [.int 3])
  | l0 {l : Addr} : H l = some (.lst []) → Odd H (.ref l) (.list [])
  | l5 {l : Addr} : H l = some (.lst [.int 5]) → Odd H (.ref l) (.list [.int 5])
  | d0 {d : Addr} : H d = some (.dK []) → Odd H (.ref d) (.dict [])
/-- a change at b alone, b none of its -/
theorem Odd.on {H H' : Hp} {b : Addr} {v : V} {d : PyData} (h : Odd H v d) (s : SameX b H H') (n : v ≠ .ref b) : Odd H' v d := by
  cases h with
  | bl b => exact .bl b
  | non => exact .non
  | s7 => exact .s7
  | s0 => exact .s0
  | t3 e => exact .t3 (s _ _ (fun z => n (congrArg V.ref z)) e)
  | l0 e => exact .l0 (s _ _ (fun z => n (congrArg V.ref z)) e)
  | l5 e => exact .l5 (s _ _ (fun z => n (congrArg V.ref z)) e)
  | d0 e => exact .d0 (s _ _ (fun z => n (congrArg V.ref z)) e)
theorem Odd.same {H H' : Hp} {v : V} {d : PyData} (h : Odd H v d) (s : Same H H') : Odd H' v d := by
  cases h with
  | bl b => exact .bl b
  | non => exact .non
  | s7 => exact .s7
  | s0 => exact .s0
  | t3 e => exact .t3 (s _ _ e)
  | l0 e => exact .l0 (s _ _ e)
  | l5 e => exact .l5 (s _ _ e)
  | d0 e => exact .d0 (s _ _ e)
theorem Odd.kind {K : PySem.W.Frag} {H : Hp} {v : V} {d : PyData} (h : Odd H v d) : IntK K H v false := by
  cases h with
  | bl b => exact intK_no (.base (.bl b)) (i := true) (b := true) (by decide +kernel) (by decide +kernel) rfl
  | non => exact intK_no (.base .non) (i := false) (b := false) (by decide +kernel) (by decide +kernel) rfl
  | s7 => exact intK_no (.base (.str _)) (i := false) (b := false) (by decide +kernel) (by decide +kernel) rfl
  | s0 => exact intK_no (.base (.str _)) (i := false) (b := false) (by decide +kernel) (by decide +kernel) rfl
  | t3 e => exact intK_no (.base (.tup e)) (i := false) (b := false) (by decide +kernel) (by decide +kernel) rfl
  | l0 e => exact intK_no (.base (.lst e)) (i := false) (b := false) (by decide +kernel) (by decide +kernel) rfl
  | l5 e => exact intK_no (.base (.lst e)) (i := false) (b := false) (by decide +kernel) (by decide +kernel) rfl
  | d0 e => exact intK_no (.base (.dK e)) (i := false) (b := false) (by decide +kernel) (by decide +kernel) rfl
theorem Odd.ring {T : Txt K mg} {H : Hp} {v : V} {d : PyData} (h : Odd H v d) : NoRing K T.c_Ring H v := by
  have nf : ∀ {t : String}, PySem.W.subIn K (.type t) (.ref T.c_Ring) = some false → PySem.W.notFirst K T.c_Ring (.type t) = true := fun {t} e => by
    unfold PySem.W.notFirst
    rw [e]
    exact Bool.or_true _
  cases h with
  | bl b => exact ⟨_, .base (.bl b), T.KR_bool.at 0 _ _ rfl, nf T.sub_bool⟩
  | non => exact ⟨_, .base .non, T.KR_NoneType.at 0 _ _ rfl, nf T.sub_NoneType⟩
  | s7 => exact ⟨_, .base (.str _), T.KR_str.at 0 _ _ rfl, nf T.sub_str⟩
  | s0 => exact ⟨_, .base (.str _), T.KR_str.at 0 _ _ rfl, nf T.sub_str⟩
  | t3 e => exact ⟨_, .base (.tup e), T.KR_tuple.at 0 _ _ rfl, nf T.sub_tuple⟩
  | l0 e => exact ⟨_, .base (.lst e), T.KR_list.at 0 _ _ rfl, nf T.sub_list⟩
  | l5 e => exact ⟨_, .base (.lst e), T.KR_list.at 0 _ _ rfl, nf T.sub_list⟩
  | d0 e => exact ⟨_, .base (.dK e), T.KR_dict.at 0 _ _ rfl, nf T.sub_dict⟩
theorem lg_small {n : Int} (h : n.natAbs < 2 ^ 60) : n.natAbs.log2 < 1920 := by
  by_cases z : n.natAbs = 0
  · rw [z]
    decide
  · exact Nat.lt_trans ((Nat.log2_lt z).2 h) (by decide)
/-- what repr can show of it, short -/
structure Shown (d : PyData) : Prop where
  sh : d.showable = true
  dp : d.depth ≤ 80
  ln : d.shown.length ≤ 2000
theorem Shown.int {n : Int} (h : n.natAbs < 2 ^ 60) : Shown (.int n) :=
  ⟨by simp only [PyData.showable, lg_small h, decide_true], by simp only [PyData.depth]; omega, by
    have := PyProof.Rows.int_text_len_1921 (lg_small h)
    simp only [PyData.shown]
    exact Nat.le_trans this (by decide)⟩
theorem Shown.bl (b : Bool) : Shown (.bool b) := by cases b <;> exact ⟨rfl, by simp only [PyData.depth]; omega, by decide +kernel⟩
theorem Odd.shown {H : Hp} {v : V} {d : PyData} (h : Odd H v d) : Shown d := by
  cases h with
  | bl b => exact .bl b
  | non => exact ⟨rfl, by decide +kernel, by decide +kernel⟩
  | s7 => exact ⟨rfl, by decide +kernel, by decide +kernel⟩
  | s0 => exact ⟨rfl, by decide +kernel, by decide +kernel⟩
  | t3 e => exact ⟨by decide +kernel, by decide +kernel, by decide +kernel⟩
  | l0 e => exact ⟨by decide +kernel, by decide +kernel, by decide +kernel⟩
  | l5 e => exact ⟨by decide +kernel, by decide +kernel, by decide +kernel⟩
  | d0 e => exact ⟨by decide +kernel, by decide +kernel, by decide +kernel⟩
theorem Odd.reads {K : PySem.W.Frag} {H : Hp} {v : V} {d : PyData} (h : Odd H v d) : Dr K H v d := by
  cases h with
  | bl b => exact .dp (.bl b)
  | non => exact .dp .non
  | s7 => exact .dp (.str _)
  | s0 => exact .dp (.str _)
  | t3 e => exact .dp (.tup (SqT.of e) (.cons (.int 3) .nil))
  | l0 e => exact .dp (.lst (SqL.of e) .nil)
  | l5 e => exact .dp (.lst (SqL.of e) (.cons (.int 5) .nil))
  | d0 e => exact .dic e
theorem two_len {t1 t2 : Str} : (tupleText [t1, t2]).length = t1.length + t2.length + 4 := by
  have e := join_length_add [t1, t2] (fun z => nomatch z)
  simp only [piled_cons, piled_nil] at e
  have e1 : (("(" : Str)).length = 1 := by decide +kernel
  have e2 : (((if ([t1, t2] : List Str).length == 1 then ",)" else ")" : String) : Str)).length = 1 := by
    show ((")" : Str)).length = 1
    decide +kernel
  unfold tupleText
  rw [strLen_append, strLen_append, e1, e2]
  omega
theorem pair_len {y : Str} {d : PyData} (h : Shown d) (hy : (reprText y).length ≤ 100) : (PyData.tuple [.str y, d]).shown.length ≤ sizeLine := by
  have h2 := h.ln
  simp only [PyData.shown, PyData.shownAll]
  rw [two_len, sizeLine_eq]
  omega
/-- repr((y, x)) -/
theorem rpr {K : PySem.W.Frag} {H : Hp} {q : Addr} {y : Str} {x : V} {d : PyData} {Q : VK} (hq : H q = some (.tup [.str y, x])) (hd : Dr K H x d) (h : Shown d) (hy : (reprText y).length ≤ 100) (k : Q (.str (PyData.tuple [.str y, d]).shown) H) : rReprT K [.ref q] H Q :=
  ⟨q, y, x, d, rfl, SqT.of hq, hd, h.sh, Nat.le_trans h.dp (by decide), pair_len h hy, k⟩
def sp__law_kind (K : PySem.W.Frag) : Sp := fun vs H Q _ => ∃ p : Addr, vs = [.ref p] ∧ ∃ c, Purse p c H ∧ ∀ v d H', Odd H' v d → (∀ a, v = .ref a → H a = none) → Purse p c H' → SameX p H H' → Q v H'
theorem ok__law_kind (T : Txt K mg) : FnOk P w K mg base CX0 2 T.a__law_kind T.fd__law_kind ["purse"] (sp__law_kind K) := by
  have S := sc__law_kind
  refine T.F__law_kind.ok S (fun vs H Q E h => ?_) (fun cdv A outer s H vs Q E hr h => ?_)
  · obtain ⟨p, rfl, _⟩ := h
    rfl
  · obtain ⟨p, rfl, c, P0, k⟩ := h
    obtain ⟨⟨_, hp⟩, _⟩ := P0.there
    refine ⟨_, (pss_one (ps_ret (pe_ix ix_list (pe_lst (pa_cons pe_bl (pa_cons pe_bl (pa_cons pe_non (pa_cons pe_str (pa_cons pe_str (pa_cons (pe_tup (pa_cons pe_int pa_nil)) (pa_cons (pe_lst pa_nil) (pa_cons (pe_lst (pa_cons pe_int pa_nil)) (pa_cons pe_dnewK pa_nil)))))))))) (pe_call (ok__law_draw T) (hr.mono (by decide)) rfl T.g__law_draw T.F__law_draw.kp T.B__law_draw .nil pass0 (pa_cons (pv 0) (pa_cons pe_int pa_nil))) (fun _ _ => rfl)))), ?_⟩
    refine ⟨(by show 1 ≤ sizeLine; decide), fun t ht => ⟨Nat.zero_le _, fun l hl => ⟨(by show 1 ≤ sizeLine; decide), fun m hm => fun d hd => ⟨(by show 9 ≤ sizeLine; decide), fun L hL => ?_⟩⟩⟩⟩
    have n1 : Same H (upd H t (.tup [.int 3])) := Same.new ht
    have n2 : Same (upd H t (.tup [.int 3])) (upd (upd H t (.tup [.int 3])) l (.lst [])) := Same.new hl
    have n3 : Same (upd (upd H t (.tup [.int 3])) l (.lst [])) (upd (upd (upd H t (.tup [.int 3])) l (.lst [])) m (.lst [.int 5])) := Same.new hm
    have n4 : Same (upd (upd (upd H t (.tup [.int 3])) l (.lst [])) m (.lst [.int 5])) (upd (upd (upd (upd H t (.tup [.int 3])) l (.lst [])) m (.lst [.int 5])) d (.dK [])) := Same.new hd
    have n5 := Same.new (o := .lst [.bl true, .bl false, .non, .str "7", .str "", .ref t, .ref l, .ref m, .ref d]) hL
    have n2' := n1.trans n2
    have n3' := n2'.trans n3
    have n4' := n3'.trans n4
    have n5' := n4'.trans n5
    have tp : t ≠ p := (ne_of_none hp ht).symm
    have lp : l ≠ p := (ne_of_none (n1 _ _ hp) hl).symm
    have mp : m ≠ p := (ne_of_none (n2' _ _ hp) hm).symm
    have dp : d ≠ p := (ne_of_none (n3' _ _ hp) hd).symm
    have Lp : L ≠ p := (ne_of_none (n4' _ _ hp) hL).symm
    refine ⟨_, rfl, p, 9, rfl, c, P0.same n5', by decide, by decide, fun e H6 e0 e1 P6 s6 => ?_⟩
    have ft := s6 _ _ tp (n5 _ _ (n4 _ _ (n3 _ _ (n2 _ _ upd_same))))
    have fl := s6 _ _ lp (n5 _ _ (n4 _ _ (n3 _ _ upd_same)))
    have fm := s6 _ _ mp (n5 _ _ (n4 _ _ upd_same))
    have fd := s6 _ _ dp (n5 _ _ upd_same)
    have fL := s6 _ _ Lp upd_same
    have s := (SameX.of (a := p) n5').trans s6
    have nt : H t = none := ht
    have nl : H l = none := Same.free n1 hl
    have nm : H m = none := Same.free n2' hm
    have nd : H d = none := Same.free n3' hd
    have hat : ∃ v x, atI ([.bl true, .bl false, .non, .str "7", .str "", .ref t, .ref l, .ref m, .ref d] : List V) e = some v ∧ Odd H6 v x ∧ ∀ a, v = .ref a → H a = none := by
      rcases (show e = 0 ∨ e = 1 ∨ e = 2 ∨ e = 3 ∨ e = 4 ∨ e = 5 ∨ e = 6 ∨ e = 7 ∨ e = 8 by omega) with rfl | rfl | rfl | rfl | rfl | rfl | rfl | rfl | rfl
      · exact ⟨_, _, rfl, .bl true, fun a z => nomatch z⟩
      · exact ⟨_, _, rfl, .bl false, fun a z => nomatch z⟩
      · exact ⟨_, _, rfl, .non, fun a z => nomatch z⟩
      · exact ⟨_, _, rfl, .s7, fun a z => nomatch z⟩
      · exact ⟨_, _, rfl, .s0, fun a z => nomatch z⟩
      · exact ⟨_, _, rfl, .t3 ft, fun a z => by cases z; exact nt⟩
      · exact ⟨_, _, rfl, .l0 fl, fun a z => by cases z; exact nl⟩
      · exact ⟨_, _, rfl, .l5 fm, fun a z => by cases z; exact nm⟩
      · exact ⟨_, _, rfl, .d0 fd, fun a z => by cases z; exact nd⟩
    obtain ⟨v, x, hv, ho, hf⟩ := hat
    exact ⟨_, _, _, _, rfl, rfl, SqL.of fL, hv, k v x _ ho hf P6 s⟩
/-! ### sizes -/
def sp__law_is_size (K : PySem.W.Frag) : Sp := fun vs H Q _ => ∃ (x : V) (o : Option Int), vs = [x] ∧ Kd K H x o ∧ (((∃ b, Pow2 o b) ∧ Q (.bl true) H) ∨ ((∀ b, ¬ Pow2 o b) ∧ Q (.bl false) H))
theorem ok__law_is_size (T : Txt K mg) : FnOk P w K mg base CX0 1 T.a__law_is_size T.fd__law_is_size ["value"] (sp__law_is_size K) := by
  have S := sc__law_is_size
  refine T.F__law_is_size.ok S (fun vs H Q E h => ?_) (fun cdv A outer s H vs Q E hr h => ?_)
  · obtain ⟨x, o, rfl, _⟩ := h
    rfl
  · obtain ⟨x, o, rfl, hk, k⟩ := h
    refine ⟨_, (pss_cons (ps_if (PW.pt (pw_or (pt_not (pt_val (pe_callB (id := "isinstance") call_isi (by rfl) T.b_isinstance (by decide +kernel) (pa_cons (pv 0) (pa_cons (pe_bltn (v := .ty "int") (u := .type "int") (by rfl) T.b_int (by decide +kernel) rfl) pa_nil))))) (pw_or1 (pt_val (pe_callB (id := "isinstance") call_isi (by rfl) T.b_isinstance (by decide +kernel) (pa_cons (pv 0) (pa_cons (pe_bltn (v := .ty "bool") (u := .type "bool") (by rfl) T.b_bool (by decide +kernel) rfl) pa_nil))))))) (pss_one (ps_ret pe_bl)) pss_nil)
      (pss_cons (ps_set (i := 1) S.nd rfl (Or.inl rfl) pe_int)
      (pss_cons (ps_for PassesOwn.never rfl (pi_range1 (by rfl) T.b_range (pa_cons pe_int pa_nil)) (pg_name (i := 2) S.nd rfl (Or.inl rfl)) (pss_cons (ps_if (pt_cmpR op_eq (pv 0) (pv 1) (nomark _)) (pss_one (ps_ret pe_bl)) pss_nil)
      (pss_one (ps_set (i := 1) S.nd rfl (Or.inl rfl) (pe_op op_mul (pv 1) pe_int)))))
      (pss_one (ps_ret pe_bl))))), ?_⟩
    cases o with
    | none =>
      obtain ⟨t, i, b, ty, hi, hb, e⟩ := (show IntK K H x false from hk)
      have kf : Q (.bl false) H := by
        rcases k with ⟨⟨b, z, _⟩, _⟩ | ⟨_, k⟩
        · cases z
        · exact k
      cases i with
      | false => exact ⟨_, rfl, _, _, _, _, false, rfl, .ty _, ty, hi, false, rfl, kf⟩
      | true =>
        cases b with
        | false => cases e
        | true => exact ⟨_, rfl, _, _, _, _, true, rfl, .ty _, ty, hi, true, rfl, _, rfl, _, _, _, _, true, rfl, .ty _, ty, hb, true, rfl, kf⟩
    | some n =>
      obtain rfl : x = .int n := hk
      refine ⟨_, rfl, _, _, _, _, true, rfl, .ty _, .base (.int n), kit_ty (by decide +kernel), true, rfl, _, rfl, _, _, _, _, false, rfl, .ty _, .base (.int n), kit_ty (by decide +kernel), false, rfl, ?_⟩
      refine ⟨27, rfl, by decide, by decide, for_range (lo := 0) (n := (27 : Int).toNat) (fun i σ H' => ∃ v, σ = [some (.int n), some (.int (2 ^ (6 + i))), v] ∧ H' = H ∧ ∀ j, j < i → n ≠ 2 ^ (6 + j))
        ⟨none, rfl, rfl, fun j hj => absurd hj (Nat.not_lt_zero j)⟩ ?_ ?_⟩
      · rintro i σ H' hi ⟨v, rfl, rfl, no⟩
        have hi' : i < 27 := hi
        by_cases q : n = 2 ^ (6 + i)
        · refine ⟨_, rfl, _, rfl, rfl, true, bl_t (int_eq q), ?_⟩
          rcases k with ⟨_, k⟩ | ⟨z, _⟩
          · exact k
          · exact (z (6 + i) ⟨congrArg some q, by omega, by omega⟩).elim
        · refine ⟨_, rfl, _, rfl, rfl, false, bl_f (int_ne q), ?_⟩
          refine ⟨_, rfl, _, _, rfl, rfl, .inr ⟨by decide, by decide⟩, ?_⟩
          refine ⟨_, rfl, rfl, fun j hj => ?_⟩
          rcases Nat.lt_succ_iff_lt_or_eq.mp hj with z | z
          · exact no j z
          · rw [z]
            exact q
      · rintro σ H' ⟨v, rfl, rfl, no⟩
        rcases k with ⟨⟨b, z, h6, h32⟩, _⟩ | ⟨_, k⟩
        · refine (no (b - 6) (show b - 6 < 27 by omega) ?_).elim
          rw [show 6 + (b - 6) = b by omega]
          exact Option.some.inj z
        · exact k
def Tup2 (H : Hp) (Q : VK) (y : Str) (x : V) : Prop := ∀ q H', Same H H' → H' q = some (.tup [.str y, x]) → Q (.ref q) H'
def sp__law_sized (K : PySem.W.Frag) : Sp := fun vs H Q _ => ∃ (x : V) (o : Option Int), vs = [x] ∧ Kd K H x o ∧ ((∃ b, Pow2 o b ∧ Tup2 H Q "made" (.int (2 ^ b))) ∨ ((∀ b, ¬ Pow2 o b) ∧ Tup2 H Q "refused" (.str "size")))
theorem st3 {σ : L2.St} (h : σ.length = 3) : ∃ a b c, σ = [a, b, c] := by
  match σ, h with
  | [a, b, c], _ => exact ⟨a, b, c, rfl⟩
theorem st5 {σ : L2.St} (h : σ.length = 5) : ∃ a b c d e, σ = [a, b, c, d, e] := by
  match σ, h with
  | [a, b, c, d, e], _ => exact ⟨a, b, c, d, e, rfl⟩
theorem ok__law_sized (T : Txt K mg) : FnOk P w K mg base CX0 7 T.a__law_sized T.fd__law_sized ["value"] (sp__law_sized K) := by
  have S := sc__law_sized
  refine T.F__law_sized.ok S (fun vs H Q E h => ?_) (fun cdv A outer s H vs Q E hr h => ?_)
  · obtain ⟨x, o, rfl, _⟩ := h
    rfl
  · obtain ⟨x, o, rfl, hk, k⟩ := h
    refine ⟨_, (pss_cons (ps_try_cl rfl rfl takes0 (fun W pn xe tk po => (pss_one (ps_set (i := 1) S.nd rfl (Or.inl rfl) (pe_make T.M_Ring (ok_Ring_init_ T) (hr.mono (by decide)) rfl T.g_Ring T.B_Ring_init_ .nil (passes_any 3 tk) (pa_cons (pv 0) pa_nil)))))
      (ClOk.named (i := 2) S.nd rfl rfl ⟨rfl, by decide, .inl T.X_InvalidSetting.g⟩ (fun a oe cls d pn hz hf => (pss_one (ps_ret (pe_tup (pa_cons pe_str (pa_cons (pe_xg hz hf (pv 2)) pa_nil))))))
      (ClOk.bare ⟨rfl, by decide, .inl T.X_LossError.g⟩ (fun a oe cls d pn hz hf => (pss_one (ps_ret (pe_tup (pa_cons pe_str (pa_cons pe_str pa_nil))))))
      ClOk.nil)))
      (pss_one (ps_ret (pe_tup (pa_cons pe_str (pa_cons (pe_fld (pv 1) rfl) pa_nil)))))), ?_⟩
    refine ⟨_, rfl, fun r dx nr nd ne => ?_⟩
    have s1 : Same H (upd (upd H dx (.own r)) r (.ins T.c_Ring dx [])) := fun q w e => by
      rw [upd_ne (ne_of_none e nr), upd_ne (ne_of_none e nd)]
      exact e
    refine ⟨r, dx, x, o, rfl, upd_same, hk.same s1, ?_⟩
    rcases k with ⟨b, hb, k⟩ | ⟨no, k⟩
    · refine .inl ⟨b, hb, fun H3 s3 hR => ⟨rfl, ?_⟩⟩
      refine ⟨_, rfl, r, _, dx, _, _, rfl, hR, T.cl_Ring, T.n_Ring_size, rfl, (by show 2 ≤ sizeLine; decide), fun q hq => ?_⟩
      exact k q _ ((made_same nr nd s3).trans (Same.new hq)) upd_same
    · refine .inr ⟨no, fun d H1 nd1 s2 hx σ hσ => ?_⟩
      obtain ⟨a0, a1, a2, rfl⟩ := st3 hσ
      refine ⟨true, T.Me_InvalidSetting_InvalidSetting, fun _ a ha => ?_, fun z => nomatch z⟩
      refine ⟨_, rfl, rfl, _, d, _, _, rfl, T.X_InvalidSetting.x, T.nX_InvalidSetting, rfl, hx, rfl, (by show 2 ≤ sizeLine; decide), fun q hq => ?_⟩
      exact k q _ ((s1.trans s2).trans (Same.new hq)) upd_same
def sp__law_bitten (K : PySem.W.Frag) : Sp := fun vs H Q _ => ∃ (x : V) (o : Option Int), vs = [x] ∧ Kd K H x o ∧ ((∃ b : Nat, o = some (b : Int) ∧ 6 ≤ b ∧ b ≤ 32 ∧ Tup2 H Q "made" (.int (2 ^ b))) ∨ (inR 6 32 o = false ∧ Tup2 H Q "refused" (.str "bits")))
theorem ok__law_bitten (T : Txt K mg) : FnOk P w K mg base CX0 8 T.a__law_bitten T.fd__law_bitten ["value"] (sp__law_bitten K) := by
  have S := sc__law_bitten
  refine T.F__law_bitten.ok S (fun vs H Q E h => ?_) (fun cdv A outer s H vs Q E hr h => ?_)
  · obtain ⟨x, o, rfl, _⟩ := h
    rfl
  · obtain ⟨x, o, rfl, hk, k⟩ := h
    refine ⟨_, (pss_cons (ps_try_cl rfl rfl takes0 (fun W pn xe tk po => (pss_one (ps_set (i := 1) S.nd rfl (Or.inl rfl) (ClX.pe_cmeth (pe_glob (v := .ref T.c_Ring) rfl T.g_Ring rfl) T.R_Ring T.CM_Ring_of_bits ((ok_Ring_of_bits T).raw T.B_Ring_of_bits .nil) (hr.mono (by decide)) (passes_any 3 tk) (pa_cons (pv 0) pa_nil)))))
      (ClOk.named (i := 2) S.nd rfl rfl ⟨rfl, by decide, .inl T.X_InvalidSetting.g⟩ (fun a oe cls d pn hz hf => (pss_one (ps_ret (pe_tup (pa_cons pe_str (pa_cons (pe_xg hz hf (pv 2)) pa_nil))))))
      (ClOk.bare ⟨rfl, by decide, .inl T.X_LossError.g⟩ (fun a oe cls d pn hz hf => (pss_one (ps_ret (pe_tup (pa_cons pe_str (pa_cons pe_str pa_nil))))))
      ClOk.nil)))
      (pss_one (ps_ret (pe_tup (pa_cons pe_str (pa_cons (pe_fld (pv 1) rfl) pa_nil)))))), ?_⟩
    refine ⟨rfl, _, rfl, x, o, rfl, hk, ?_⟩
    rcases k with ⟨b, hb, h6, h32, k⟩ | ⟨no, k⟩
    · refine .inl ⟨b, hb, h6, h32, fun r H3 nr s3 hR => ?_⟩
      obtain ⟨dx, hR⟩ := hR
      refine ⟨_, rfl, r, _, dx, _, _, rfl, hR, T.cl_Ring, T.n_Ring_size, rfl, (by show 2 ≤ sizeLine; decide), fun q hq => ?_⟩
      exact k q _ (s3.trans (Same.new hq)) upd_same
    · refine .inr ⟨no, fun d H1 nd1 s2 hx σ hσ => ?_⟩
      obtain ⟨a0, a1, a2, rfl⟩ := st3 hσ
      refine ⟨true, T.Me_InvalidSetting_InvalidSetting, fun _ a ha => ?_, fun z => nomatch z⟩
      refine ⟨_, rfl, rfl, _, d, _, _, rfl, T.X_InvalidSetting.x, T.nX_InvalidSetting, rfl, hx, rfl, (by show 2 ≤ sizeLine; decide), fun q hq => ?_⟩
      exact k q _ (s2.trans (Same.new hq)) upd_same
/-- a small int, or a value of another kind -/
def It (H : Hp) (v : V) (o : Option Int) (d : PyData) : Prop := (∃ n, v = .int n ∧ o = some n ∧ d = .int n ∧ n.natAbs < 2 ^ 60) ∨ (o = none ∧ Odd H v d)
def Fresh (H : Hp) (v : V) : Prop := ∀ a, v = .ref a → H a = none
theorem fresh_int {H : Hp} {n : Int} : Fresh H (.int n) := fun a z => nomatch z
theorem Fresh.back {H H' : Hp} {v : V} {p : Addr} {xs : List V} (h : Fresh H' v) (hp : H' p = some (.lst xs)) (s : SameX p H H') (there : ∃ o, H p = some o) : Fresh H v := fun a z => by
  have n := h a z
  cases q : H a with
  | none => rfl
  | some o =>
    by_cases e : a = p
    · rw [e, hp] at n
      cases n
    · rw [s a o e q] at n
      cases n
def sp__law_odd (K : PySem.W.Frag) : Sp := fun vs H Q _ => ∃ (p : Addr) (w : Int) (any : Bool), vs = [.ref p, .int w, .bl any] ∧ ∃ c, Purse p c H ∧ 0 < w ∧ w ≤ 4294967296 ∧
  ∀ v o d H', It H' v o d → inR 0 (w - 1) o = false → (any = true → o = none) → Fresh H v → Purse p c H' → SameX p H H' → Q v H'
theorem ok__law_odd (T : Txt K mg) : FnOk P w K mg base CX0 3 T.a__law_odd T.fd__law_odd ["purse", "width", "any_integer"] (sp__law_odd K) := by
  have S := sc__law_odd
  refine T.F__law_odd.ok S (fun vs H Q E h => ?_) (fun cdv A outer s H vs Q E hr h => ?_)
  · obtain ⟨p, w, any, rfl, _⟩ := h
    rfl
  · obtain ⟨p, w, any, rfl, c, P0, w0, w1, k⟩ := h
    refine ⟨_, (pss_cons (ps_set (i := 3) S.nd rfl (Or.inl rfl) (pe_call (ok__law_draw T) (hr.mono (by decide)) rfl T.g__law_draw T.F__law_draw.kp T.B__law_draw .nil pass0 (pa_cons (pv 0) (pa_cons pe_int pa_nil))))
      (pss_cons (ps_if (PW.pt (pw_or (pt_cmpR op_eq (pv 3) pe_int (nomark _)) (pw_or1 (pt_val (pv 2))))) (pss_one (ps_ret (pe_call (ok__law_kind T) (hr.mono (by decide)) rfl T.g__law_kind T.F__law_kind.kp T.B__law_kind .nil pass0 (pa_cons (pv 0) pa_nil)))) pss_nil)
      (pss_cons (ps_set (i := 3) S.nd rfl (Or.inl rfl) (pe_call (ok__law_draw T) (hr.mono (by decide)) rfl T.g__law_draw T.F__law_draw.kp T.B__law_draw .nil pass0 (pa_cons (pv 0) (pa_cons pe_int pa_nil))))
      (pss_cons (ps_if (pt_cmpR op_eq (pv 3) pe_int (nomark _)) (pss_one (ps_ret (pv 1))) pss_nil)
      (pss_cons (ps_if (pt_cmpR op_eq (pv 3) pe_int (nomark _)) (pss_one (ps_ret (pe_un un_neg pe_int))) pss_nil)
      (pss_cons (ps_if (pt_cmpR op_eq (pv 3) pe_int (nomark _)) (pss_one (ps_ret (pe_op op_add (pe_op op_add (pv 1) pe_int) (pe_call (ok__law_number T) (hr.mono (by decide)) rfl T.g__law_number T.F__law_number.kp T.B__law_number .nil pass0 (pa_cons (pv 0) (pa_cons pe_int pa_nil)))))) pss_nil)
      (pss_one (ps_ret (pe_op op_sub (pe_un un_neg pe_int) (pe_call (ok__law_number T) (hr.mono (by decide)) rfl T.g__law_number T.F__law_number.kp T.B__law_number .nil pass0 (pa_cons (pv 0) (pa_cons pe_int pa_nil)))))))))))), ?_⟩
    refine ⟨_, rfl, p, 2, rfl, c, P0, by decide, by decide, fun e H1 e0 e1 P1 s1 => ?_⟩
    have kind : ∀ v d H', Odd H' v d → (∀ a, v = .ref a → H1 a = none) → Purse p c H' → SameX p H1 H' → Q v H' := fun v d H' ho hf P s => by
      obtain ⟨⟨_, hp1⟩, _⟩ := P1.there
      obtain ⟨⟨_, hp0⟩, _⟩ := P0.there
      exact k v none d H' (.inr ⟨rfl, ho⟩) rfl (fun _ => rfl) (Fresh.back hf hp1 s1 ⟨_, hp0⟩) P (s1.trans s)
    by_cases q0 : e = 0
    · exact ⟨_, rfl, rfl, true, bl_t (int_eq q0), _, rfl, p, rfl, c, P1, kind⟩
    refine ⟨_, rfl, rfl, false, bl_f (int_ne q0), _, rfl, any, rfl, ?_⟩
    cases any with
    | true => exact ⟨_, rfl, p, rfl, c, P1, kind⟩
    | false =>
      refine ⟨_, rfl, p, 4, rfl, c, P1, by decide, by decide, fun f H2 f0 f1 P2 s2 => ?_⟩
      have s12 := s1.trans s2
      have out : ∀ (n : Int) H', n.natAbs < 2 ^ 60 → (n < 0 ∨ w ≤ n) → Purse p c H' → SameX p H H' → Q (.int n) H' := fun n H' hn hb P s =>
        k (.int n) (some n) (.int n) H' (.inl ⟨n, rfl, rfl, rfl, hn⟩) (by
          show (decide (0 ≤ n) && decide (n ≤ w - 1)) = false
          rcases hb with z | z
          · rw [decide_eq_false (show ¬ 0 ≤ n by omega), Bool.false_and]
          · rw [decide_eq_false (show ¬ n ≤ w - 1 by omega), Bool.and_false]) (fun z => nomatch z) fresh_int P s
      by_cases r0 : f = 0
      · exact ⟨_, rfl, rfl, true, bl_t (int_eq r0), _, rfl, out w _ (by omega) (.inr (by omega)) P2 s12⟩
      refine ⟨_, rfl, rfl, false, bl_f (int_ne r0), ?_⟩
      by_cases r1 : f = 1
      · exact ⟨_, rfl, rfl, true, bl_t (int_eq r1), _, rfl, out (-1) _ (by decide) (.inl (by decide)) P2 s12⟩
      refine ⟨_, rfl, rfl, false, bl_f (int_ne r1), ?_⟩
      by_cases r2 : f = 2
      · refine ⟨_, rfl, rfl, true, bl_t (int_eq r2), ?_⟩
        refine ⟨_, rfl, _, _, rfl, rfl, _, rfl, p, 1000000000, rfl, c, P2, by decide, fun v H3 v0 v1 P3 s3 => ⟨_, _, rfl, rfl, ?_⟩⟩
        exact out (w + 1 + v) _ (by omega) (.inr (by omega)) P3 (s12.trans s3)
      · refine ⟨_, rfl, rfl, false, bl_f (int_ne r2), ?_⟩
        refine ⟨_, rfl, _, rfl, p, 1000000000, rfl, c, P2, by decide, fun v H3 v0 v1 P3 s3 => ⟨_, _, rfl, rfl, ?_⟩⟩
        exact out (-2 - v) _ (by omega) (.inl (by omega)) P3 (s12.trans s3)
/-! ### what a call answers -/
/-- any integer is taken there -/
def anyI (way i : Nat) : Bool := decide (way = 0) || (decide (way = 1) && decide (i = 1))
/-- no such argument -/
def bad (way i : Nat) (n : Int) (o : Option Int) : Bool := if anyI way i then o.isNone else !inR 0 (n - 1) o
/-- what is told -/
def tells (n : Int) : Nat → List Int → V
  | 0, a :: _ => .int (a % n)
  | 1, a :: b :: _ => .int (unw n a b)
  | 2, a :: b :: _ => .int ((b - a) % n)
  | 3, a :: b :: _ => .bl (bef n a b)
  | 4, a :: b :: c :: _ => .bl (decide ((b - a) % n < (c - a) % n))
  | _, _ => .non
/-- the first that is no such argument -/
def firstBad (way : Nat) (n : Int) (os : List (Option Int)) (i : Nat) : Prop := (∃ o, os[i]? = some o ∧ bad way i n o = true) ∧ ∀ j o, j < i → os[j]? = some o → bad way j n o = false
def manyOf : Nat → Nat
  | 0 => 1
  | 4 => 3
  | _ => 2
def Answer (H : Hp) (Q : VK) (way : Nat) (n : Int) (xs : List V) (os : List (Option Int)) : Prop :=
  (∃ i x, firstBad way n os i ∧ xs[i]? = some x ∧ Tup2 H Q "refused" x) ∨ ((∀ i o, os[i]? = some o → bad way i n o = false) ∧ ∃ as : List Int, os = as.map some ∧ Tup2 H Q "told" (tells n way as))
def sp__law_answer (K : PySem.W.Frag) (C : Addr) : Sp := fun vs H Q _ => ∃ (r h : Addr) (way : Nat) (n : Int) (xs : List V) (os : List (Option Int)), vs = [.ref r, .int way, .ref h] ∧ way < 5 ∧ RingAt C H r n ∧ 0 < n ∧ H h = some (.lst xs) ∧ Paired (Kd K H) xs os ∧ xs.length = manyOf way ∧ Answer H Q way n xs os
theorem bad_any {way i : Nat} {n : Int} {o : Option Int} (h : anyI way i = true) : bad way i n o = o.isNone := if_pos h
theorem bad_no {way i : Nat} {n : Int} {o : Option Int} (h : anyI way i = false) : bad way i n o = !inR 0 (n - 1) o := if_neg (by rw [h]; exact Bool.false_ne_true)
theorem ok__law_answer (T : Txt K mg) : FnOk P w K mg base CX0 7 T.a__law_answer T.fd__law_answer ["ring", "way", "handed"] (sp__law_answer K T.c_Ring) := by
  have S := sc__law_answer
  refine T.F__law_answer.ok S (fun vs H Q E h => ?_) (fun cdv A outer s H vs Q E hr h => ?_)
  · obtain ⟨r, h, way, n, xs, os, rfl, _⟩ := h
    rfl
  · obtain ⟨r, h, way, n, xs, os, rfl, hw, hR, n0, hh, hk, hl, k⟩ := h
    obtain ⟨dx, hR'⟩ := id hR
    refine ⟨_, (pss_cons (ps_set (i := 3) S.nd rfl (Or.inl rfl) pe_non)
      (pss_cons (ps_try_cl rfl rfl takes0 (fun W pn xe tk po => (pss_cons (ps_if (pt_cmpR op_eq (pv 1) pe_int (nomark _)) (pss_one (ps_set (i := 3) S.nd rfl (Or.inl rfl) (pe_methX (pv 0) T.cl_Ring T.m_Ring_wrap (ok_Ring_wrap T) (hr.mono (by decide)) T.B_Ring_wrap (fun σ => passAt tk σ) (pa_cons (pe_ix (show IxR _ (rIxL K) from ix_list) (pv 2) pe_int (fun _ _ => rfl)) pa_nil)))) pss_nil)
      (pss_cons (ps_if (pt_cmpR op_eq (pv 1) pe_int (nomark _)) (pss_one (ps_set (i := 3) S.nd rfl (Or.inl rfl) (pe_methX (pv 0) T.cl_Ring T.m_Ring_unwrap (ok_Ring_unwrap T) (hr.mono (by decide)) T.B_Ring_unwrap (fun σ => passAt tk σ) (pa_cons (pe_ix (show IxR _ (rIxL K) from ix_list) (pv 2) pe_int (fun _ _ => rfl)) (pa_cons (pe_ix (show IxR _ (rIxL K) from ix_list) (pv 2) pe_int (fun _ _ => rfl)) pa_nil))))) pss_nil)
      (pss_cons (ps_if (pt_cmpR op_eq (pv 1) pe_int (nomark _)) (pss_one (ps_set (i := 3) S.nd rfl (Or.inl rfl) (pe_methX (pv 0) T.cl_Ring T.m_Ring_gap (ok_Ring_gap T) (hr.mono (by decide)) T.B_Ring_gap (fun σ => passAt tk σ) (pa_cons (pe_ix (show IxR _ (rIxL K) from ix_list) (pv 2) pe_int (fun _ _ => rfl)) (pa_cons (pe_ix (show IxR _ (rIxL K) from ix_list) (pv 2) pe_int (fun _ _ => rfl)) pa_nil))))) pss_nil)
      (pss_cons (ps_if (pt_cmpR op_eq (pv 1) pe_int (nomark _)) (pss_one (ps_set (i := 3) S.nd rfl (Or.inl rfl) (pe_methX (pv 0) T.cl_Ring T.m_Ring_before (ok_Ring_before T) (hr.mono (by decide)) T.B_Ring_before (fun σ => passAt tk σ) (pa_cons (pe_ix (show IxR _ (rIxL K) from ix_list) (pv 2) pe_int (fun _ _ => rfl)) (pa_cons (pe_ix (show IxR _ (rIxL K) from ix_list) (pv 2) pe_int (fun _ _ => rfl)) pa_nil))))) pss_nil)
      (pss_one (ps_if (pt_cmpR op_eq (pv 1) pe_int (nomark _)) (pss_one (ps_set (i := 3) S.nd rfl (Or.inl rfl) (pe_methX (pv 0) T.cl_Ring T.m_Ring_within (ok_Ring_within T) (hr.mono (by decide)) T.B_Ring_within (fun σ => passAt tk σ) (pa_cons (pe_ix (show IxR _ (rIxL K) from ix_list) (pv 2) pe_int (fun _ _ => rfl)) (pa_cons (pe_ix (show IxR _ (rIxL K) from ix_list) (pv 2) pe_int (fun _ _ => rfl)) (pa_cons (pe_ix (show IxR _ (rIxL K) from ix_list) (pv 2) pe_int (fun _ _ => rfl)) pa_nil)))))) pss_nil)))))))
      (ClOk.named (i := 4) S.nd rfl rfl ⟨rfl, by decide, .inl T.X_InvalidNumber.g⟩ (fun a oe cls d pn hz hf => (pss_one (ps_ret (pe_tup (pa_cons pe_str (pa_cons (pe_xg hz hf (pv 4)) pa_nil))))))
      (ClOk.bare ⟨rfl, by decide, .inl T.X_LossError.g⟩ (fun a oe cls d pn hz hf => (pss_one (ps_ret (pe_tup (pa_cons pe_str (pa_cons pe_int pa_nil))))))
      ClOk.nil)))
      (pss_one (ps_ret (pe_tup (pa_cons pe_str (pa_cons (pv 3) pa_nil))))))), ?_⟩
    rcases (show way = 0 ∨ way = 1 ∨ way = 2 ∨ way = 3 ∨ way = 4 by omega) with rfl | rfl | rfl | rfl | rfl
    · obtain ⟨x0, rfl⟩ : ∃ x0, xs = [x0] := by
        match xs, hl with
        | [x0], _ => exact ⟨_, rfl⟩
      obtain ⟨o0, rfl, k0⟩ : ∃ o0, os = [o0] ∧ Kd K H x0 o0 := by
        cases hk with
        | cons k0 hk =>
          cases hk
          exact ⟨_, rfl, k0⟩
      refine ⟨_, rfl, rfl, true, bl_t (int_eq rfl), _, rfl, r, dx, _, rfl, hR', lk1 (by decide +kernel), _, rfl, _, _, _, _, rfl, rfl, SqL.of hh, rfl, ?_⟩
      refine ⟨r, n, x0, o0, rfl, hR, n0, k0, ?_⟩
      have b0 : bad 0 0 n o0 = o0.isNone := rfl
      rcases k with ⟨i, x, ⟨⟨o, ho, hb⟩, first⟩, hx, kR⟩ | ⟨ok, as, ea, kT⟩
      · rcases i with _ | i
        · cases ho
          cases hx
          rw [b0] at hb
          exact .inr ⟨(Option.isNone_iff_eq_none.mp hb), fun d H' nd s hd => ⟨true, T.Me_InvalidNumber_InvalidNumber, fun _ a ha => ⟨_, rfl, rfl, _, d, _, _, rfl, T.X_InvalidNumber.x, T.nX_InvalidNumber, rfl, hd, rfl, (by show 2 ≤ sizeLine; decide), fun q hq => kR q _ (s.trans (Same.new hq)) upd_same⟩, fun z => nomatch z⟩⟩
        · cases ho
      · obtain ⟨a0, rfl⟩ : ∃ a0, as = [a0] := by
          match as, ea with
          | [a0], _ => exact ⟨_, rfl⟩
        cases ea
        exact .inl ⟨a0, rfl, _, rfl, rfl, false, bl_f (int_ne (by decide)), _, rfl, rfl, false, bl_f (int_ne (by decide)), _, rfl, rfl, false, bl_f (int_ne (by decide)), _, rfl, rfl, false, bl_f (int_ne (by decide)), _, rfl, (by show 2 ≤ sizeLine; decide), fun q hq => kT q _ (Same.new hq) upd_same⟩
    · obtain ⟨x0, x1, rfl⟩ : ∃ x0 x1, xs = [x0, x1] := by
        match xs, hl with
        | [x0, x1], _ => exact ⟨_, _, rfl⟩
      obtain ⟨o0, o1, rfl, k0, k1⟩ : ∃ o0 o1, os = [o0, o1] ∧ Kd K H x0 o0 ∧ Kd K H x1 o1 := by
        cases hk with
        | cons k0 hk => cases hk with
        | cons k1 hk =>
          cases hk
          exact ⟨_, _, rfl, k0, k1⟩
      refine ⟨_, rfl, rfl, false, bl_f (int_ne (by decide)), _, rfl, rfl, true, bl_t (int_eq rfl), _, rfl, r, dx, _, rfl, hR', lk1 (by decide +kernel), _, rfl, _, _, _, _, rfl, rfl, SqL.of hh, rfl, _, rfl, _, _, _, _, rfl, rfl, SqL.of hh, rfl, ?_⟩
      refine ⟨r, n, x0, x1, o0, o1, rfl, hR, n0, k0, k1, ?_⟩
      have b0 : bad 1 0 n o0 = !inR 0 (n - 1) o0 := rfl
      have b1 : bad 1 1 n o1 = o1.isNone := rfl
      rcases k with ⟨i, x, ⟨⟨o, ho, hb⟩, first⟩, hx, kR⟩ | ⟨ok, as, ea, kT⟩
      · rcases i with _ | _ | i
        · cases ho
          cases hx
          rw [b0] at hb
          exact .inl ⟨(by simpa using hb), fun d H' nd s hd => ⟨true, T.Me_InvalidNumber_InvalidNumber, fun _ a ha => ⟨_, rfl, rfl, _, d, _, _, rfl, T.X_InvalidNumber.x, T.nX_InvalidNumber, rfl, hd, rfl, (by show 2 ≤ sizeLine; decide), fun q hq => kR q _ (s.trans (Same.new hq)) upd_same⟩, fun z => nomatch z⟩⟩
        · cases ho
          cases hx
          rw [b1] at hb
          have g0 := first 0 _ (by omega) rfl
          rw [b0] at g0
          exact .inr (.inl ⟨(by simpa using g0), (Option.isNone_iff_eq_none.mp hb), fun d H' nd s hd => ⟨true, T.Me_InvalidNumber_InvalidNumber, fun _ a ha => ⟨_, rfl, rfl, _, d, _, _, rfl, T.X_InvalidNumber.x, T.nX_InvalidNumber, rfl, hd, rfl, (by show 2 ≤ sizeLine; decide), fun q hq => kR q _ (s.trans (Same.new hq)) upd_same⟩, fun z => nomatch z⟩⟩)
        · cases ho
      · obtain ⟨a0, a1, rfl⟩ : ∃ a0 a1, as = [a0, a1] := by
          match as, ea with
          | [a0, a1], _ => exact ⟨_, _, rfl⟩
        cases ea
        have g0 := ok 0 _ rfl
        rw [b0] at g0
        obtain ⟨c0, e0, r0⟩ := inR_get (show inR 0 (n - 1) (some a0) = true by simpa using g0)
        cases e0
        exact .inr (.inr ⟨a0, a1, rfl, rfl, r0, _, rfl, rfl, false, bl_f (int_ne (by decide)), _, rfl, rfl, false, bl_f (int_ne (by decide)), _, rfl, rfl, false, bl_f (int_ne (by decide)), _, rfl, (by show 2 ≤ sizeLine; decide), fun q hq => kT q _ (Same.new hq) upd_same⟩)
    · obtain ⟨x0, x1, rfl⟩ : ∃ x0 x1, xs = [x0, x1] := by
        match xs, hl with
        | [x0, x1], _ => exact ⟨_, _, rfl⟩
      obtain ⟨o0, o1, rfl, k0, k1⟩ : ∃ o0 o1, os = [o0, o1] ∧ Kd K H x0 o0 ∧ Kd K H x1 o1 := by
        cases hk with
        | cons k0 hk => cases hk with
        | cons k1 hk =>
          cases hk
          exact ⟨_, _, rfl, k0, k1⟩
      refine ⟨_, rfl, rfl, false, bl_f (int_ne (by decide)), _, rfl, rfl, false, bl_f (int_ne (by decide)), _, rfl, rfl, true, bl_t (int_eq rfl), _, rfl, r, dx, _, rfl, hR', lk1 (by decide +kernel), _, rfl, _, _, _, _, rfl, rfl, SqL.of hh, rfl, _, rfl, _, _, _, _, rfl, rfl, SqL.of hh, rfl, ?_⟩
      refine ⟨r, n, x0, x1, o0, o1, rfl, hR, n0, k0, k1, ?_⟩
      have b0 : bad 2 0 n o0 = !inR 0 (n - 1) o0 := rfl
      have b1 : bad 2 1 n o1 = !inR 0 (n - 1) o1 := rfl
      rcases k with ⟨i, x, ⟨⟨o, ho, hb⟩, first⟩, hx, kR⟩ | ⟨ok, as, ea, kT⟩
      · rcases i with _ | _ | i
        · cases ho
          cases hx
          rw [b0] at hb
          exact .inl ⟨(by simpa using hb), fun d H' nd s hd => ⟨true, T.Me_InvalidNumber_InvalidNumber, fun _ a ha => ⟨_, rfl, rfl, _, d, _, _, rfl, T.X_InvalidNumber.x, T.nX_InvalidNumber, rfl, hd, rfl, (by show 2 ≤ sizeLine; decide), fun q hq => kR q _ (s.trans (Same.new hq)) upd_same⟩, fun z => nomatch z⟩⟩
        · cases ho
          cases hx
          rw [b1] at hb
          have g0 := first 0 _ (by omega) rfl
          rw [b0] at g0
          exact .inr (.inl ⟨(by simpa using g0), (by simpa using hb), fun d H' nd s hd => ⟨true, T.Me_InvalidNumber_InvalidNumber, fun _ a ha => ⟨_, rfl, rfl, _, d, _, _, rfl, T.X_InvalidNumber.x, T.nX_InvalidNumber, rfl, hd, rfl, (by show 2 ≤ sizeLine; decide), fun q hq => kR q _ (s.trans (Same.new hq)) upd_same⟩, fun z => nomatch z⟩⟩)
        · cases ho
      · obtain ⟨a0, a1, rfl⟩ : ∃ a0 a1, as = [a0, a1] := by
          match as, ea with
          | [a0, a1], _ => exact ⟨_, _, rfl⟩
        cases ea
        have g0 := ok 0 _ rfl
        rw [b0] at g0
        obtain ⟨c0, e0, r0⟩ := inR_get (show inR 0 (n - 1) (some a0) = true by simpa using g0)
        cases e0
        have g1 := ok 1 _ rfl
        rw [b1] at g1
        obtain ⟨c1, e1, r1⟩ := inR_get (show inR 0 (n - 1) (some a1) = true by simpa using g1)
        cases e1
        exact .inr (.inr ⟨a0, a1, rfl, rfl, r0, r1, _, rfl, rfl, false, bl_f (int_ne (by decide)), _, rfl, rfl, false, bl_f (int_ne (by decide)), _, rfl, (by show 2 ≤ sizeLine; decide), fun q hq => kT q _ (Same.new hq) upd_same⟩)
    · obtain ⟨x0, x1, rfl⟩ : ∃ x0 x1, xs = [x0, x1] := by
        match xs, hl with
        | [x0, x1], _ => exact ⟨_, _, rfl⟩
      obtain ⟨o0, o1, rfl, k0, k1⟩ : ∃ o0 o1, os = [o0, o1] ∧ Kd K H x0 o0 ∧ Kd K H x1 o1 := by
        cases hk with
        | cons k0 hk => cases hk with
        | cons k1 hk =>
          cases hk
          exact ⟨_, _, rfl, k0, k1⟩
      refine ⟨_, rfl, rfl, false, bl_f (int_ne (by decide)), _, rfl, rfl, false, bl_f (int_ne (by decide)), _, rfl, rfl, false, bl_f (int_ne (by decide)), _, rfl, rfl, true, bl_t (int_eq rfl), _, rfl, r, dx, _, rfl, hR', lk1 (by decide +kernel), _, rfl, _, _, _, _, rfl, rfl, SqL.of hh, rfl, _, rfl, _, _, _, _, rfl, rfl, SqL.of hh, rfl, ?_⟩
      refine ⟨r, n, x0, x1, o0, o1, rfl, hR, n0, k0, k1, ?_⟩
      have b0 : bad 3 0 n o0 = !inR 0 (n - 1) o0 := rfl
      have b1 : bad 3 1 n o1 = !inR 0 (n - 1) o1 := rfl
      rcases k with ⟨i, x, ⟨⟨o, ho, hb⟩, first⟩, hx, kR⟩ | ⟨ok, as, ea, kT⟩
      · rcases i with _ | _ | i
        · cases ho
          cases hx
          rw [b0] at hb
          exact .inl ⟨(by simpa using hb), fun d H' nd s hd => ⟨true, T.Me_InvalidNumber_InvalidNumber, fun _ a ha => ⟨_, rfl, rfl, _, d, _, _, rfl, T.X_InvalidNumber.x, T.nX_InvalidNumber, rfl, hd, rfl, (by show 2 ≤ sizeLine; decide), fun q hq => kR q _ (s.trans (Same.new hq)) upd_same⟩, fun z => nomatch z⟩⟩
        · cases ho
          cases hx
          rw [b1] at hb
          have g0 := first 0 _ (by omega) rfl
          rw [b0] at g0
          exact .inr (.inl ⟨(by simpa using g0), (by simpa using hb), fun d H' nd s hd => ⟨true, T.Me_InvalidNumber_InvalidNumber, fun _ a ha => ⟨_, rfl, rfl, _, d, _, _, rfl, T.X_InvalidNumber.x, T.nX_InvalidNumber, rfl, hd, rfl, (by show 2 ≤ sizeLine; decide), fun q hq => kR q _ (s.trans (Same.new hq)) upd_same⟩, fun z => nomatch z⟩⟩)
        · cases ho
      · obtain ⟨a0, a1, rfl⟩ : ∃ a0 a1, as = [a0, a1] := by
          match as, ea with
          | [a0, a1], _ => exact ⟨_, _, rfl⟩
        cases ea
        have g0 := ok 0 _ rfl
        rw [b0] at g0
        obtain ⟨c0, e0, r0⟩ := inR_get (show inR 0 (n - 1) (some a0) = true by simpa using g0)
        cases e0
        have g1 := ok 1 _ rfl
        rw [b1] at g1
        obtain ⟨c1, e1, r1⟩ := inR_get (show inR 0 (n - 1) (some a1) = true by simpa using g1)
        cases e1
        exact .inr (.inr ⟨a0, a1, rfl, rfl, r0, r1, _, rfl, rfl, false, bl_f (int_ne (by decide)), _, rfl, (by show 2 ≤ sizeLine; decide), fun q hq => kT q _ (Same.new hq) upd_same⟩)
    · obtain ⟨x0, x1, x2, rfl⟩ : ∃ x0 x1 x2, xs = [x0, x1, x2] := by
        match xs, hl with
        | [x0, x1, x2], _ => exact ⟨_, _, _, rfl⟩
      obtain ⟨o0, o1, o2, rfl, k0, k1, k2⟩ : ∃ o0 o1 o2, os = [o0, o1, o2] ∧ Kd K H x0 o0 ∧ Kd K H x1 o1 ∧ Kd K H x2 o2 := by
        cases hk with
        | cons k0 hk => cases hk with
        | cons k1 hk => cases hk with
        | cons k2 hk =>
          cases hk
          exact ⟨_, _, _, rfl, k0, k1, k2⟩
      refine ⟨_, rfl, rfl, false, bl_f (int_ne (by decide)), _, rfl, rfl, false, bl_f (int_ne (by decide)), _, rfl, rfl, false, bl_f (int_ne (by decide)), _, rfl, rfl, false, bl_f (int_ne (by decide)), _, rfl, rfl, true, bl_t (int_eq rfl), _, rfl, r, dx, _, rfl, hR', lk1 (by decide +kernel), _, rfl, _, _, _, _, rfl, rfl, SqL.of hh, rfl, _, rfl, _, _, _, _, rfl, rfl, SqL.of hh, rfl, _, rfl, _, _, _, _, rfl, rfl, SqL.of hh, rfl, ?_⟩
      refine ⟨r, n, x0, x1, x2, o0, o1, o2, rfl, hR, n0, k0, k1, k2, ?_⟩
      have b0 : bad 4 0 n o0 = !inR 0 (n - 1) o0 := rfl
      have b1 : bad 4 1 n o1 = !inR 0 (n - 1) o1 := rfl
      have b2 : bad 4 2 n o2 = !inR 0 (n - 1) o2 := rfl
      rcases k with ⟨i, x, ⟨⟨o, ho, hb⟩, first⟩, hx, kR⟩ | ⟨ok, as, ea, kT⟩
      · rcases i with _ | _ | _ | i
        · cases ho
          cases hx
          rw [b0] at hb
          exact .inl ⟨(by simpa using hb), fun d H' nd s hd => ⟨true, T.Me_InvalidNumber_InvalidNumber, fun _ a ha => ⟨_, rfl, rfl, _, d, _, _, rfl, T.X_InvalidNumber.x, T.nX_InvalidNumber, rfl, hd, rfl, (by show 2 ≤ sizeLine; decide), fun q hq => kR q _ (s.trans (Same.new hq)) upd_same⟩, fun z => nomatch z⟩⟩
        · cases ho
          cases hx
          rw [b1] at hb
          have g0 := first 0 _ (by omega) rfl
          rw [b0] at g0
          exact .inr (.inl ⟨(by simpa using g0), (by simpa using hb), fun d H' nd s hd => ⟨true, T.Me_InvalidNumber_InvalidNumber, fun _ a ha => ⟨_, rfl, rfl, _, d, _, _, rfl, T.X_InvalidNumber.x, T.nX_InvalidNumber, rfl, hd, rfl, (by show 2 ≤ sizeLine; decide), fun q hq => kR q _ (s.trans (Same.new hq)) upd_same⟩, fun z => nomatch z⟩⟩)
        · cases ho
          cases hx
          rw [b2] at hb
          have g0 := first 0 _ (by omega) rfl
          rw [b0] at g0
          have g1 := first 1 _ (by omega) rfl
          rw [b1] at g1
          exact .inr (.inr (.inl ⟨(by simpa using g0), (by simpa using g1), (by simpa using hb), fun d H' nd s hd => ⟨true, T.Me_InvalidNumber_InvalidNumber, fun _ a ha => ⟨_, rfl, rfl, _, d, _, _, rfl, T.X_InvalidNumber.x, T.nX_InvalidNumber, rfl, hd, rfl, (by show 2 ≤ sizeLine; decide), fun q hq => kR q _ (s.trans (Same.new hq)) upd_same⟩, fun z => nomatch z⟩⟩))
        · cases ho
      · obtain ⟨a0, a1, a2, rfl⟩ : ∃ a0 a1 a2, as = [a0, a1, a2] := by
          match as, ea with
          | [a0, a1, a2], _ => exact ⟨_, _, _, rfl⟩
        cases ea
        have g0 := ok 0 _ rfl
        rw [b0] at g0
        obtain ⟨c0, e0, r0⟩ := inR_get (show inR 0 (n - 1) (some a0) = true by simpa using g0)
        cases e0
        have g1 := ok 1 _ rfl
        rw [b1] at g1
        obtain ⟨c1, e1, r1⟩ := inR_get (show inR 0 (n - 1) (some a1) = true by simpa using g1)
        cases e1
        have g2 := ok 2 _ rfl
        rw [b2] at g2
        obtain ⟨c2, e2, r2⟩ := inR_get (show inR 0 (n - 1) (some a2) = true by simpa using g2)
        cases e2
        exact .inr (.inr (.inr ⟨a0, a1, a2, rfl, rfl, rfl, r0, r1, r2, _, rfl, (by show 2 ≤ sizeLine; decide), fun q hq => kT q _ (Same.new hq) upd_same⟩))
/-! ### what is wanted -/
def sp__law_wanted (K : PySem.W.Frag) : Sp := fun vs H Q _ => ∃ (way : Nat) (h : Addr) (n : Int) (as : List Int), vs = [.int way, .ref h, .int n] ∧ way < 5 ∧ 0 < n ∧ H h = some (.lst (as.map V.int)) ∧ as.length = manyOf way ∧ Q (tells n way as) H
theorem ok__law_wanted (T : Txt K mg) : FnOk P w K mg base CX0 1 T.a__law_wanted T.fd__law_wanted ["way", "handed", "width"] (sp__law_wanted K) := by
  have S := sc__law_wanted
  refine T.F__law_wanted.ok S (fun vs H Q E h => ?_) (fun cdv A outer s H vs Q E hr h => ?_)
  · obtain ⟨way, h, n, as, rfl, _⟩ := h
    rfl
  · obtain ⟨way, h, n, as, rfl, hw, n0, hh, hl, k⟩ := h
    refine ⟨_, (pss_cons (ps_set (i := 3) S.nd rfl (Or.inl rfl) (pe_ix ix_list (pv 1) pe_int (fun _ _ => rfl)))
      (pss_cons (ps_if (pt_cmpR op_eq (pv 0) pe_int (nomark _)) (pss_one (ps_ret (pe_op op_mod (pe_callTy (T := "int") call_int1 (by rfl) T.b_int (by decide +kernel) (pa_cons (pv 3) pa_nil)) (pv 2)))) pss_nil)
      (pss_cons (ps_set (i := 4) S.nd rfl (Or.inl rfl) (pe_ix ix_list (pv 1) pe_int (fun _ _ => rfl)))
      (pss_cons (ps_if (pt_cmpR op_eq (pv 0) pe_int (nomark _)) (pss_one (ps_ret (pe_op op_add (pe_op op_sub (pv 4) (pe_op op_fdiv (pv 2) pe_int)) (pe_op op_mod (pe_callTy (T := "int") call_int1 (by rfl) T.b_int (by decide +kernel) (pa_cons (pe_op op_add (pe_op op_sub (pv 3) (pv 4)) (pe_op op_fdiv (pv 2) pe_int)) pa_nil)) (pv 2))))) pss_nil)
      (pss_cons (ps_if (pt_cmpR op_eq (pv 0) pe_int (nomark _)) (pss_one (ps_ret (pe_op op_mod (pe_callTy (T := "int") call_int1 (by rfl) T.b_int (by decide +kernel) (pa_cons (pe_op op_sub (pv 4) (pv 3)) pa_nil)) (pv 2)))) pss_nil)
      (pss_cons (ps_if (pt_cmpR op_eq (pv 0) pe_int (nomark _)) (pss_one (ps_ret (pe_chain op_le op_lt pe_int (pe_op op_mod (pe_callTy (T := "int") call_int1 (by rfl) T.b_int (by decide +kernel) (pa_cons (pe_op op_sub (pv 4) (pv 3)) pa_nil)) (pv 2)) (pe_op op_fdiv (pv 2) pe_int)))) pss_nil)
      (pss_one (ps_ret (pe_cmpR op_lt (pe_op op_mod (pe_callTy (T := "int") call_int1 (by rfl) T.b_int (by decide +kernel) (pa_cons (pe_op op_sub (pv 4) (pv 3)) pa_nil)) (pv 2)) (pe_op op_mod (pe_callTy (T := "int") call_int1 (by rfl) T.b_int (by decide +kernel) (pa_cons (pe_op op_sub (pe_ix ix_list (pv 1) pe_int (fun _ _ => rfl)) (pv 3)) pa_nil)) (pv 2)) (nomark _)))))))))), ?_⟩
    rcases (show way = 0 ∨ way = 1 ∨ way = 2 ∨ way = 3 ∨ way = 4 by omega) with rfl | rfl | rfl | rfl | rfl
    · obtain ⟨a, rfl⟩ : ∃ a, as = [a] := by
        match as, hl with
        | [a], _ => exact ⟨a, rfl⟩
      refine ⟨_, rfl, _, _, _, _, rfl, rfl, SqL.of hh, rfl, ?_⟩
      refine ⟨_, rfl, rfl, true, bl_t (int_eq rfl), _, rfl, .inl ⟨_, rfl, _, rfl, _, _, rfl, rfl, n0, k⟩⟩
    · obtain ⟨a, b, rfl⟩ : ∃ a b, as = [a, b] := by
        match as, hl with
        | [a, b], _ => exact ⟨a, b, rfl⟩
      refine ⟨_, rfl, _, _, _, _, rfl, rfl, SqL.of hh, rfl, _, rfl, rfl, false, bl_f (int_ne (by decide)), _, rfl, _, _, _, _, rfl, rfl, SqL.of hh, rfl, ?_⟩
      refine ⟨_, rfl, rfl, true, bl_t (int_eq rfl), ?_⟩
      refine ⟨_, rfl, _, rfl, _, _, rfl, rfl, ⟨by decide, by decide⟩, _, _, rfl, rfl, ?_⟩
      refine ⟨_, rfl, _, rfl, _, _, rfl, rfl, _, rfl, _, _, rfl, rfl, ⟨by decide, by decide⟩, _, _, rfl, rfl, .inl ⟨_, rfl, _, rfl, _, _, rfl, rfl, n0, _, _, rfl, rfl, ?_⟩⟩
      have e : tells n 1 [a, b] = V.int (b - n / 2 + (a - b + n / 2) % n) := by
        show V.int (b - n / 2 + (a - (b - n / 2)) % n) = _
        rw [show a - (b - n / 2) = a - b + n / 2 by omega]
      rw [e] at k
      exact k
    · obtain ⟨a, b, rfl⟩ : ∃ a b, as = [a, b] := by
        match as, hl with
        | [a, b], _ => exact ⟨a, b, rfl⟩
      refine ⟨_, rfl, _, _, _, _, rfl, rfl, SqL.of hh, rfl, _, rfl, rfl, false, bl_f (int_ne (by decide)), _, rfl, _, _, _, _, rfl, rfl, SqL.of hh, rfl, ?_⟩
      refine ⟨_, rfl, rfl, false, bl_f (int_ne (by decide)), _, rfl, rfl, true, bl_t (int_eq rfl), ?_⟩
      exact ⟨_, rfl, _, rfl, _, _, rfl, rfl, .inl ⟨_, rfl, _, rfl, _, _, rfl, rfl, n0, k⟩⟩
    · obtain ⟨a, b, rfl⟩ : ∃ a b, as = [a, b] := by
        match as, hl with
        | [a, b], _ => exact ⟨a, b, rfl⟩
      refine ⟨_, rfl, _, _, _, _, rfl, rfl, SqL.of hh, rfl, _, rfl, rfl, false, bl_f (int_ne (by decide)), _, rfl, _, _, _, _, rfl, rfl, SqL.of hh, rfl, ?_⟩
      refine ⟨_, rfl, rfl, false, bl_f (int_ne (by decide)), _, rfl, rfl, false, bl_f (int_ne (by decide)), _, rfl, rfl, true, bl_t (int_eq rfl), ?_⟩
      refine ⟨_, rfl, _, rfl, _, _, rfl, rfl, .inl ⟨_, rfl, _, rfl, _, _, rfl, rfl, n0, _, _, rfl, rfl, _, rfl, ?_⟩⟩
      have k' : Q (.bl (decide (1 ≤ (b - a) % n) && decide ((b - a) % n < n / 2))) H := k
      by_cases q : 1 ≤ (b - a) % n
      · rw [decide_eq_true q, Bool.true_and] at k'
        rw [decide_eq_true q]
        exact ⟨_, rfl, _, _, rfl, rfl, ⟨by decide, by decide⟩, _, _, rfl, rfl, k'⟩
      · rw [decide_eq_false q, Bool.false_and] at k'
        rw [decide_eq_false q]
        exact k'
    · obtain ⟨a, b, d, rfl⟩ : ∃ a b d, as = [a, b, d] := by
        match as, hl with
        | [a, b, d], _ => exact ⟨a, b, d, rfl⟩
      refine ⟨_, rfl, _, _, _, _, rfl, rfl, SqL.of hh, rfl, _, rfl, rfl, false, bl_f (int_ne (by decide)), _, rfl, _, _, _, _, rfl, rfl, SqL.of hh, rfl, ?_⟩
      refine ⟨_, rfl, rfl, false, bl_f (int_ne (by decide)), _, rfl, rfl, false, bl_f (int_ne (by decide)), _, rfl, rfl, false, bl_f (int_ne (by decide)), ?_⟩
      refine ⟨_, rfl, _, rfl, _, _, rfl, rfl, .inl ⟨_, rfl, _, rfl, _, _, rfl, rfl, n0, ?_⟩⟩
      exact ⟨_, rfl, _, _, _, _, rfl, rfl, SqL.of hh, rfl, _, rfl, _, _, rfl, rfl, .inl ⟨_, rfl, _, rfl, _, _, rfl, rfl, n0, _, _, rfl, rfl, k⟩⟩
/-! ### equality of rings -/
theorem Purse.ring {C : Addr} {H : Hp} {p c r : Addr} {n : Int} (P : Purse p c H) (R : RingAt C H r n) : r ≠ p := by
  obtain ⟨cs, _, _, _, _, h, _⟩ := P.ex
  obtain ⟨dx, h'⟩ := R
  exact ne_of h' h (fun e => nomatch e)
theorem RingAt.on {C : Addr} {H H' : Hp} {p r : Addr} {n : Int} (R : RingAt C H r n) (ne : r ≠ p) (s : SameX p H H') : RingAt C H' r n := by
  obtain ⟨dx, h'⟩ := R
  exact ⟨dx, s _ _ ne h'⟩
theorem RingAt.same {C : Addr} {H H' : Hp} {r : Addr} {n : Int} (R : RingAt C H r n) (s : Same H H') : RingAt C H' r n := by
  obtain ⟨dx, h'⟩ := R
  exact ⟨dx, s _ _ h'⟩
def sp__law_equals (K : PySem.W.Frag) (C : Addr) : Sp := fun vs H Q _ => ∃ (p r : Addr) (b : Nat), vs = [.ref p, .ref r, .int (2 ^ b)] ∧ ∃ c, Purse p c H ∧ RingAt C H r (2 ^ b) ∧ 6 ≤ b ∧ b ≤ 32 ∧ ∀ H', Purse p c H' → SameX p H H' → Q (.bl true) H'
theorem ok__law_equals (T : Txt K mg) : FnOk P w K mg base CX0 6 T.a__law_equals T.fd__law_equals ["purse", "ring", "width"] (sp__law_equals K T.c_Ring) := by
  have S := sc__law_equals
  refine T.F__law_equals.ok S (fun vs H Q E h => ?_) (fun cdv A outer s H vs Q E hr h => ?_)
  · obtain ⟨p, r, b, rfl, _⟩ := h
    rfl
  · obtain ⟨p, r, b, rfl, c, P0, hR, b6, b32, k⟩ := h
    have nrp := P0.ring hR
    refine ⟨_, (pss_cons (ps_set (i := 3) S.nd rfl (Or.inl rfl) (pe_call (ok__law_width T) (hr.mono (by decide)) rfl T.g__law_width T.F__law_width.kp T.B__law_width .nil pass0 (pa_cons (pe_op op_add pe_int (pe_call (ok__law_draw T) (hr.mono (by decide)) rfl T.g__law_draw T.F__law_draw.kp T.B__law_draw .nil pass0 (pa_cons (pv 0) (pa_cons pe_int pa_nil)))) pa_nil)))
      (C8.pss_cut (ps_if (pt_cmpR op_eq (pe_call (ok__law_draw T) (hr.mono (by decide)) rfl T.g__law_draw T.F__law_draw.kp T.B__law_draw .nil pass0 (pa_cons (pv 0) (pa_cons pe_int pa_nil))) pe_int (nomark _)) (pss_one (ps_set (i := 3) S.nd rfl (Or.inl rfl) (pv 2))) pss_nil)
      (pss_cons (ps_if (PW.pt (pw_or (pt_not (pt_val (pe_call (ok__law_truth T) (hr.mono (by decide)) rfl T.g__law_truth T.F__law_truth.kp T.B__law_truth .nil pass0 (pa_cons (pe_cmpR (op_ownEq T.m_Ring_eq_ (ok_Ring_eq_ T) (hr.mono (by decide)) T.B_Ring_eq_ pass0) (pv 1) (pe_make T.M_Ring (ok_Ring_init_ T) (hr.mono (by decide)) rfl T.g_Ring T.B_Ring_init_ .nil passL (pa_cons (pv 3) pa_nil)) (nomark _)) (pa_cons (pe_cmpR op_eq (pv 2) (pv 3) (nomark _)) pa_nil))))) (pw_or1 (pt_not (pt_val (pe_call (ok__law_truth T) (hr.mono (by decide)) rfl T.g__law_truth T.F__law_truth.kp T.B__law_truth .nil pass0 (pa_cons (pe_cmpR (op_ownEq T.m_Ring_eq_ (ok_Ring_eq_ T) (hr.mono (by decide)) T.B_Ring_eq_ pass0) (pv 1) (pv 2) (nomark _)) (pa_cons pe_bl pa_nil)))))))) (pss_one (ps_ret pe_bl)) pss_nil)
      (pss_one (ps_ret (pe_call (ok__law_truth T) (hr.mono (by decide)) rfl T.g__law_truth T.F__law_truth.kp T.B__law_truth .nil pass0 (pa_cons (pe_cmpR (op_ownEq T.m_Ring_eq_ (ok_Ring_eq_ T) (hr.mono (by decide)) T.B_Ring_eq_ pass0) (pv 1) (pe_call (ok__law_kind T) (hr.mono (by decide)) rfl T.g__law_kind T.F__law_kind.kp T.B__law_kind .nil pass0 (pa_cons (pv 0) pa_nil)) (nomark _)) (pa_cons pe_bl pa_nil)))))))), ?_⟩
    refine ⟨_, rfl, p, 27, rfl, c, P0, by decide, by decide, fun d H1 d0 d1 P1 s1 => ⟨_, _, rfl, rfl, ?_⟩⟩
    obtain ⟨e, he⟩ : ∃ e : Nat, 6 + d = (e : Int) := ⟨(6 + d).toNat, by omega⟩
    refine ⟨e, by rw [← he]; rfl, by omega, ?_⟩
    refine ⟨fun σ H' => ∃ (f : Nat), σ = [some (.ref p), some (.ref r), some (.int (2 ^ b)), some (.int (2 ^ f))] ∧ 6 ≤ f ∧ f ≤ 32 ∧ Purse p c H' ∧ SameX p H H', ?_, ?_⟩
    · refine ⟨_, rfl, p, 2, rfl, c, P1, by decide, by decide, fun g H2 g0 g1 P2 s2 => ⟨rfl, _, rfl, ?_⟩⟩
      exact ite2 (fun _ => ⟨_, rfl, b, rfl, b6, b32, P2, s1.trans s2⟩) (fun _ => ⟨e, rfl, by omega, by omega, P2, s1.trans s2⟩)
    · rintro σ H2 ⟨f, rfl, f6, f32, P2, s2⟩
      have hR2 := hR.on nrp s2
      obtain ⟨dr, hr2⟩ := id hR2
      refine ⟨_, rfl, _, rfl, fun q dx nq nd ne => ?_⟩
      have sq : Same H2 (upd (upd H2 dx (.own q)) q (.ins T.c_Ring dx [])) := fun a w z => by
        rw [upd_ne (ne_of_none z nq), upd_ne (ne_of_none z nd)]
        exact z
      refine ⟨q, dx, .int (2 ^ f), some (2 ^ f), rfl, upd_same, rfl, .inl ⟨f, ⟨rfl, f6, f32⟩, fun H3 s3 hq => ⟨rfl, ?_⟩⟩⟩
      have s23 := made_same nq nd s3
      have hR3 := hR2.same s23
      obtain ⟨dr3, hr3⟩ := id hR3
      refine ⟨r, dr3, _, _, rfl, hr3, ring_ty hq, (by unfold PySem.W.notFirst; rw [beq_self_eq_true]; rfl), r, 2 ^ b, _, rfl, hR3, .inl ⟨q, 2 ^ f, rfl, ⟨dx, hq⟩, _, rfl, ?_⟩⟩
      refine ⟨_, rfl, _, rfl, rfl, _, _, rfl, true, congrArg V.bl (by rw [dec_int, beq_self_eq_true]), ?_⟩
      have ti : ∀ {H' : Hp} (n : Int), NoRing K T.c_Ring H' (.int n) := fun {H'} n => ⟨_, .base (.int n), T.KR_int.at 0 _ _ rfl, by unfold PySem.W.notFirst; rw [T.sub_int]; exact Bool.or_true _⟩
      obtain ⟨t1, ty1, kt1, nf1⟩ := ti (H' := H3) (2 ^ b)
      refine ⟨_, rfl, _, rfl, r, dr3, _, t1, rfl, hr3, ty1, nf1, r, 2 ^ b, _, rfl, hR3, .inr ⟨⟨t1, ty1, kt1, nf1⟩, _, rfl, ?_⟩⟩
      refine ⟨_, _, rfl, true, rfl, ?_⟩
      refine ⟨_, rfl, _, rfl, p, rfl, c, P2.same s23, fun v d H4 ho hf P4 s4 => ?_⟩
      have hR4 := hR3.on nrp s4
      obtain ⟨dr4, hr4⟩ := id hR4
      obtain ⟨t2, ty2, kt2, nf2⟩ := Odd.ring (T := T) ho
      refine ⟨r, dr4, _, t2, rfl, hr4, ty2, nf2, r, 2 ^ b, _, rfl, hR4, .inr ⟨⟨t2, ty2, kt2, nf2⟩, _, rfl, ?_⟩⟩
      exact ⟨_, _, rfl, k _ P4 ((s2.trans (.of s23)).trans s4)⟩
/-! ### the law of the sizes -/
theorem Kd.on {K : PySem.W.Frag} {H H' : Hp} {v : V} {o : Option Int} {p c : Addr} (h : Kd K H v o) (P : Purse p c H) (P' : Purse p c H') (s : SameX p H H') : Kd K H' v o := h.typ (Typ.purse P P' s)
theorem pow_small {b : Nat} (h : b ≤ 32) : ((2 : Int) ^ b).natAbs < 2 ^ 60 := by
  have e : ((2 : Int) ^ b).natAbs = 2 ^ b := by
    rw [Int.natAbs_pow]
    rfl
  rw [e]
  exact Nat.pow_lt_pow_right (by decide) (by omega)
def SizW (H : Hp) (o : Option Int) (q : Addr) : Prop := (∃ b, Pow2 o b ∧ H q = some (.tup [.str "made", .int (2 ^ b)])) ∨ ((∀ b, ¬ Pow2 o b) ∧ H q = some (.tup [.str "refused", .str "size"]))
def BitW (H : Hp) (o : Option Int) (q : Addr) : Prop := (∃ b : Nat, o = some (b : Int) ∧ 6 ≤ b ∧ b ≤ 32 ∧ H q = some (.tup [.str "made", .int (2 ^ b)])) ∨ (inR 6 32 o = false ∧ H q = some (.tup [.str "refused", .str "bits"]))
theorem shown_word (x : Str) (h : (reprText x).length ≤ 2000) : Shown (.str x) := ⟨rfl, by simp only [PyData.depth]; omega, by simp only [PyData.shown]; exact h⟩
theorem tup_purse {H H' : Hp} {p c q : Addr} {xs : List V} (P : Purse p c H) (s : SameX p H H') (h : H q = some (.tup xs)) : H' q = some (.tup xs) := by
  obtain ⟨⟨_, hp⟩, _⟩ := P.there
  exact s _ _ (ne_of h hp fun z => nomatch z) h
def sp__law_sizes (K : PySem.W.Frag) : Sp := fun vs H Q _ => ∃ p : Addr, vs = [.ref p] ∧ ∃ c, Purse p c H ∧ ∀ H', Purse p c H' → SameX p H H' → Q (.bl true) H'
theorem ok__law_sizes (T : Txt K mg) : FnStill P w K mg base 9 T.a__law_sizes T.fd__law_sizes ["purse"] (sp__law_sizes K) := by
  have S := sc__law_sizes
  refine still_fn T.F__law_sizes S (fun vs H Q E h => ?_) (fun cdv A outer s H vs Q E hg hr h => ?_)
  · obtain ⟨p, rfl, _⟩ := h
    rfl
  · obtain ⟨p, rfl, c, P0, k⟩ := h
    obtain ⟨⟨_, hp⟩, _⟩ := P0.there
    refine ⟨_, (pss_cons (ps_set (i := 1) S.nd rfl (Or.inl rfl) (pe_ix ix_list (pe_lst (pa_cons pe_int (pa_cons pe_int (pa_cons pe_int (pa_cons pe_int (pa_cons pe_int (pa_cons pe_int (pa_cons (pe_un un_neg pe_int) (pa_cons pe_int (pa_cons pe_int (pa_cons pe_bl (pa_cons pe_non (pa_cons pe_str (pa_cons pe_str (pa_cons (pe_tup (pa_cons pe_int pa_nil)) (pa_cons (pe_lst (pa_cons pe_int pa_nil)) (pa_cons pe_dnewK (pa_cons pe_int pa_nil)))))))))))))))))) (pe_call (ok__law_draw T) (hr.mono (by decide)) rfl T.g__law_draw T.F__law_draw.kp T.B__law_draw .nil pass0 (pa_cons (pv 0) (pa_cons pe_int pa_nil))) (fun _ _ => rfl)))
      (pss_cons (ps_set (i := 2) S.nd rfl (Or.inl rfl) (pe_call (ok__law_draw T) (hr.mono (by decide)) rfl T.g__law_draw T.F__law_draw.kp T.B__law_draw .nil pass0 (pa_cons (pv 0) (pa_cons pe_int pa_nil))))
      (C8.pss_cut (ps_if (pt_cmpR op_eq (pv 2) pe_int (nomark _)) (pss_one (ps_set (i := 1) S.nd rfl (Or.inl rfl) (pe_op op_sub (pe_op op_add (pe_call (ok__law_width T) (hr.mono (by decide)) rfl T.g__law_width T.F__law_width.kp T.B__law_width .nil pass0 (pa_cons (pe_op op_add pe_int (pe_call (ok__law_draw T) (hr.mono (by decide)) rfl T.g__law_draw T.F__law_draw.kp T.B__law_draw .nil pass0 (pa_cons (pv 0) (pa_cons pe_int pa_nil)))) pa_nil)) (pe_call (ok__law_draw T) (hr.mono (by decide)) rfl T.g__law_draw T.F__law_draw.kp T.B__law_draw .nil pass0 (pa_cons (pv 0) (pa_cons pe_int pa_nil)))) pe_int))) pss_nil)
      (C8.pss_cut (ps_if (pt_cmpR op_eq (pv 2) pe_int (nomark _)) (pss_one (ps_set (i := 1) S.nd rfl (Or.inl rfl) (pe_call (ok__law_number T) (hr.mono (by decide)) rfl T.g__law_number T.F__law_number.kp T.B__law_number .nil pass0 (pa_cons (pv 0) (pa_cons pe_int pa_nil))))) pss_nil)
      (pss_cons (ps_set (i := 3) S.nd rfl (Or.inl rfl) (pe_tup (pa_cons pe_str (pa_cons pe_str pa_nil))))
      (C8.pss_cut (ps_if (pt_val (pe_call (ok__law_is_size T) (hr.mono (by decide)) rfl T.g__law_is_size T.F__law_is_size.kp T.B__law_is_size .nil pass0 (pa_cons (pv 1) pa_nil))) (pss_one (ps_set (i := 3) S.nd rfl (Or.inl rfl) (pe_tup (pa_cons pe_str (pa_cons (pv 1) pa_nil))))) pss_nil)
      (C8.pss_cut (ps_if (pt_cmpR op_ne (pe_callB (id := "repr") (call_reprT hg (room_un hr)) (by rfl) T.b_repr (by decide +kernel) (pa_cons (pe_call (ok__law_sized T) (hr.mono (by decide)) rfl T.g__law_sized T.F__law_sized.kp T.B__law_sized .nil pass0 (pa_cons (pv 1) pa_nil)) pa_nil)) (pe_callB (id := "repr") (call_reprT hg (room_un hr)) (by rfl) T.b_repr (by decide +kernel) (pa_cons (pv 3) pa_nil)) (nomark _)) (pss_one (ps_ret pe_bl)) pss_nil)
      (pss_cons (ps_set (i := 4) S.nd rfl (Or.inl rfl) (pe_op op_sub (pe_call (ok__law_draw T) (hr.mono (by decide)) rfl T.g__law_draw T.F__law_draw.kp T.B__law_draw .nil pass0 (pa_cons (pv 0) (pa_cons pe_int pa_nil))) pe_int))
      (pss_cons (ps_set (i := 3) S.nd rfl (Or.inl rfl) (pe_tup (pa_cons pe_str (pa_cons pe_str pa_nil))))
      (C8.pss_cut (ps_if (pt_chain op_le op_le pe_int (pv 4) pe_int) (pss_one (ps_set (i := 3) S.nd rfl (Or.inl rfl) (pe_tup (pa_cons pe_str (pa_cons (pe_call (ok__law_width T) (hr.mono (by decide)) rfl T.g__law_width T.F__law_width.kp T.B__law_width .nil pass0 (pa_cons (pv 4) pa_nil)) pa_nil))))) pss_nil)
      (C8.pss_cut (ps_if (pt_cmpR op_eq (pe_call (ok__law_draw T) (hr.mono (by decide)) rfl T.g__law_draw T.F__law_draw.kp T.B__law_draw .nil pass0 (pa_cons (pv 0) (pa_cons pe_int pa_nil))) pe_int (nomark _)) (pss_cons (ps_set (i := 4) S.nd rfl (Or.inl rfl) (pe_call (ok__law_kind T) (hr.mono (by decide)) rfl T.g__law_kind T.F__law_kind.kp T.B__law_kind .nil pass0 (pa_cons (pv 0) pa_nil)))
      (pss_one (ps_set (i := 3) S.nd rfl (Or.inl rfl) (pe_tup (pa_cons pe_str (pa_cons pe_str pa_nil)))))) pss_nil)
      (pss_one (ps_ret (pe_cmpR op_eq (pe_callB (id := "repr") (call_reprT hg (room_un hr)) (by rfl) T.b_repr (by decide +kernel) (pa_cons (pe_call (ok__law_bitten T) (hr.mono (by decide)) rfl T.g__law_bitten T.F__law_bitten.kp T.B__law_bitten .nil pass0 (pa_cons (pv 4) pa_nil)) pa_nil)) (pe_callB (id := "repr") (call_reprT hg (room_un hr)) (by rfl) T.b_repr (by decide +kernel) (pa_cons (pv 3) pa_nil)) (nomark _))))))))))))))), ?_⟩
    refine ⟨_, rfl, (by show 1 ≤ sizeLine; decide), fun t ht => ⟨(by show 1 ≤ sizeLine; decide), fun l hl => fun d hd => ⟨(by show 17 ≤ sizeLine; decide), fun L hL => ?_⟩⟩⟩
    have n1 : Same H (upd H t (.tup [.int 64])) := Same.new ht
    have n2 := n1.trans (Same.new (o := .lst [.int 64]) hl)
    have n3 := n2.trans (Same.new (o := .dK []) hd)
    have n4 := n3.trans (Same.new (o := .lst [.int 0, .int 1, .int 32, .int 63, .int 65, .int 96, .int (-64), .int 8589934592, .int 4294967297, .bl true, .non, .str "64", .str "", .ref t, .ref l, .ref d, .int 6]) hL)
    have tp : t ≠ p := (ne_of_none hp ht).symm
    have lp : l ≠ p := (ne_of_none (n1 _ _ hp) hl).symm
    have dp : d ≠ p := (ne_of_none (n2 _ _ hp) hd).symm
    have Lp : L ≠ p := (ne_of_none (n3 _ _ hp) hL).symm
    refine ⟨_, rfl, p, 17, rfl, c, P0.same n4, by decide, by decide, fun e H6 e0 e1 P6 s6 => ?_⟩
    have ft := s6 _ _ tp ((Same.new hL) _ _ ((Same.new hd) _ _ ((Same.new hl) _ _ upd_same)))
    have fl := s6 _ _ lp ((Same.new hL) _ _ ((Same.new hd) _ _ upd_same))
    have fd := s6 _ _ dp ((Same.new hL) _ _ upd_same)
    have fL := s6 _ _ Lp upd_same
    have s06 := (SameX.of (a := p) n4).trans s6
    have hat : ∃ v o, atI ([.int 0, .int 1, .int 32, .int 63, .int 65, .int 96, .int (-64), .int 8589934592, .int 4294967297, .bl true, .non, .str "64", .str "", .ref t, .ref l, .ref d, .int 6] : List V) e = some v ∧ Kd K H6 v o := by
      rcases (show e = 0 ∨ e = 1 ∨ e = 2 ∨ e = 3 ∨ e = 4 ∨ e = 5 ∨ e = 6 ∨ e = 7 ∨ e = 8 ∨ e = 9 ∨ e = 10 ∨ e = 11 ∨ e = 12 ∨ e = 13 ∨ e = 14 ∨ e = 15 ∨ e = 16 by omega) with rfl | rfl | rfl | rfl | rfl | rfl | rfl | rfl | rfl | rfl | rfl | rfl | rfl | rfl | rfl | rfl | rfl
      · exact ⟨_, some 0, rfl, rfl⟩
      · exact ⟨_, some 1, rfl, rfl⟩
      · exact ⟨_, some 32, rfl, rfl⟩
      · exact ⟨_, some 63, rfl, rfl⟩
      · exact ⟨_, some 65, rfl, rfl⟩
      · exact ⟨_, some 96, rfl, rfl⟩
      · exact ⟨_, some (-64), rfl, rfl⟩
      · exact ⟨_, some 8589934592, rfl, rfl⟩
      · exact ⟨_, some 4294967297, rfl, rfl⟩
      · exact ⟨_, none, rfl, intK_no (.base (.bl true)) (i := true) (b := true) (by decide +kernel) (by decide +kernel) rfl⟩
      · exact ⟨_, none, rfl, intK_no (.base .non) (i := false) (b := false) (by decide +kernel) (by decide +kernel) rfl⟩
      · exact ⟨_, none, rfl, intK_no (.base (.str _)) (i := false) (b := false) (by decide +kernel) (by decide +kernel) rfl⟩
      · exact ⟨_, none, rfl, intK_no (.base (.str _)) (i := false) (b := false) (by decide +kernel) (by decide +kernel) rfl⟩
      · exact ⟨_, none, rfl, intK_no (.base (.tup ft)) (i := false) (b := false) (by decide +kernel) (by decide +kernel) rfl⟩
      · exact ⟨_, none, rfl, intK_no (.base (.lst fl)) (i := false) (b := false) (by decide +kernel) (by decide +kernel) rfl⟩
      · exact ⟨_, none, rfl, intK_no (.base (.dK fd)) (i := false) (b := false) (by decide +kernel) (by decide +kernel) rfl⟩
      · exact ⟨_, some 6, rfl, rfl⟩
    obtain ⟨v, o, hv, hk⟩ := hat
    refine ⟨_, _, _, _, rfl, rfl, SqL.of fL, hv, ?_⟩
    refine ⟨_, rfl, p, 3, rfl, c, P6, by decide, by decide, fun w H7 w0 w1 P7 s7 => ?_⟩
    have hk7 := hk.on P6 P7 s7
    have s07 := s06.trans s7
    refine ⟨fun σ H' => ∃ v o, σ = [some (.ref p), some v, some (.int w), none, none] ∧ Kd K H' v o ∧ Purse p c H' ∧ SameX p H H', ?_, ?_⟩
    · by_cases q : w = 1
      · refine ⟨_, rfl, rfl, true, bl_t (int_eq q), ?_⟩
        refine ⟨_, rfl, p, 27, rfl, c, P7, by decide, by decide, fun f H8 f0 f1 P8 s8 => ⟨_, _, rfl, rfl, ?_⟩⟩
        obtain ⟨g, hg⟩ : ∃ g : Nat, 6 + f = (g : Int) := ⟨(6 + f).toNat, by omega⟩
        refine ⟨g, by rw [← hg]; rfl, by omega, ?_⟩
        refine ⟨_, rfl, p, 3, rfl, c, P8, by decide, by decide, fun f2 H9 g0 g1 P9 s9 => ⟨_, _, rfl, rfl, _, _, rfl, rfl, ?_⟩⟩
        exact ⟨_, some _, rfl, rfl, P9, (s07.trans s8).trans s9⟩
      · exact ⟨_, rfl, rfl, false, bl_f (int_ne q), v, o, rfl, hk7, P7, s07⟩
    rintro σ H8 ⟨v, o, rfl, hk8, P8, s8⟩
    refine ⟨fun σ H' => ∃ v o, σ = [some (.ref p), some v, some (.int w), none, none] ∧ Kd K H' v o ∧ Purse p c H' ∧ SameX p H H', ?_, ?_⟩
    · by_cases q : w = 2
      · refine ⟨_, rfl, rfl, true, bl_t (int_eq q), ?_⟩
        exact ⟨_, rfl, p, 4294967296, rfl, c, P8, by decide, fun f H9 f0 f1 P9 s9 => ⟨_, some _, rfl, rfl, P9, s8.trans s9⟩⟩
      · exact ⟨_, rfl, rfl, false, bl_f (int_ne q), v, o, rfl, hk8, P8, s8⟩
    rintro σ H9 ⟨v, o, rfl, hk9, P9, s9⟩
    refine ⟨(by show 2 ≤ sizeLine; decide), fun q hq => ?_⟩
    have sq : Same H9 (upd H9 q (.tup [.str "refused", .str "size"])) := Same.new hq
    refine ⟨fun σ H' => ∃ q, σ = [some (.ref p), some v, some (.int w), some (.ref q), none] ∧ Kd K H' v o ∧ Purse p c H' ∧ SameX p H H' ∧ SizW H' o q, ?_, ?_⟩
    · refine ⟨_, rfl, v, o, rfl, hk9.same sq, ?_⟩
      by_cases z : ∃ b, Pow2 o b
      · refine .inl ⟨z, _, rfl, ?_⟩
        obtain ⟨b, rfl, b6, b32⟩ := z
        obtain rfl : v = .int (2 ^ b) := hk9
        refine ⟨_, rfl, (by show 2 ≤ sizeLine; decide), fun r hr1 => ?_⟩
        exact ⟨r, rfl, rfl, (P9.same sq).same (Same.new hr1), s9.trans (.of (sq.trans (Same.new hr1))), .inl ⟨b, ⟨rfl, b6, b32⟩, upd_same⟩⟩
      · exact .inr ⟨fun b hb => z ⟨b, hb⟩, _, rfl, q, rfl, hk9.same sq, P9.same sq, s9.trans (.of sq), .inr ⟨fun b hb => z ⟨b, hb⟩, upd_same⟩⟩
    rintro σ Ha ⟨q1, rfl, hka, Pa, sa, hW⟩
    clear hq sq
    refine ⟨fun σ H' => ∃ q, σ = [some (.ref p), some v, some (.int w), some (.ref q), none] ∧ Purse p c H' ∧ SameX p H H', ?_, ?_⟩
    · refine ⟨_, rfl, v, o, rfl, hka, ?_⟩
      rcases hW with ⟨b, hb, hq1⟩ | ⟨no, hq1⟩
      · refine .inl ⟨b, hb, fun q2 Hb sb h2 => ?_⟩
        refine ⟨_, _, _, _, rfl, SqT.of h2, (.dp (.int _)), (Shown.int (pow_small hb.2.2)).sh, Nat.le_trans (Shown.int (pow_small hb.2.2)).dp (by decide), pair_len (Shown.int (pow_small hb.2.2)) (by decide +kernel), ?_⟩
        refine ⟨_, rfl, ⟨_, _, _, _, rfl, SqT.of (sb _ _ hq1), (.dp (.int _)), (Shown.int (pow_small hb.2.2)).sh, Nat.le_trans (Shown.int (pow_small hb.2.2)).dp (by decide), pair_len (Shown.int (pow_small hb.2.2)) (by decide +kernel), rfl, false, bln_t rfl, ?_⟩⟩
        exact ⟨q1, rfl, Pa.same sb, sa.trans (.of sb)⟩
      · refine .inr ⟨no, fun q2 Hb sb h2 => ?_⟩
        refine ⟨_, _, _, _, rfl, SqT.of h2, (.dp (.str _)), (shown_word _ (by decide +kernel)).sh, Nat.le_trans (shown_word _ (by decide +kernel)).dp (by decide), pair_len (shown_word _ (by decide +kernel)) (by decide +kernel), ?_⟩
        refine ⟨_, rfl, ⟨_, _, _, _, rfl, SqT.of (sb _ _ hq1), (.dp (.str _)), (shown_word _ (by decide +kernel)).sh, Nat.le_trans (shown_word _ (by decide +kernel)).dp (by decide), pair_len (shown_word _ (by decide +kernel)) (by decide +kernel), rfl, false, bln_t rfl, ?_⟩⟩
        exact ⟨q1, rfl, Pa.same sb, sa.trans (.of sb)⟩
    rintro σ Hb ⟨q2, rfl, Pb, sb⟩
    refine ⟨_, rfl, p, 44, rfl, c, Pb, by decide, by decide, fun f Hc f0 f1 Pc sc => ⟨_, _, rfl, rfl, ?_⟩⟩
    have s0c := sb.trans sc
    refine ⟨(by show 2 ≤ sizeLine; decide), fun q hq => ?_⟩
    have sq : Same Hc (upd Hc q (.tup [.str "refused", .str "bits"])) := Same.new hq
    have hqq : (upd Hc q (.tup [.str "refused", .str "bits"])) q = some (.tup [.str "refused", .str "bits"]) := upd_same
    have Pd := Pc.same sq
    have s0d := s0c.trans (.of sq)
    generalize upd Hc q (.tup [.str "refused", .str "bits"]) = Hd at hqq Pd s0d
    clear sq hq
    dsimp only
    generalize f - 3 = bt
    refine ⟨fun σ H' => ∃ q, σ = [some (.ref p), some v, some (.int w), some (.ref q), some (.int bt)] ∧ Purse p c H' ∧ SameX p H H' ∧ BitW H' (some bt) q, ?_, ?_⟩
    · by_cases z1 : 6 ≤ bt
      · by_cases z2 : bt ≤ 32
        · refine ⟨_, rfl, _, _, rfl, rfl, true, bl_t z1, _, _, rfl, rfl, true, bl_t z2, ?_⟩
          obtain ⟨b, rfl⟩ : ∃ b : Nat, bt = (b : Int) := ⟨bt.toNat, by omega⟩
          refine ⟨_, rfl, b, rfl, by omega, (by show 2 ≤ sizeLine; decide), fun r hr1 => ?_⟩
          exact ⟨r, rfl, Pd.same (Same.new hr1), s0d.trans (.of (Same.new hr1)), .inl ⟨b, rfl, by omega, by omega, upd_same⟩⟩
        · refine ⟨_, rfl, _, _, rfl, rfl, true, bl_t z1, _, _, rfl, rfl, false, bl_f z2, q, rfl, Pd, s0d, .inr ⟨?_, hqq⟩⟩
          show (decide (6 ≤ bt) && decide (bt ≤ 32)) = false
          rw [decide_eq_false z2, Bool.and_false]
      · refine ⟨_, rfl, _, _, rfl, rfl, false, bl_f z1, false, rfl, q, rfl, Pd, s0d, .inr ⟨?_, hqq⟩⟩
        show (decide (6 ≤ bt) && decide (bt ≤ 32)) = false
        rw [decide_eq_false z1, Bool.false_and]
    rintro σ He ⟨q3, rfl, Pe, s0e, hBe⟩
    refine ⟨fun σ H' => ∃ q v2 o2, σ = [some (.ref p), some v, some (.int w), some (.ref q), some v2] ∧ Kd K H' v2 o2 ∧ Purse p c H' ∧ SameX p H H' ∧ BitW H' o2 q, ?_, ?_⟩
    · refine ⟨_, rfl, p, 3, rfl, c, Pe, by decide, by decide, fun g Hf g0 g1 Pf sf => ⟨rfl, ?_⟩⟩
      by_cases z : g = 2
      · refine ⟨true, bl_t (int_eq z), ?_⟩
        refine ⟨_, rfl, p, rfl, c, Pf, fun v2 d2 Hg ho _ Pg sg => ⟨(by show 2 ≤ sizeLine; decide), fun r hr1 => ?_⟩⟩
        exact ⟨r, v2, none, rfl, (ho.same (Same.new hr1)).kind, Pg.same (Same.new hr1), ((s0e.trans sf).trans sg).trans (.of (Same.new hr1)), .inr ⟨rfl, upd_same⟩⟩
      · refine ⟨false, bl_f (int_ne z), q3, _, some bt, rfl, rfl, Pf, s0e.trans sf, ?_⟩
        rcases hBe with ⟨b, hb, b6, b32, h3⟩ | ⟨no, h3⟩
        · exact .inl ⟨b, hb, b6, b32, tup_purse Pe sf h3⟩
        · exact .inr ⟨no, tup_purse Pe sf h3⟩
    rintro σ Hh ⟨q4, v2, o2, rfl, hk2, Ph, s0h, hBh⟩
    refine ⟨_, rfl, v2, o2, rfl, hk2, ?_⟩
    rcases hBh with ⟨b, hb, b6, b32, h4⟩ | ⟨no, h4⟩
    · refine .inl ⟨b, hb, b6, b32, fun q5 Hi si h5 => ?_⟩
      refine ⟨_, _, _, _, rfl, SqT.of h5, (.dp (.int _)), (Shown.int (pow_small b32)).sh, Nat.le_trans (Shown.int (pow_small b32)).dp (by decide), pair_len (Shown.int (pow_small b32)) (by decide +kernel), ?_⟩
      refine ⟨_, rfl, ⟨_, _, _, _, rfl, SqT.of (si _ _ h4), (.dp (.int _)), (Shown.int (pow_small b32)).sh, Nat.le_trans (Shown.int (pow_small b32)).dp (by decide), pair_len (Shown.int (pow_small b32)) (by decide +kernel), rfl, ?_⟩⟩
      rw [decide_eq_true rfl]
      exact k _ (Ph.same si) (s0h.trans (.of si))
    · refine .inr ⟨no, fun q5 Hi si h5 => ?_⟩
      refine ⟨_, _, _, _, rfl, SqT.of h5, (.dp (.str _)), (shown_word _ (by decide +kernel)).sh, Nat.le_trans (shown_word _ (by decide +kernel)).dp (by decide), pair_len (shown_word _ (by decide +kernel)) (by decide +kernel), ?_⟩
      refine ⟨_, rfl, ⟨_, _, _, _, rfl, SqT.of (si _ _ h4), (.dp (.str _)), (shown_word _ (by decide +kernel)).sh, Nat.le_trans (shown_word _ (by decide +kernel)).dp (by decide), pair_len (shown_word _ (by decide +kernel)) (by decide +kernel), rfl, ?_⟩⟩
      rw [decide_eq_true rfl]
      exact k _ (Ph.same si) (s0h.trans (.of si))
/-! ### the law of the calls -/
/-- an argument: the good one, the one that is handed, what it is, its text, whether it is refused -/
structure Cel where
  g : Int
  v : V
  o : Option Int
  d : PyData
  b : Bool
def cG (cs : List Cel) : List V := cs.map fun x => V.int x.g
def cH (cs : List Cel) : List V := cs.map fun x => x.v
def cO (cs : List Cel) : List V := cs.map fun x => V.bl x.b
def Lst4 (p G D O a : Addr) : Prop := a = p ∨ a = G ∨ a = D ∨ a = O
def SameP (S : Addr → Prop) (H H' : Hp) : Prop := ∀ b o, ¬ S b → H b = some o → H' b = some o
theorem SameP.refl {S : Addr → Prop} {H : Hp} : SameP S H H := fun _ _ _ h => h
theorem SameP.trans {S : Addr → Prop} {H H1 H2 : Hp} (x : SameP S H H1) (y : SameP S H1 H2) : SameP S H H2 := fun b o n h => y b o n (x b o n h)
theorem SameP.of {S : Addr → Prop} {H H1 : Hp} (x : Same H H1) : SameP S H H1 := fun b o _ h => x b o h
theorem SameP.ofX {S : Addr → Prop} {p : Addr} {H H1 : Hp} (hp : S p) (x : SameX p H H1) : SameP S H H1 := fun b o n h => x b o (fun z => n (z ▸ hp)) h
theorem SameP.upd {S : Addr → Prop} {p : Addr} {H : Hp} {u : HO} (hp : S p) : SameP S H (L2.upd H p u) := SameP.ofX hp .upd
theorem Odd.onP {S : Addr → Prop} {H H' : Hp} {v : V} {d : PyData} (h : Odd H v d) (off : ∀ a, v = .ref a → ¬ S a) (s : SameP S H H') : Odd H' v d := by
  cases h with
  | bl b => exact .bl b
  | non => exact .non
  | s7 => exact .s7
  | s0 => exact .s0
  | t3 e => exact .t3 (s _ _ (off _ rfl) e)
  | l0 e => exact .l0 (s _ _ (off _ rfl) e)
  | l5 e => exact .l5 (s _ _ (off _ rfl) e)
  | d0 e => exact .d0 (s _ _ (off _ rfl) e)
structure CelOk (S : Addr → Prop) (H : Hp) (w : Int) (way j : Nat) (x : Cel) : Prop where
  g0 : 0 ≤ x.g
  g1 : x.g < w
  it : It H x.v x.o x.d
  off : ∀ a, x.v = .ref a → ¬ S a
  bd : bad way j w x.o = x.b
  ok : x.b = false → x.v = .int x.g ∧ x.o = some x.g ∧ x.d = .int x.g
theorem CelOk.on {S : Addr → Prop} {H H' : Hp} {w : Int} {way j : Nat} {x : Cel} (h : CelOk S H w way j x) (s : SameP S H H') : CelOk S H' w way j x :=
  ⟨h.g0, h.g1, Or.imp id (fun z => ⟨z.1, z.2.onP h.off s⟩) h.it, h.off, h.bd, h.ok⟩
theorem bad_good {w g : Int} {way j : Nat} (g0 : 0 ≤ g) (g1 : g < w) : bad way j w (some g) = false := by
  unfold bad
  split
  · rfl
  · rw [inR_ok ⟨g0, g1⟩]
    rfl
theorem CelOk.fine {S : Addr → Prop} {H : Hp} {w g : Int} {way j : Nat} (g0 : 0 ≤ g) (g1 : g < w) (gw : w ≤ 4294967296) : CelOk S H w way j ⟨g, .int g, some g, .int g, false⟩ :=
  ⟨g0, g1, .inl ⟨g, rfl, rfl, rfl, by omega⟩, (fun a z => nomatch z), bad_good g0 g1, fun _ => ⟨rfl, rfl, rfl⟩⟩
/-- all that stands during the calls -/
structure Call (C p c G D O r : Addr) (w : Int) (way : Nat) (cs : List Cel) (H : Hp) : Prop where
  P : Purse p c H
  R : RingAt C H r w
  hG : H G = some (.lst (cG cs))
  hD : H D = some (.lst (cH cs))
  hO : H O = some (.lst (cO cs))
  ok : ∀ j x, cs[j]? = some x → CelOk (Lst4 p G D O) H w way j x
/-- the lists stand apart -/
structure Apart (p c G D O : Addr) : Prop where
  pG : p ≠ G
  pD : p ≠ D
  pO : p ≠ O
  cG : c ≠ G
  cD : c ≠ D
  cO : c ≠ O
  GD : G ≠ D
  GO : G ≠ O
  DO : D ≠ O
theorem Call.ringOff {C p c G D O r : Addr} {w : Int} {way : Nat} {cs : List Cel} {H : Hp} (h : Call C p c G D O r w way cs H) : ¬ Lst4 p G D O r := by
  obtain ⟨dx, hR⟩ := h.R
  obtain ⟨⟨_, hp⟩, _⟩ := h.P.there
  rintro (z | z | z | z)
  · exact ne_of hR hp (fun e => nomatch e) z
  · exact ne_of hR h.hG (fun e => nomatch e) z
  · exact ne_of hR h.hD (fun e => nomatch e) z
  · exact ne_of hR h.hO (fun e => nomatch e) z
theorem Call.next {C p c G D O r : Addr} {w : Int} {way : Nat} {cs cs' : List Cel} {H H' : Hp} (h : Call C p c G D O r w way cs H) (s : SameP (Lst4 p G D O) H H') (P : Purse p c H') (hG : H' G = some (.lst (cG cs'))) (hD : H' D = some (.lst (cH cs')))
    (hO : H' O = some (.lst (cO cs'))) (ok : ∀ j x, cs'[j]? = some x → CelOk (Lst4 p G D O) H' w way j x) : Call C p c G D O r w way cs' H' := by
  obtain ⟨dx, hR⟩ := h.R
  exact ⟨P, ⟨dx, s _ _ h.ringOff hR⟩, hG, hD, hO, ok⟩
theorem snoc_at {cs : List Cel} {x y : Cel} {j : Nat} (h : (cs ++ [x])[j]? = some y) : cs[j]? = some y ∨ (j = cs.length ∧ y = x) := by
  by_cases q : j < cs.length
  · rw [List.getElem?_append_left q] at h
    exact .inl h
  · rw [List.getElem?_append_right (by omega)] at h
    have e : j - cs.length = 0 := by
      cases z : j - cs.length with
      | zero => rfl
      | succ m =>
        rw [z] at h
        cases h
    rw [e] at h
    exact .inr ⟨by omega, (Option.some.inj h).symm⟩
theorem cel_at {cs : List Cel} {f : Cel → V} {j : Nat} {x : Cel} (h : cs[j]? = some x) : (cs.map f)[j]? = some (f x) := by
  rw [List.getElem?_map, h]
  rfl
def cnt (cs : List Cel) : Nat := (cs.filter fun x => x.b).length
theorem cnt_le (cs : List Cel) : cnt cs ≤ cs.length := List.length_filter_le _ _
theorem cnt_set {y : Cel} (hy : y.b = false) : ∀ {cs : List Cel} {j : Nat} {x : Cel}, cs[j]? = some x → x.b = true → cnt (cs.set j y) + 1 = cnt cs
  | a :: r, 0, x, h, hb => by
    cases h
    show ((y :: r).filter fun x => x.b).length + 1 = ((a :: r).filter fun x => x.b).length
    rw [List.filter_cons_of_neg (by rw [hy]; exact Bool.false_ne_true), List.filter_cons_of_pos hb]
    rfl
  | a :: r, j + 1, x, h, hb => by
    have ih := cnt_set hy (cs := r) (j := j) h hb
    show ((a :: r.set j y).filter fun x => x.b).length + 1 = ((a :: r).filter fun x => x.b).length
    by_cases q : a.b = true
    · rw [List.filter_cons_of_pos q, List.filter_cons_of_pos q, List.length_cons, List.length_cons]
      exact congrArg Nat.succ ih
    · rw [List.filter_cons_of_neg q, List.filter_cons_of_neg q]
      exact ih
theorem It.kd {K : PySem.W.Frag} {H : Hp} {v : V} {o : Option Int} {d : PyData} (h : It H v o d) : Kd K H v o := by
  rcases h with ⟨n, rfl, rfl, _, _⟩ | ⟨rfl, ho⟩
  · rfl
  · exact ho.kind
theorem It.dr {K : PySem.W.Frag} {H : Hp} {v : V} {o : Option Int} {d : PyData} (h : It H v o d) : Dr K H v d := by
  rcases h with ⟨n, rfl, rfl, rfl, _⟩ | ⟨_, ho⟩
  · exact .dp (.int n)
  · exact ho.reads
theorem It.shown {H : Hp} {v : V} {o : Option Int} {d : PyData} (h : It H v o d) : Shown d := by
  rcases h with ⟨n, rfl, rfl, rfl, hn⟩ | ⟨_, ho⟩
  · exact .int hn
  · exact ho.shown
theorem kds {K : PySem.W.Frag} {H : Hp} : ∀ {cs : List Cel}, (∀ x ∈ cs, Kd K H x.v x.o) → Paired (Kd K H) (cH cs) (cs.map fun x => x.o)
  | [], _ => .nil
  | x :: r, h => .cons (h x List.mem_cons_self) (kds fun y hy => h y (List.mem_cons_of_mem _ hy))
def gs (cs : List Cel) : List Int := cs.map fun x => x.g
theorem good_H {cs : List Cel} (h : ∀ x ∈ cs, x.v = .int x.g) : cH cs = (gs cs).map V.int := by
  rw [cH, gs, List.map_map]
  exact List.map_congr_left h
theorem good_O {cs : List Cel} (h : ∀ x ∈ cs, x.o = some x.g) : (cs.map fun x => x.o) = (gs cs).map some := by
  rw [gs, List.map_map]
  exact List.map_congr_left h
theorem tells_shown {K : PySem.W.Frag} {H : Hp} {w : Int} (w0 : 0 < w) (w1 : w ≤ 4294967296) : ∀ {way : Nat} {as : List Int}, way < 5 → as.length = manyOf way → (∀ a ∈ as, 0 ≤ a ∧ a < w) → ∃ d, Dr K H (tells w way as) d ∧ Shown d := by
  intro way as hw hl ha
  have md : ∀ x : Int, (x % w).natAbs < 2 ^ 60 := fun x => by
    have := Int.emod_nonneg x (show w ≠ 0 by omega)
    have := Int.emod_lt_of_pos x w0
    omega
  rcases (show way = 0 ∨ way = 1 ∨ way = 2 ∨ way = 3 ∨ way = 4 by omega) with rfl | rfl | rfl | rfl | rfl
  · match as, hl with
    | [a], _ => exact ⟨_, .dp (.int _), .int (md _)⟩
  · match as, hl with
    | [a, b], _ =>
      refine ⟨_, .dp (.int _), .int ?_⟩
      have hb := ha b (List.mem_cons_of_mem _ List.mem_cons_self)
      have := Int.emod_nonneg (a - (b - w / 2)) (show w ≠ 0 by omega)
      have := Int.emod_lt_of_pos (a - (b - w / 2)) w0
      unfold unw
      omega
  · match as, hl with
    | [a, b], _ => exact ⟨_, .dp (.int _), .int (md _)⟩
  · match as, hl with
    | [a, b], _ => exact ⟨_, .dp (.bl _), .bl _⟩
  · match as, hl with
    | [a, b, d], _ => exact ⟨_, .dp (.bl _), .bl _⟩
theorem set_same : ∀ {l : List V} {j : Nat} {v : V}, l[j]? = some v → l.set j v = l
  | a :: r, 0, v, h => by
    cases h
    rfl
  | a :: r, j + 1, v, h => congrArg (List.cons a) (set_same (l := r) (j := j) h)
/-- the first that is refused: its place, or the number of arguments -/
def Spot (cs : List Cel) (sp : Int) : Prop := (sp = (cs.length : Int) ∧ ∀ (j : Nat) x, cs[j]? = some x → x.b = false) ∨ ∃ (j : Nat) (x : Cel), sp = (j : Int) ∧ cs[j]? = some x ∧ x.b = true ∧ ∀ (l : Nat) y, l < j → cs[l]? = some y → y.b = false
/-- .. among the last i -/
def SpotI (cs : List Cel) (i : Nat) (sp : Int) : Prop := (sp = (cs.length : Int) ∧ ∀ (j : Nat) x, cs.length - i ≤ j → cs[j]? = some x → x.b = false) ∨
  ∃ (j : Nat) (x : Cel), sp = (j : Int) ∧ cs[j]? = some x ∧ x.b = true ∧ ∀ (l : Nat) y, cs.length - i ≤ l → l < j → cs[l]? = some y → y.b = false
def sp__law_call (K : PySem.W.Frag) (C : Addr) : Sp := fun vs H Q _ => ∃ (p r : Addr) (b : Nat), vs = [.ref p, .ref r, .int (2 ^ b)] ∧ ∃ c, Purse p c H ∧ RingAt C H r (2 ^ b) ∧ 6 ≤ b ∧ b ≤ 32 ∧ ∀ H', Purse p c H' → SameX p H H' → Q (.bl true) H'
theorem ok__law_call (T : Txt K mg) : FnStill P w K mg base 8 T.a__law_call T.fd__law_call ["purse", "ring", "width"] (sp__law_call K T.c_Ring) := by
  have S := sc__law_call
  refine still_fn T.F__law_call S (fun vs H Q E h => ?_) (fun cdv A outer s H vs Q E hg hr h => ?_)
  · obtain ⟨p, r, b, rfl, _⟩ := h
    rfl
  · obtain ⟨p, r, b, rfl, c, P0, hR, b6, b32, k⟩ := h
    obtain ⟨⟨g', eg, g1', g2'⟩, _⟩ := pow_siz b b6 b32
    have w0 : (0 : Int) < 2 ^ b := by omega
    have w1 : (2 : Int) ^ b ≤ 4294967296 := by omega
    refine ⟨_, (pss_cons (ps_set (i := 3) S.nd rfl (Or.inl rfl) (pe_call (ok__law_draw T) (hr.mono (by decide)) rfl T.g__law_draw T.F__law_draw.kp T.B__law_draw .nil pass0 (pa_cons (pv 0) (pa_cons pe_int pa_nil))))
      (pss_cons (ps_set (i := 4) S.nd rfl (Or.inl rfl) (pe_ix ix_list (pe_lst (pa_cons pe_int (pa_cons pe_int (pa_cons pe_int (pa_cons pe_int (pa_cons pe_int pa_nil)))))) (pv 3) (fun _ _ => rfl)))
      (pss_cons (ps_set (i := 5) S.nd rfl (Or.inl rfl) (pe_lst pa_nil))
      (pss_cons (ps_set (i := 6) S.nd rfl (Or.inl rfl) (pe_lst pa_nil))
      (pss_cons (ps_set (i := 7) S.nd rfl (Or.inl rfl) (pe_lst pa_nil))
      (pss_cons (ps_for PassesOwn.never rfl (pi_range1 (by rfl) T.b_range (pa_cons (pv 4) pa_nil)) (pg_name (i := 8) S.nd rfl (Or.inl rfl)) (pss_cons (ps_expr (pe_bm PySem.F.plainAttrs_list PySem.F.slot_list_append PySem.F.type_list_append mt_append (pv 5) (pa_cons (pe_call (ok__law_number T) (hr.mono (by decide)) rfl T.g__law_number T.F__law_number.kp T.B__law_number .nil pass0 (pa_cons (pv 0) (pa_cons (pe_op op_sub (pv 2) pe_int) pa_nil))) pa_nil)))
      (pss_cons (ps_expr (pe_bm PySem.F.plainAttrs_list PySem.F.slot_list_append PySem.F.type_list_append mt_append (pv 7) (pa_cons (pe_cmpR op_eq (pe_call (ok__law_draw T) (hr.mono (by decide)) rfl T.g__law_draw T.F__law_draw.kp T.B__law_draw .nil pass0 (pa_cons (pv 0) (pa_cons pe_int pa_nil))) pe_int (nomark _)) pa_nil)))
      (pss_cons (ps_expr (pe_bm PySem.F.plainAttrs_list PySem.F.slot_list_append PySem.F.type_list_append mt_append (pv 6) (pa_cons (pe_ix ix_list (pv 5) (pv 8) (fun _ _ => rfl)) pa_nil)))
      (pss_one (ps_if (pt_val (pe_ix ix_list (pv 7) (pv 8) (fun _ _ => rfl))) (pss_one (ps_asg (pe_call (ok__law_odd T) (hr.mono (by decide)) rfl T.g__law_odd T.F__law_odd.kp T.B__law_odd .nil pass0 (pa_cons (pv 0) (pa_cons (pv 2) (pa_cons (pe_or (pe_cmpR op_eq (pv 3) pe_int (nomark _)) (pe_one (pe_and (pe_cmpR op_eq (pv 3) pe_int (nomark _)) (pe_one (pe_cmpR op_eq (pv 8) pe_int (nomark _)))))) pa_nil)))) (pg_sub (pv 6) (pv 8) set_list))) pss_nil))))))
      (pss_cons (ps_for PassesOwn.never rfl (pi_range1 (by rfl) T.b_range (pa_cons (pe_op op_add (pv 4) pe_int) pa_nil)) (pg_name (i := 9) S.nd rfl (Or.inl rfl)) (pss_cons (ps_set (i := 10) S.nd rfl (Or.inl rfl) (pv 4))
      (pss_cons (ps_for PassesOwn.never rfl (pi_range1 (by rfl) T.b_range (pa_cons (pv 4) pa_nil)) (pg_name (i := 8) S.nd rfl (Or.inl rfl)) (pss_one (ps_if (pt_val (pe_ix ix_list (pv 7) (pe_op op_sub (pe_op op_sub (pv 4) pe_int) (pv 8)) (fun _ _ => rfl))) (pss_one (ps_set (i := 10) S.nd rfl (Or.inl rfl) (pe_op op_sub (pe_op op_sub (pv 4) pe_int) (pv 8)))) pss_nil)))
      (C8.pss_cut (ps_if (pt_cmpR op_lt (pv 10) (pv 4) (nomark _)) (pss_one (ps_set (i := 11) S.nd rfl (Or.inl rfl) (pe_tup (pa_cons pe_str (pa_cons (pe_ix ix_list (pv 6) (pv 10) (fun _ _ => rfl)) pa_nil))))) (pss_one (ps_set (i := 11) S.nd rfl (Or.inl rfl) (pe_tup (pa_cons pe_str (pa_cons (pe_call (ok__law_wanted T) (hr.mono (by decide)) rfl T.g__law_wanted T.F__law_wanted.kp T.B__law_wanted .nil pass0 (pa_cons (pv 3) (pa_cons (pv 6) (pa_cons (pv 2) pa_nil)))) pa_nil))))))
      (C8.pss_cut (ps_if (pt_cmpR op_ne (pe_callB (id := "repr") (call_reprT hg (room_un hr)) (by rfl) T.b_repr (by decide +kernel) (pa_cons (pe_call (ok__law_answer T) (hr.mono (by decide)) rfl T.g__law_answer T.F__law_answer.kp T.B__law_answer .nil pass0 (pa_cons (pv 1) (pa_cons (pv 3) (pa_cons (pv 6) pa_nil)))) pa_nil)) (pe_callB (id := "repr") (call_reprT hg (room_un hr)) (by rfl) T.b_repr (by decide +kernel) (pa_cons (pv 11) pa_nil)) (nomark _)) (pss_one (ps_ret pe_bl)) pss_nil)
      (pss_cons (ps_for PassesOwn.never rfl (pi_range1 (by rfl) T.b_range (pa_cons (pv 4) pa_nil)) (pg_name (i := 8) S.nd rfl (Or.inl rfl)) (C8.pss_cut (ps_set (i := 12) S.nd rfl (Or.inl rfl) (pe_and (pe_call (ok__law_is T) (hr.mono (by decide)) rfl T.g__law_is T.F__law_is.kp T.B__law_is .nil pass0 (pa_cons (pe_ix ix_list (pv 6) (pv 8) (fun _ _ => rfl)) (pa_cons (pe_ix ix_list (pv 6) (pv 8) (fun _ _ => rfl)) pa_nil))) (pe_one (pe_chain op_le op_lt pe_int (pe_ix ix_list (pv 6) (pv 8) (fun _ _ => rfl)) (pv 2)))))
      (pss_one (ps_if (pt_not (pt_val (pe_call (ok__law_truth T) (hr.mono (by decide)) rfl T.g__law_truth T.F__law_truth.kp T.B__law_truth .nil pass0 (pa_cons (pe_cmpR (op_inOwn T.m_Ring_contains_ (ok_Ring_contains_ T) (hr.mono (by decide)) T.B_Ring_contains_ pass0) (pe_ix ix_list (pv 6) (pv 8) (fun _ _ => rfl)) (pv 1) rfl) (pa_cons (pv 12) pa_nil))))) (pss_one (ps_ret pe_bl)) pss_nil))))
      (pss_cons (ps_if (pt_cmpR op_eq (pv 10) (pv 4) (nomark _)) (pss_one (ps_ret pe_bl)) pss_nil)
      (pss_cons (ps_asg (pe_ix ix_list (pv 5) (pv 10) (fun _ _ => rfl)) (pg_sub (pv 6) (pv 10) set_list))
      (pss_one (ps_asg pe_bl (pg_sub (pv 7) (pv 10) set_list)))))))))))
      (pss_one (ps_ret pe_bl))))))))), ?_⟩
    generalize hw : (2 : Int) ^ b = w at hR w0 w1
    refine ⟨_, rfl, p, 5, rfl, c, P0, by decide, by decide, fun wy H1 y0 y1 P1 s1 => ?_⟩
    obtain ⟨way, rfl⟩ : ∃ way : Nat, wy = (way : Int) := ⟨wy.toNat, by omega⟩
    have hway : way < 5 := by omega
    refine ⟨(by show 5 ≤ sizeLine; decide), fun M hM => ?_⟩
    have hat : atI ([.int 1, .int 2, .int 2, .int 2, .int 3] : List V) (way : Int) = some (.int (manyOf way)) := by
      rcases (show way = 0 ∨ way = 1 ∨ way = 2 ∨ way = 3 ∨ way = 4 by omega) with rfl | rfl | rfl | rfl | rfl <;> rfl
    refine ⟨_, rfl, _, _, _, _, rfl, rfl, SqL.of upd_same, hat, ?_⟩
    have sM : Same H1 (upd H1 M (.lst [.int 1, .int 2, .int 2, .int 2, .int 3])) := Same.new hM
    have P2 := P1.same sM
    have s2 := s1.trans (.of sM)
    generalize upd H1 M (.lst [.int 1, .int 2, .int 2, .int 2, .int 3]) = H2 at P2 s2
    have hR2 := hR.on (P0.ring hR) s2
    refine ⟨Nat.zero_le _, fun G hG => ⟨Nat.zero_le _, fun D hD => ⟨Nat.zero_le _, fun O hO => ?_⟩⟩⟩
    obtain ⟨⟨_, hp⟩, _, hc⟩ := P2.there
    have nG : Same H2 (upd H2 G (.lst [])) := Same.new hG
    have nD : Same (upd H2 G (.lst [])) (upd (upd H2 G (.lst [])) D (.lst [])) := Same.new hD
    have nO : Same (upd (upd H2 G (.lst [])) D (.lst [])) (upd (upd (upd H2 G (.lst [])) D (.lst [])) O (.lst [])) := Same.new hO
    have n3 := (nG.trans nD).trans nO
    have A : Apart p c G D O := ⟨ne_of_none hp hG, ne_of_none (nG _ _ hp) hD, ne_of_none ((nG.trans nD) _ _ hp) hO, ne_of_none hc hG, ne_of_none (nG _ _ hc) hD, ne_of_none ((nG.trans nD) _ _ hc) hO, ne_of_none upd_same hD, ne_of_none (nD _ _ upd_same) hO, ne_of_none upd_same hO⟩
    have fG : H2 G = none := hG
    have fD : H2 D = none := Same.free nG hD
    have fO : H2 O = none := Same.free (nG.trans nD) hO
    have m1 : 1 ≤ manyOf way ∧ manyOf way ≤ 3 := by
      rcases (show way = 0 ∨ way = 1 ∨ way = 2 ∨ way = 3 ∨ way = 4 by omega) with rfl | rfl | rfl | rfl | rfl <;> decide
    have C0 : Call T.c_Ring p c G D O r w way [] (upd (upd (upd H2 G (.lst [])) D (.lst [])) O (.lst [])) := ⟨P2.same n3, hR2.same n3, nO _ _ (nD _ _ upd_same), nO _ _ upd_same, upd_same, fun j x z => nomatch z⟩
    have S0 : SameP (Lst4 p G D O) H2 (upd (upd (upd H2 G (.lst [])) D (.lst [])) O (.lst [])) := .of n3
    generalize upd (upd (upd H2 G (.lst [])) D (.lst [])) O (.lst []) = H3 at C0 S0
    clear nG nD nO n3 hG hD hO hp hc
    have Sp : Lst4 p G D O p := .inl rfl
    have SG : Lst4 p G D O G := .inr (.inl rfl)
    have SD : Lst4 p G D O D := .inr (.inr (.inl rfl))
    have SO : Lst4 p G D O O := .inr (.inr (.inr rfl))
    refine ⟨_, rfl, _, rfl, by omega, by omega, for_range (lo := 0) (n := ((manyOf way : Nat) : Int).toNat) (fun i σ H' => ∃ (v8 : Option V) (cs : List Cel), σ = [some (.ref p), some (.ref r), some (.int w), some (.int way), some (.int (manyOf way)), some (.ref G), some (.ref D), some (.ref O), v8, none, none, none, none] ∧
      cs.length = i ∧ Call T.c_Ring p c G D O r w way cs H' ∧ SameP (Lst4 p G D O) H2 H') ⟨none, [], rfl, rfl, C0, S0⟩ ?_ ?_⟩
    · rintro i σ H' hi ⟨v8, cs, rfl, hl, C1, S1⟩
      have hi' : i < manyOf way := by simpa using hi
      have lz : (0 + i : Nat) = cs.length := by omega
      refine ⟨_, rfl, .inl ⟨rfl, _, SqL.of C1.hG⟩, _, rfl, _, rfl, _, _, rfl, rfl, p, w - 1, rfl, c, C1.P, by omega, fun g Ha g0 g1 Pa sa => ?_⟩
      have gG := sa _ _ A.pG.symm C1.hG
      have gD := sa _ _ A.pD.symm C1.hD
      have gO := sa _ _ A.pO.symm C1.hO
      refine ⟨G, _, _, rfl, rfl, gG, (by simp only [cG, List.length_map]; exact small1000' (by omega)), ?_⟩
      refine ⟨_, rfl, .inl ⟨rfl, _, SqL.of (by rw [upd_ne A.GO.symm]; exact gO)⟩, _, rfl, p, 2, rfl, c, Pa.keep (upd_ne A.pG) (upd_ne A.cG), by decide, by decide, fun f Hb f0 f1 Pb sb => ⟨rfl, ?_⟩⟩
      have gG := sb _ _ A.pG.symm (show (upd Ha G (.lst (cG cs ++ [.int g]))) G = _ from upd_same)
      have gD := sb _ _ A.pD.symm (show (upd Ha G (.lst (cG cs ++ [.int g]))) D = _ from (upd_ne A.GD.symm).trans gD)
      have gO := sb _ _ A.pO.symm (show (upd Ha G (.lst (cG cs ++ [.int g]))) O = _ from (upd_ne A.GO.symm).trans gO)
      have sx : SameP (Lst4 p G D O) H' Hb := ((SameP.ofX Sp sa).trans (.upd SG)).trans (.ofX Sp sb)
      refine ⟨O, _, _, rfl, rfl, gO, (by simp only [cO, List.length_map]; exact small1000' (by omega)), ?_⟩
      generalize hfb : decide (V.int f = V.int 1) = fb
      have hO5 : (upd Hb O (.lst (cO cs ++ [.bl fb]))) O = some (.lst (cO cs ++ [.bl fb])) := upd_same
      have hG5 : (upd Hb O (.lst (cO cs ++ [.bl fb]))) G = _ := (upd_ne A.GO).trans gG
      have hD5 : (upd Hb O (.lst (cO cs ++ [.bl fb]))) D = _ := (upd_ne A.DO).trans gD
      have P5 : Purse p c (upd Hb O (.lst (cO cs ++ [.bl fb]))) := Pb.keep (upd_ne A.pO) (upd_ne A.cO)
      have s5 : SameP (Lst4 p G D O) H' (upd Hb O (.lst (cO cs ++ [.bl fb]))) := sx.trans (.upd SO)
      generalize upd Hb O (.lst (cO cs ++ [.bl fb])) = Hc at hO5 hG5 hD5 P5 s5
      have xG : (cG cs ++ [.int g])[0 + i]? = some (V.int g) := by rw [lz, cG]; simp
      refine ⟨_, rfl, .inl ⟨rfl, _, SqL.of hD5⟩, _, rfl, _, rfl, _, _, _, _, rfl, rfl, SqL.of hG5, atI_nat xG, ?_⟩
      refine ⟨D, _, _, rfl, rfl, hD5, (by simp only [cH, List.length_map]; exact small1000' (by omega)), ?_⟩
      have hD6 : (upd Hc D (.lst (cH cs ++ [V.int g]))) D = some (.lst (cH cs ++ [V.int g])) := upd_same
      have hG6 : (upd Hc D (.lst (cH cs ++ [V.int g]))) G = _ := (upd_ne A.GD).trans hG5
      have hO6 : (upd Hc D (.lst (cH cs ++ [V.int g]))) O = _ := (upd_ne A.DO.symm).trans hO5
      have P6 : Purse p c (upd Hc D (.lst (cH cs ++ [V.int g]))) := P5.keep (upd_ne A.pD) (upd_ne A.cD)
      have s6 : SameP (Lst4 p G D O) H' (upd Hc D (.lst (cH cs ++ [V.int g]))) := s5.trans (.upd SD)
      generalize upd Hc D (.lst (cH cs ++ [V.int g])) = Hd at hO6 hG6 hD6 P6 s6
      have xO : (cO cs ++ [.bl fb])[0 + i]? = some (V.bl fb) := by rw [lz, cO]; simp
      refine ⟨_, rfl, _, rfl, _, _, _, _, rfl, rfl, SqL.of hO6, atI_nat xO, fb, rfl, ?_⟩
      cases fb with
      | false =>
        refine ⟨_, cs ++ [⟨g, .int g, some g, .int g, false⟩], rfl, by rw [List.length_append, hl]; rfl, C1.next s6 P6 ?_ ?_ ?_ (fun j x hx => ?_), S1.trans s6⟩
        · rw [hG6]; simp [cG]
        · rw [hD6]; simp [cH]
        · rw [hO6]; simp [cO]
        · rcases snoc_at hx with z | ⟨_, rfl⟩
          · exact (C1.ok j x z).on s6
          · exact .fine g0 (by omega) w1
      | true =>
        have tail : ∀ v o d He, It He v o d → inR 0 (w - 1) o = false → (anyI way i = true → o = none) → Fresh Hd v → Purse p c He → SameX p Hd He →
            ∃ cs', cs'.length = i + 1 ∧ Call T.c_Ring p c G D O r w way cs' (upd He D (.lst ((cH cs ++ [V.int g]).set i v))) ∧ SameP (Lst4 p G D O) H2 (upd He D (.lst ((cH cs ++ [V.int g]).set i v))) := by
          intro v o d He hit hin hany hfr Pe se
          have sf : SameP (Lst4 p G D O) H' (upd He D (.lst ((cH cs ++ [V.int g]).set i v))) := (s6.trans (.ofX Sp se)).trans (.upd SD)
          have off : ∀ a, v = .ref a → ¬ Lst4 p G D O a := fun a z q => by
            have n := hfr a z
            obtain ⟨⟨_, hp⟩, _⟩ := P6.there
            rcases q with e | e | e | e
            · rw [e, hp] at n; cases n
            · rw [e, hG6] at n; cases n
            · rw [e, hD6] at n; cases n
            · rw [e, hO6] at n; cases n
          refine ⟨cs ++ [⟨g, v, o, d, true⟩], by rw [List.length_append, hl]; rfl, C1.next sf (Pe.keep (upd_ne A.pD) (upd_ne A.cD)) ?_ ?_ ?_ (fun j x hx => ?_), S1.trans sf⟩
          · rw [upd_ne A.GD, se _ _ A.pG.symm hG6]; simp [cG]
          · rw [upd_same, ← hl]; simp [cH]
          · rw [upd_ne A.DO.symm, se _ _ A.pO.symm hO6]; simp [cO]
          · rcases snoc_at hx with z | ⟨ej, rfl⟩
            · exact (C1.ok j x z).on sf
            · refine ⟨g0, (show g < w by omega), Or.imp id (fun z => ⟨z.1, z.2.onP off (.upd SD)⟩) hit, off, ?_, fun z => nomatch z⟩
              have ej' : j = i := ej.trans hl
              subst ej'
              show bad way j w o = true
              unfold bad
              split
              · rename_i z
                rw [hany z]
                rfl
              · rw [hin]
                rfl
        have last : ∀ {He : Hp}, SameX p Hd He → He D = some (.lst (cH cs ++ [V.int g])) := fun se => se _ _ A.pD.symm hD6
        have ln : i < (cH cs ++ [V.int g]).length := by rw [List.length_append, cH, List.length_map, hl]; exact Nat.lt_succ_self i
        by_cases z0 : way = 0
        · refine ⟨_, rfl, _, rfl, _, rfl, rfl, true, bl_t (int_eq (by omega)), p, w, true, rfl, c, P6, w0, w1, fun v o d He hit hin hany hfr Pe se => ?_⟩
          obtain ⟨cs', l', C', S'⟩ := tail v o d He hit hin (fun _ => hany rfl) hfr Pe se
          exact ⟨_, rfl, _, rfl, D, _, _, i, rfl, rfl, last se, ixN_nat (by omega) ln, _, cs', rfl, l', C', S'⟩
        · by_cases z1 : way = 1
          · refine ⟨_, rfl, _, rfl, _, rfl, rfl, false, bl_f (int_ne (by omega)), _, rfl, rfl, true, bl_t (int_eq (by omega)), _, rfl, rfl, p, w, _, rfl, c, P6, w0, w1, fun v o d He hit hin hany hfr Pe se => ?_⟩
            obtain ⟨cs', l', C', S'⟩ := tail v o d He hit hin (fun q => hany (by
              rw [anyI, decide_eq_false z0, decide_eq_true z1, Bool.false_or, Bool.true_and] at q
              exact decide_eq_true (int_eq (by have := of_decide_eq_true q; omega)))) hfr Pe se
            exact ⟨_, rfl, _, rfl, D, _, _, i, rfl, rfl, last se, ixN_nat (by omega) ln, _, cs', rfl, l', C', S'⟩
          · refine ⟨_, rfl, _, rfl, _, rfl, rfl, false, bl_f (int_ne (by omega)), _, rfl, rfl, false, bl_f (int_ne (by omega)), p, w, false, rfl, c, P6, w0, w1, fun v o d He hit hin hany hfr Pe se => ?_⟩
            obtain ⟨cs', l', C', S'⟩ := tail v o d He hit hin (fun q => by
              rw [anyI, decide_eq_false z0, decide_eq_false z1] at q
              cases q) hfr Pe se
            exact ⟨_, rfl, _, rfl, D, _, _, i, rfl, rfl, last se, ixN_nat (by omega) ln, _, cs', rfl, l', C', S'⟩
    rintro σ H' ⟨v8, cs, rfl, hl, C1, S1⟩
    have hl : cs.length = manyOf way := by simpa using hl
    have up : ∀ {Hz : Hp}, SameP (Lst4 p G D O) H2 Hz → SameX p H Hz := fun {Hz} sz a o na ha => by
      have h2 := s2 a o na ha
      refine sz a o (fun z => ?_) h2
      rcases z with z | z | z | z
      · exact na z
      · rw [z, fG] at h2; cases h2
      · rw [z, fD] at h2; cases h2
      · rw [z, fO] at h2; cases h2
    refine ⟨_, rfl, _, _, rfl, rfl, _, rfl, by omega, by omega, for_range (lo := 0) (n := (((manyOf way : Nat) : Int) + 1).toNat) (fun t σ H' => ∃ (v8 v9 v10 v11 v12 : Option V) (ds : List Cel), σ = [some (.ref p), some (.ref r), some (.int w), some (.int way), some (.int (manyOf way)), some (.ref G), some (.ref D), some (.ref O), v8, v9, v10, v11, v12] ∧
      ds.length = manyOf way ∧ Call T.c_Ring p c G D O r w way ds H' ∧ SameP (Lst4 p G D O) H2 H' ∧ cnt ds + t ≤ manyOf way) ⟨_, _, _, _, _, cs, rfl, hl, C1, S1, by rw [← hl]; exact cnt_le cs⟩ ?_ ?_⟩
    · clear C1 S1 hl
      rintro t σ H' ht ⟨v8, v9, v10, v11, v12, cs, rfl, hl, C1, S1, hc⟩
      refine ⟨_, rfl, _, rfl, _, rfl, by omega, by omega, for_range (lo := 0) (n := ((manyOf way : Nat) : Int).toNat) (fun i σ Hn => ∃ (v8 : Option V) (sp : Int), σ = [some (.ref p), some (.ref r), some (.int w), some (.int way), some (.int (manyOf way)), some (.ref G), some (.ref D), some (.ref O), v8, some (.int (0 + (t : Int))), some (.int sp), v11, v12] ∧
        Hn = H' ∧ SpotI cs i sp) ⟨_, _, rfl, rfl, .inl ⟨by rw [hl], fun j x hj hx => ?_⟩⟩ ?_ ?_⟩
      · have := (List.getElem?_eq_some_iff.mp hx).1
        omega
      · rintro i σ Hn hi ⟨v8, sp, rfl, rfl, hs⟩
        have hi' : i < manyOf way := by simpa using hi
        obtain ⟨x, hx⟩ : ∃ x, cs[manyOf way - 1 - i]? = some x := ⟨_, List.getElem?_eq_getElem (by omega)⟩
        have hz : ((manyOf way : Nat) : Int) - 1 - (0 + (i : Int)) = ((manyOf way - 1 - i : Nat) : Int) := by omega
        refine ⟨_, rfl, _, rfl, _, _, rfl, rfl, _, rfl, _, _, rfl, rfl, _, _, _, _, rfl, rfl, SqL.of C1.hO, (by rw [hz]; exact atI_nat (cel_at hx)), x.b, rfl, ?_⟩
        cases hb : x.b with
        | true =>
          refine ⟨_, rfl, _, _, rfl, rfl, _, rfl, _, _, rfl, rfl, ?_⟩
          refine ⟨_, _, rfl, rfl, .inr ⟨manyOf way - 1 - i, x, hz, hx, hb, fun l y h1 h2 _ => ?_⟩⟩
          omega
        | false =>
          refine ⟨_, sp, rfl, rfl, ?_⟩
          rcases hs with ⟨e, hs⟩ | ⟨j, y, e, hy, hyb, hs⟩
          · refine .inl ⟨e, fun j y h1 h2 => ?_⟩
            by_cases q : j = manyOf way - 1 - i
            · rw [q, hx] at h2
              cases h2
              exact hb
            · exact hs j y (by omega) h2
          · refine .inr ⟨j, y, e, hy, hyb, fun l z h1 h2 h3 => ?_⟩
            by_cases q : l = manyOf way - 1 - i
            · rw [q, hx] at h3
              cases h3
              exact hb
            · exact hs l z (by omega) h2 h3
      · rintro σ Hn ⟨v8, sp, rfl, rfl, hs⟩
        have hs : Spot cs sp := by
          have e : ((manyOf way : Nat) : Int).toNat = cs.length := by rw [hl]; rfl
          rw [e] at hs
          rcases hs with ⟨e, hs⟩ | ⟨j, y, e, hy, hyb, hs⟩
          · exact .inl ⟨e, fun j x hx => hs j x (by omega) hx⟩
          · exact .inr ⟨j, y, e, hy, hyb, fun l z h2 h3 => hs l z (by omega) h2 h3⟩
        have mem : ∀ {x : Cel}, x ∈ cs → ∃ j : Nat, cs[j]? = some x := fun {x} hx => List.mem_iff_getElem?.mp hx
        refine ⟨fun σ Hm => ∃ q, σ = [some (V.ref p), some (.ref r), some (.int w), some (.int way), some (.int (manyOf way)), some (.ref G), some (.ref D), some (.ref O), v8, some (.int (0 + (t : Int))), some (.int sp), some (.ref q), v12] ∧ Same Hn Hm ∧ ((sp = (cs.length : Int) ∧ (∀ (j : Nat) x, cs[j]? = some x → x.b = false) ∧ Hm q = some (.tup [.str "told", tells w way (gs cs)])) ∨
          ∃ (j : Nat) (x : Cel), sp = (j : Int) ∧ cs[j]? = some x ∧ x.b = true ∧ (∀ (l : Nat) y, l < j → cs[l]? = some y → y.b = false) ∧ Hm q = some (.tup [.str "refused", x.v])), ?_, ?_⟩
        · rcases hs with ⟨e, hall⟩ | ⟨j, x, e, hx, hb, hfirst⟩
          · have gv : ∀ x ∈ cs, x.v = .int x.g := fun x hx => by
              obtain ⟨j, hj⟩ := mem hx
              exact ((C1.ok j x hj).ok (hall j x hj)).1
            refine ⟨_, rfl, _, rfl, _, _, rfl, rfl, false, bl_f (by omega), ?_⟩
            refine ⟨_, rfl, _, rfl, _, rfl, way, D, w, gs cs, rfl, hway, w0, (by rw [← good_H gv]; exact C1.hD), (by rw [gs, List.length_map]; exact hl), (by show 2 ≤ sizeLine; decide), fun q hq => ?_⟩
            exact ⟨q, rfl, Same.new hq, .inl ⟨e, hall, upd_same⟩⟩
          · have jl := (List.getElem?_eq_some_iff.mp hx).1
            refine ⟨_, rfl, _, rfl, _, _, rfl, rfl, true, bl_t (by omega), ?_⟩
            refine ⟨_, rfl, _, rfl, _, _, _, _, rfl, rfl, SqL.of C1.hD, (by rw [e]; exact atI_nat (cel_at hx)), (by show 2 ≤ sizeLine; decide), fun q hq => ?_⟩
            exact ⟨q, rfl, Same.new hq, .inr ⟨j, x, e, hx, hb, hfirst, upd_same⟩⟩
        rintro σ Ha ⟨q, rfl, sa, hW⟩
        have Ca : Call T.c_Ring p c G D O r w way cs Ha := C1.next (.of sa) (C1.P.same sa) (sa _ _ C1.hG) (sa _ _ C1.hD) (sa _ _ C1.hO) fun j x hx => (C1.ok j x hx).on (.of sa)
        have Sa := S1.trans (SameP.of sa)
        have rng : ∀ a ∈ gs cs, 0 ≤ a ∧ a < w := fun a ha => by
          obtain ⟨x, hx, rfl⟩ := List.mem_map.mp ha
          obtain ⟨j, hj⟩ := mem hx
          exact ⟨(C1.ok j x hj).g0, (C1.ok j x hj).g1⟩
        refine ⟨fun σ Hn => σ = [some (V.ref p), some (.ref r), some (.int w), some (.int way), some (.int (manyOf way)), some (.ref G), some (.ref D), some (.ref O), v8, some (.int (0 + (t : Int))), some (.int sp), some (.ref q), v12] ∧ Same Ha Hn, ?_, ?_⟩
        · refine ⟨_, rfl, _, rfl, _, rfl, r, D, way, w, cH cs, cs.map (fun x => x.o), rfl, hway, Ca.R, w0, Ca.hD, kds (fun x hx => ?_), (by rw [cH, List.length_map]; exact hl), ?_⟩
          · obtain ⟨j, hj⟩ := mem hx
            exact (Ca.ok j x hj).it.kd
          have os : ∀ {i : Nat} {o : Option Int}, (cs.map fun x => x.o)[i]? = some o → ∃ y, cs[i]? = some y ∧ y.o = o := fun {i o} ho => by
            rw [List.getElem?_map] at ho
            cases e2 : cs[i]? with
            | none =>
              rw [e2] at ho
              cases ho
            | some y =>
              rw [e2] at ho
              exact ⟨y, rfl, Option.some.inj ho⟩
          rcases hW with ⟨e, hall, hq⟩ | ⟨j, x, e, hx, hb, hfirst, hq⟩
          · have go : ∀ x ∈ cs, x.o = some x.g := fun x hx => by
              obtain ⟨j, hj⟩ := mem hx
              exact ((C1.ok j x hj).ok (hall j x hj)).2.1
            refine .inr ⟨fun i o ho => ?_, gs cs, good_O go, fun q2 Hb sb h2 => ?_⟩
            · obtain ⟨y, hy, rfl⟩ := os ho
              exact (Ca.ok i y hy).bd.trans (hall i y hy)
            · obtain ⟨d, hd, hsd⟩ := tells_shown (K := K) (H := Hb) w0 w1 hway (show (gs cs).length = manyOf way by rw [gs, List.length_map]; exact hl) rng
              exact ⟨_, _, _, _, rfl, SqT.of h2, hd, hsd.sh, Nat.le_trans hsd.dp (by decide), pair_len hsd (by decide +kernel), _, rfl, _, _, _, _, rfl, SqT.of (sb _ _ hq), hd, hsd.sh, Nat.le_trans hsd.dp (by decide), pair_len hsd (by decide +kernel), rfl, false, bln_t rfl, rfl, sb⟩
          · refine .inl ⟨j, x.v, ⟨⟨x.o, by rw [List.getElem?_map, hx]; rfl, (Ca.ok j x hx).bd.trans hb⟩, fun l o h1 ho => ?_⟩, cel_at hx, fun q2 Hb sb h2 => ?_⟩
            · obtain ⟨y, hy, rfl⟩ := os ho
              exact (Ca.ok l y hy).bd.trans (hfirst l y h1 hy)
            · have hit := ((Ca.ok j x hx).on (.of sb)).it
              have hsd := hit.shown
              exact ⟨_, _, _, _, rfl, SqT.of h2, hit.dr, hsd.sh, Nat.le_trans hsd.dp (by decide), pair_len hsd (by decide +kernel), _, rfl, _, _, _, _, rfl, SqT.of (sb _ _ hq), hit.dr, hsd.sh, Nat.le_trans hsd.dp (by decide), pair_len hsd (by decide +kernel), rfl, false, bln_t rfl, rfl, sb⟩
        rintro σ Hb ⟨rfl, sb⟩
        have Cb : Call T.c_Ring p c G D O r w way cs Hb := Ca.next (.of sb) (Ca.P.same sb) (sb _ _ Ca.hG) (sb _ _ Ca.hD) (sb _ _ Ca.hO) fun j x hx => (Ca.ok j x hx).on (.of sb)
        have Sb := Sa.trans (SameP.of sb)
        obtain ⟨dx, hRb⟩ := id Cb.R
        refine ⟨_, rfl, _, rfl, by omega, by omega, for_range (lo := 0) (n := ((manyOf way : Nat) : Int).toNat) (fun i σ Hn => ∃ (v8 v12 : Option V), σ = [some (V.ref p), some (.ref r), some (.int w), some (.int way), some (.int (manyOf way)), some (.ref G), some (.ref D), some (.ref O), v8, some (.int (0 + (t : Int))), some (.int sp), some (.ref q), v12] ∧ Hn = Hb) ⟨_, _, rfl, rfl⟩ ?_ ?_⟩
        · rintro i σ Hn hi ⟨v8, v12, rfl, rfl⟩
          have hi' : i < manyOf way := by simpa using hi
          obtain ⟨x, hx⟩ : ∃ x, cs[i]? = some x := ⟨_, List.getElem?_eq_getElem (by omega)⟩
          have ix : (cH cs)[0 + i]? = some x.v := by rw [Nat.zero_add]; exact cel_at hx
          have kd : Kd K Hn x.v x.o := (Cb.ok i x hx).it.kd
          refine ⟨fun σ Hm => σ = [some (V.ref p), some (.ref r), some (.int w), some (.int way), some (.int (manyOf way)), some (.ref G), some (.ref D), some (.ref O), some (.int (0 + (i : Int))), some (.int (0 + (t : Int))), some (.int sp), some (.ref q), some (.bl (inR 0 (w - 1) x.o))] ∧ Hm = Hn, ?_, ?_⟩
          · refine ⟨_, rfl, _, rfl, _, _, _, _, rfl, rfl, SqL.of Cb.hD, atI_nat ix, _, rfl, _, rfl, _, _, _, _, rfl, rfl, SqL.of Cb.hD, atI_nat ix, x.v, x.v, x.o, rfl, kd, ?_⟩
            cases ho : x.o with
            | none => exact .inr ⟨rfl, false, rfl, rfl, rfl⟩
            | some n =>
              rw [ho] at kd
              have hv : x.v = .int n := kd
              rw [hv] at ix
              refine .inl ⟨n, n, rfl, hv, true, bl_t rfl, ?_⟩
              refine ⟨_, rfl, _, rfl, _, _, _, _, rfl, rfl, SqL.of Cb.hD, atI_nat ix, _, _, rfl, rfl, _, rfl, ?_⟩
              by_cases z : 0 ≤ n
              · rw [decide_eq_true z]
                refine ⟨_, rfl, _, _, rfl, rfl, ?_⟩
                refine ⟨?_, rfl⟩
                rw [show inR 0 (w - 1) (some n) = decide (n < w) by
                  show (decide (0 ≤ n) && decide (n ≤ w - 1)) = _
                  rw [decide_eq_true z, Bool.true_and]
                  exact decide_eq_decide.mpr (by omega)]
                rfl
              · rw [decide_eq_false z]
                refine ⟨?_, rfl⟩
                rw [show inR 0 (w - 1) (some n) = false by
                  show (decide (0 ≤ n) && decide (n ≤ w - 1)) = false
                  rw [decide_eq_false z, Bool.false_and]]
                rfl
          · rintro σ Hm ⟨rfl, rfl⟩
            refine ⟨_, rfl, _, rfl, _, _, _, _, rfl, rfl, SqL.of Cb.hD, atI_nat ix, _, rfl, r, dx, _, rfl, hRb, r, w, x.v, x.o, rfl, ⟨dx, hRb⟩, kd, _, rfl, _, rfl, _, _, rfl, true, congrArg V.bl (beq_self_eq_true _), ?_⟩
            exact ⟨_, _, rfl, rfl⟩
        · rintro σ Hn ⟨v8, v12, rfl, rfl⟩
          rcases hW with ⟨e, hall, hq⟩ | ⟨j, x, e, hx, hb, hfirst, hq⟩
          · exact ⟨_, rfl, _, rfl, rfl, true, bl_t (int_eq (by omega)), k _ Cb.P (up Sb)⟩
          · have jl := (List.getElem?_eq_some_iff.mp hx).1
            refine ⟨_, rfl, _, rfl, rfl, false, bl_f (int_ne (by omega)), ?_⟩
            subst e
            refine ⟨_, rfl, _, rfl, _, _, _, _, rfl, rfl, SqL.of Cb.hG, atI_nat (cel_at hx), _, rfl, _, rfl, D, _, _, j, rfl, rfl, Cb.hD, ixN_nat rfl (by rw [cH, List.length_map]; exact jl), ?_⟩
            refine ⟨_, rfl, _, rfl, O, _, _, j, rfl, rfl, (upd_ne A.DO.symm).trans Cb.hO, ixN_nat rfl (by rw [cO, List.length_map]; exact jl), ?_⟩
            have sf : SameP (Lst4 p G D O) Hn (upd (upd Hn D (.lst ((cH cs).set j (.int x.g)))) O (.lst ((cO cs).set j (.bl false)))) := (SameP.upd SD).trans (.upd SO)
            refine ⟨_, _, _, _, _, cs.set j ⟨x.g, .int x.g, some x.g, .int x.g, false⟩, rfl, by rw [List.length_set]; exact hl, Cb.next sf ((Cb.P.keep (upd_ne A.pD) (upd_ne A.cD)).keep (upd_ne A.pO) (upd_ne A.cO)) ?_ ?_ ?_ (fun l y hy => ?_), Sb.trans sf, ?_⟩
            · rw [upd_ne A.GO, upd_ne A.GD, Cb.hG]
              congr 2
              rw [cG, cG, List.map_set]
              exact (set_same (cel_at hx)).symm
            · rw [upd_ne A.DO, upd_same]
              congr 2
              rw [cH, cH, List.map_set]
            · rw [upd_same]
              congr 2
              rw [cO, cO, List.map_set]
            · rw [List.getElem?_set] at hy
              by_cases q1 : j = l
              · rw [if_pos q1, if_pos (by omega)] at hy
                cases hy
                have hc1 := Cb.ok j x hx
                subst q1
                exact .fine hc1.g0 hc1.g1 w1
              · rw [if_neg q1] at hy
                exact (Cb.ok l y hy).on sf
            · have := cnt_set (y := ⟨x.g, .int x.g, some x.g, .int x.g, false⟩) rfl hx hb
              omega
    · rintro σ Hn ⟨v8, v9, v10, v11, v12, ds, rfl, hl2, C2, S2, hc⟩
      exfalso
      have : ((((manyOf way : Nat) : Int) + 1).toNat) = manyOf way + 1 := by omega
      omega
/-! ### the law -/
def sp_law (K : PySem.W.Frag) : Sp := fun vs H Q _ => ∃ (a : Addr) (ns : List Int), vs = [.ref a] ∧ SqL K H a (ns.map V.int) ∧ ns.length ≤ 63 ∧ ∀ H', Q (.bl true) H'
theorem ok_law (T : Txt K mg) : FnStill P w K mg base 10 T.a_law T.fd_law ["script"] (sp_law K) := by
  have S := sc_law
  refine still_fn T.F_law S (fun vs H Q E h => ?_) (fun cdv A outer s H vs Q E hg hr h => ?_)
  · obtain ⟨a, ns, rfl, _⟩ := h
    rfl
  · obtain ⟨a, ns, rfl, hS, hl, k⟩ := h
    refine ⟨_, (pss_cons (ps_set (i := 1) S.nd rfl (Or.inl rfl) (pe_call (ok__law_purse T) (hr.mono (by decide)) rfl T.g__law_purse T.F__law_purse.kp T.B__law_purse .nil pass0 (pa_cons (pv 0) pa_nil)))
      (pss_cons (ps_if (pt_not (pt_val (pe_call (ok__law_errors T) (hr.mono (by decide)) rfl T.g__law_errors T.F__law_errors.kp T.B__law_errors .nil pass0 (pa_cons (pv 1) pa_nil)))) (pss_one (ps_ret pe_bl)) pss_nil)
      (pss_cons (ps_for PassesOwn.never rfl (pi_range1 (by rfl) T.b_range (pa_cons (pe_op op_add pe_int (pe_call (ok__law_draw T) (hr.mono (by decide)) rfl T.g__law_draw T.F__law_draw.kp T.B__law_draw .nil pass0 (pa_cons (pv 1) (pa_cons pe_int pa_nil)))) pa_nil)) (pg_name (i := 2) S.nd rfl (Or.inl rfl)) (pss_one (ps_if (pt_not (pt_val (pe_still hg (ok__law_sizes T) (hr.mono (by decide)) rfl T.g__law_sizes T.F__law_sizes.kp T.B__law_sizes .nil pass0 (pa_cons (pv 1) pa_nil)))) (pss_one (ps_ret pe_bl)) pss_nil)))
      (pss_cons (ps_set (i := 3) S.nd rfl (Or.inl rfl) (pe_op op_add pe_int (pe_call (ok__law_draw T) (hr.mono (by decide)) rfl T.g__law_draw T.F__law_draw.kp T.B__law_draw .nil pass0 (pa_cons (pv 1) (pa_cons pe_int pa_nil)))))
      (pss_cons (ps_set (i := 4) S.nd rfl (Or.inl rfl) (pe_call (ok__law_width T) (hr.mono (by decide)) rfl T.g__law_width T.F__law_width.kp T.B__law_width .nil pass0 (pa_cons (pv 3) pa_nil)))
      (pss_cons (ps_set (i := 5) S.nd rfl (Or.inl rfl) (ClX.pe_cmeth (pe_glob (v := .ref T.c_Ring) rfl T.g_Ring rfl) T.R_Ring T.CM_Ring_of_bits ((ok_Ring_of_bits T).raw T.B_Ring_of_bits .nil) (hr.mono (by decide)) passL (pa_cons (pv 3) pa_nil)))
      (pss_cons (ps_for PassesOwn.never rfl (pi_range1 (by rfl) T.b_range (pa_cons (pe_op op_add pe_int (pe_call (ok__law_draw T) (hr.mono (by decide)) rfl T.g__law_draw T.F__law_draw.kp T.B__law_draw .nil pass0 (pa_cons (pv 1) (pa_cons pe_int pa_nil)))) pa_nil)) (pg_name (i := 2) S.nd rfl (Or.inl rfl)) (pss_one (ps_if (pt_not (pt_val (pe_still hg (ok__law_call T) (hr.mono (by decide)) rfl T.g__law_call T.F__law_call.kp T.B__law_call .nil pass0 (pa_cons (pv 1) (pa_cons (pv 5) (pa_cons (pv 4) pa_nil)))))) (pss_one (ps_ret pe_bl)) pss_nil)))
      (pss_one (ps_ret (pe_and (pe_call (ok__law_equals T) (hr.mono (by decide)) rfl T.g__law_equals T.F__law_equals.kp T.B__law_equals .nil pass0 (pa_cons (pv 1) (pa_cons (pv 5) (pa_cons (pv 4) pa_nil)))) (pe_one (pe_call (ok__law_is T) (hr.mono (by decide)) rfl T.g__law_is T.F__law_is.kp T.B__law_is .nil pass0 (pa_cons (pe_fld (pv 5) rfl) (pa_cons (pv 4) pa_nil)))))))))))))), ?_⟩
    refine ⟨_, rfl, a, ns, rfl, hS, fun p c H1 _ _ _ P1 _ => ?_⟩
    refine ⟨_, rfl, p, rfl, c, P1, fun H2 P2 s2 => ⟨true, rfl, ?_⟩⟩
    refine ⟨_, rfl, p, 3, rfl, c, P2, by decide, by decide, fun d H3 d0 d1 P3 s3 => ⟨_, _, rfl, rfl, _, rfl, by omega, by omega, ?_⟩⟩
    refine for_range (lo := 0) (n := (1 + d).toNat) (fun i σ H' => ∃ v, σ = [some (.ref a), some (.ref p), v, none, none, none] ∧ Purse p c H') ⟨none, rfl, P3⟩ ?_ ?_
    · rintro i σ H' hi ⟨v, rfl, P4⟩
      exact ⟨_, rfl, p, rfl, c, P4, fun H5 P5 s5 => ⟨true, rfl, _, rfl, P5⟩⟩
    rintro σ H4 ⟨v, rfl, P4⟩
    refine ⟨_, rfl, p, 27, rfl, c, P4, by decide, by decide, fun e H5 e0 e1 P5 s5 => ⟨_, _, rfl, rfl, ?_⟩⟩
    obtain ⟨b, hb⟩ : ∃ b : Nat, 6 + e = (b : Int) := ⟨(6 + e).toNat, by omega⟩
    dsimp only
    rw [hb]
    refine ⟨_, rfl, b, rfl, by omega, ?_⟩
    refine ⟨rfl, _, rfl, .int b, some b, rfl, rfl, .inl ⟨b, rfl, by omega, by omega, fun r H6 nr s6 hR => ?_⟩⟩
    have P6 := P5.same s6
    refine ⟨_, rfl, p, 4, rfl, c, P6, by decide, by decide, fun f H7 f0 f1 P7 s7 => ⟨_, _, rfl, rfl, _, rfl, by omega, by omega, ?_⟩⟩
    refine for_range (lo := 0) (n := (1 + f).toNat) (fun i σ H' => ∃ v, σ = [some (.ref a), some (.ref p), v, some (.int b), some (.int (2 ^ b)), some (.ref r)] ∧ Purse p c H' ∧ RingAt T.c_Ring H' r (2 ^ b)) ⟨_, rfl, P7, hR.on (P6.ring hR) s7⟩ ?_ ?_
    · rintro i σ H' hi ⟨v, rfl, P8, hR8⟩
      exact ⟨_, rfl, _, rfl, _, rfl, p, r, b, rfl, c, P8, hR8, by omega, by omega, fun H9 P9 s9 => ⟨true, rfl, _, rfl, P9, hR8.on (P8.ring hR8) s9⟩⟩
    rintro σ H8 ⟨v, rfl, P8, hR8⟩
    refine ⟨_, rfl, _, rfl, _, rfl, p, r, b, rfl, c, P8, hR8, by omega, by omega, fun H9 P9 s9 => ⟨true, rfl, ?_⟩⟩
    have hR9 := hR8.on (P8.ring hR8) s9
    obtain ⟨dx, hr⟩ := id hR9
    refine ⟨_, rfl, r, _, dx, _, _, rfl, hr, T.cl_Ring, T.n_Ring_size, rfl, _, rfl, _, _, some (2 ^ b), rfl, rfl, .inl ⟨2 ^ b, 2 ^ b, rfl, rfl, ?_⟩⟩
    rw [decide_eq_true rfl]
    exact k _
end
set_option maxHeartbeats 0 in
theorem all_mk {l : PySem.W.OpenLaw} {w : World} {K : PySem.W.Frag} {h : Heap} {mg : Str → Option Value} {fa : Addr} (X : K.In h) (G : h.Ns mainGlobals mg) (hfa : mg "law" = some (.ref fa))
    {c_Ring c_InvalidNumber c_InvalidSetting c_InvalidSegment c_InvalidWords c_NotAllowed c_Broken c_NoConnection c_NoListener c_PortTaken c_StationDown c_TooMany c_InvalidFate c_InvalidTrace c_InvalidDeed c_NothingLeft c_Stopped c_InvalidLine c_WrongSum c_LossError a_InvalidNumber_init_ a_InvalidSetting_init_ a_InvalidSegment_init_ a_InvalidWords_init_ a_NotAllowed_init_ a_Broken_init_ a_NoConnection_init_ a_NoListener_init_ a_PortTaken_init_ a_TooMany_init_ a_InvalidFate_init_ a_InvalidTrace_init_ a_InvalidDeed_init_ a_Stopped_init_ a_InvalidLine_init_ a_is_integer a_is_between a_Ring_init_ a_Ring_of_bits p_Ring_of_bits a_Ring_contains_ a_Ring_eq_ a_Ring_wrap a_Ring_unwrap a_Ring_gap a_Ring_before a_Ring_within a_Ring_require a_is_size a__law_purse a__law_draw a__law_number a__law_is a__law_truth a__law_width a__law_error a__law_classes a__law_numbers a__law_string a__law_keeps a__law_errors a__law_kind a__law_is_size a__law_sized a__law_bitten a__law_sizes a__law_odd a__law_answer a__law_wanted a__law_call a__law_equals a_law : Addr}
    {od_InvalidNumber_init_ an_InvalidNumber_init_ od_InvalidSetting_init_ an_InvalidSetting_init_ od_InvalidSegment_init_ an_InvalidSegment_init_ od_InvalidWords_init_ an_InvalidWords_init_ od_NotAllowed_init_ an_NotAllowed_init_ od_Broken_init_ an_Broken_init_ od_NoConnection_init_ an_NoConnection_init_ od_NoListener_init_ an_NoListener_init_ od_PortTaken_init_ an_PortTaken_init_ od_TooMany_init_ an_TooMany_init_ od_InvalidFate_init_ an_InvalidFate_init_ od_InvalidTrace_init_ an_InvalidTrace_init_ od_InvalidDeed_init_ an_InvalidDeed_init_ od_Stopped_init_ an_Stopped_init_ od_InvalidLine_init_ an_InvalidLine_init_ od_is_integer an_is_integer od_is_between an_is_between od_Ring_init_ an_Ring_init_ od_Ring_of_bits an_Ring_of_bits od_Ring_contains_ an_Ring_contains_ od_Ring_eq_ an_Ring_eq_ od_Ring_wrap an_Ring_wrap od_Ring_unwrap an_Ring_unwrap od_Ring_gap an_Ring_gap od_Ring_before an_Ring_before od_Ring_within an_Ring_within od_Ring_require an_Ring_require od_is_size an_is_size od__law_purse an__law_purse od__law_draw an__law_draw od__law_number an__law_number od__law_is an__law_is od__law_truth an__law_truth od__law_width an__law_width od__law_error an__law_error od__law_classes an__law_classes od__law_numbers an__law_numbers od__law_string an__law_string od__law_keeps an__law_keeps od__law_errors an__law_errors od__law_kind an__law_kind od__law_is_size an__law_is_size od__law_sized an__law_sized od__law_bitten an__law_bitten od__law_sizes an__law_sizes od__law_odd an__law_odd od__law_answer an__law_answer od__law_wanted an__law_wanted od__law_call an__law_call od__law_equals an__law_equals od_law an_law : Option Addr} {sl_InvalidNumber_init_ sl_InvalidSetting_init_ sl_InvalidSegment_init_ sl_InvalidWords_init_ sl_NotAllowed_init_ sl_Broken_init_ sl_NoConnection_init_ sl_NoListener_init_ sl_PortTaken_init_ sl_TooMany_init_ sl_InvalidFate_init_ sl_InvalidTrace_init_ sl_InvalidDeed_init_ sl_Stopped_init_ sl_InvalidLine_init_ sl_is_integer sl_is_between sl_Ring_init_ sl_Ring_of_bits sl_Ring_contains_ sl_Ring_eq_ sl_Ring_wrap sl_Ring_unwrap sl_Ring_gap sl_Ring_before sl_Ring_within sl_Ring_require sl_is_size sl__law_purse sl__law_draw sl__law_number sl__law_is sl__law_truth sl__law_width sl__law_error sl__law_classes sl__law_numbers sl__law_string sl__law_keeps sl__law_errors sl__law_kind sl__law_is_size sl__law_sized sl__law_bitten sl__law_sizes sl__law_odd sl__law_answer sl__law_wanted sl__law_call sl__law_equals sl_law : Array (Option Value)}
    {oc_InvalidNumber_init_ kV_InvalidNumber_init_ dc_InvalidNumber_init_ pm_InvalidNumber_init_ cd_InvalidNumber_init_ ct_InvalidNumber_init_ oc_InvalidSetting_init_ kV_InvalidSetting_init_ dc_InvalidSetting_init_ pm_InvalidSetting_init_ cd_InvalidSetting_init_ ct_InvalidSetting_init_ oc_InvalidSegment_init_ kV_InvalidSegment_init_ dc_InvalidSegment_init_ pm_InvalidSegment_init_ cd_InvalidSegment_init_ ct_InvalidSegment_init_ oc_InvalidWords_init_ kV_InvalidWords_init_ dc_InvalidWords_init_ pm_InvalidWords_init_ cd_InvalidWords_init_ ct_InvalidWords_init_ oc_NotAllowed_init_ kV_NotAllowed_init_ dc_NotAllowed_init_ pm_NotAllowed_init_ cd_NotAllowed_init_ ct_NotAllowed_init_ oc_Broken_init_ kV_Broken_init_ dc_Broken_init_ pm_Broken_init_ cd_Broken_init_ ct_Broken_init_ oc_NoConnection_init_ kV_NoConnection_init_ dc_NoConnection_init_ pm_NoConnection_init_ cd_NoConnection_init_ ct_NoConnection_init_ oc_NoListener_init_ kV_NoListener_init_ dc_NoListener_init_ pm_NoListener_init_ cd_NoListener_init_ ct_NoListener_init_ oc_PortTaken_init_ kV_PortTaken_init_ dc_PortTaken_init_ pm_PortTaken_init_ cd_PortTaken_init_ ct_PortTaken_init_ oc_TooMany_init_ kV_TooMany_init_ dc_TooMany_init_ pm_TooMany_init_ cd_TooMany_init_ ct_TooMany_init_ oc_InvalidFate_init_ kV_InvalidFate_init_ dc_InvalidFate_init_ pm_InvalidFate_init_ cd_InvalidFate_init_ ct_InvalidFate_init_ oc_InvalidTrace_init_ kV_InvalidTrace_init_ dc_InvalidTrace_init_ pm_InvalidTrace_init_ cd_InvalidTrace_init_ ct_InvalidTrace_init_ oc_InvalidDeed_init_ kV_InvalidDeed_init_ dc_InvalidDeed_init_ pm_InvalidDeed_init_ cd_InvalidDeed_init_ ct_InvalidDeed_init_ oc_Stopped_init_ kV_Stopped_init_ dc_Stopped_init_ pm_Stopped_init_ cd_Stopped_init_ ct_Stopped_init_ oc_InvalidLine_init_ kV_InvalidLine_init_ dc_InvalidLine_init_ pm_InvalidLine_init_ cd_InvalidLine_init_ ct_InvalidLine_init_ oc_is_integer kV_is_integer dc_is_integer pm_is_integer cd_is_integer ct_is_integer oc_is_between kV_is_between dc_is_between pm_is_between cd_is_between ct_is_between oc_Ring_init_ kV_Ring_init_ dc_Ring_init_ pm_Ring_init_ cd_Ring_init_ ct_Ring_init_ oc_Ring_of_bits kV_Ring_of_bits dc_Ring_of_bits pm_Ring_of_bits cd_Ring_of_bits ct_Ring_of_bits oc_Ring_contains_ kV_Ring_contains_ dc_Ring_contains_ pm_Ring_contains_ cd_Ring_contains_ ct_Ring_contains_ oc_Ring_eq_ kV_Ring_eq_ dc_Ring_eq_ pm_Ring_eq_ cd_Ring_eq_ ct_Ring_eq_ oc_Ring_wrap kV_Ring_wrap dc_Ring_wrap pm_Ring_wrap cd_Ring_wrap ct_Ring_wrap oc_Ring_unwrap kV_Ring_unwrap dc_Ring_unwrap pm_Ring_unwrap cd_Ring_unwrap ct_Ring_unwrap oc_Ring_gap kV_Ring_gap dc_Ring_gap pm_Ring_gap cd_Ring_gap ct_Ring_gap oc_Ring_before kV_Ring_before dc_Ring_before pm_Ring_before cd_Ring_before ct_Ring_before oc_Ring_within kV_Ring_within dc_Ring_within pm_Ring_within cd_Ring_within ct_Ring_within oc_Ring_require kV_Ring_require dc_Ring_require pm_Ring_require cd_Ring_require ct_Ring_require oc_is_size kV_is_size dc_is_size pm_is_size cd_is_size ct_is_size oc__law_purse kV__law_purse dc__law_purse pm__law_purse cd__law_purse ct__law_purse oc__law_draw kV__law_draw dc__law_draw pm__law_draw cd__law_draw ct__law_draw oc__law_number kV__law_number dc__law_number pm__law_number cd__law_number ct__law_number oc__law_is kV__law_is dc__law_is pm__law_is cd__law_is ct__law_is oc__law_truth kV__law_truth dc__law_truth pm__law_truth cd__law_truth ct__law_truth oc__law_width kV__law_width dc__law_width pm__law_width cd__law_width ct__law_width oc__law_error kV__law_error dc__law_error pm__law_error cd__law_error ct__law_error oc__law_classes kV__law_classes dc__law_classes pm__law_classes cd__law_classes ct__law_classes oc__law_numbers kV__law_numbers dc__law_numbers pm__law_numbers cd__law_numbers ct__law_numbers oc__law_string kV__law_string dc__law_string pm__law_string cd__law_string ct__law_string oc__law_keeps kV__law_keeps dc__law_keeps pm__law_keeps cd__law_keeps ct__law_keeps oc__law_errors kV__law_errors dc__law_errors pm__law_errors cd__law_errors ct__law_errors oc__law_kind kV__law_kind dc__law_kind pm__law_kind cd__law_kind ct__law_kind oc__law_is_size kV__law_is_size dc__law_is_size pm__law_is_size cd__law_is_size ct__law_is_size oc__law_sized kV__law_sized dc__law_sized pm__law_sized cd__law_sized ct__law_sized oc__law_bitten kV__law_bitten dc__law_bitten pm__law_bitten cd__law_bitten ct__law_bitten oc__law_sizes kV__law_sizes dc__law_sizes pm__law_sizes cd__law_sizes ct__law_sizes oc__law_odd kV__law_odd dc__law_odd pm__law_odd cd__law_odd ct__law_odd oc__law_answer kV__law_answer dc__law_answer pm__law_answer cd__law_answer ct__law_answer oc__law_wanted kV__law_wanted dc__law_wanted pm__law_wanted cd__law_wanted ct__law_wanted oc__law_call kV__law_call dc__law_call pm__law_call cd__law_call ct__law_call oc__law_equals kV__law_equals dc__law_equals pm__law_equals cd__law_equals ct__law_equals oc_law kV_law dc_law pm_law cd_law ct_law : Value}
    {u_Ring_LEAST u_Ring_GREATEST : Value}
    {rs_Ring_of_bits : List Value}
    {xn_InvalidNumber xq_InvalidNumber : Str} {xN_InvalidNumber : Addr} {xb_InvalidNumber xm_InvalidNumber : List Value} {xs_InvalidNumber : List Str} {xu_InvalidNumber : List Value} {xa_InvalidNumber : Bool} {xo_InvalidNumber : _} {xd_InvalidNumber : Option Addr} {x0_InvalidNumber x1_InvalidNumber x2_InvalidNumber x3_InvalidNumber x5_InvalidNumber : Option Value}
    {xn_InvalidSetting xq_InvalidSetting : Str} {xN_InvalidSetting : Addr} {xb_InvalidSetting xm_InvalidSetting : List Value} {xs_InvalidSetting : List Str} {xu_InvalidSetting : List Value} {xa_InvalidSetting : Bool} {xo_InvalidSetting : _} {xd_InvalidSetting : Option Addr} {x0_InvalidSetting x1_InvalidSetting x2_InvalidSetting x3_InvalidSetting x5_InvalidSetting : Option Value}
    {xn_InvalidSegment xq_InvalidSegment : Str} {xN_InvalidSegment : Addr} {xb_InvalidSegment xm_InvalidSegment : List Value} {xs_InvalidSegment : List Str} {xu_InvalidSegment : List Value} {xa_InvalidSegment : Bool} {xo_InvalidSegment : _} {xd_InvalidSegment : Option Addr} {x0_InvalidSegment x1_InvalidSegment x2_InvalidSegment x3_InvalidSegment x5_InvalidSegment : Option Value}
    {xn_InvalidWords xq_InvalidWords : Str} {xN_InvalidWords : Addr} {xb_InvalidWords xm_InvalidWords : List Value} {xs_InvalidWords : List Str} {xu_InvalidWords : List Value} {xa_InvalidWords : Bool} {xo_InvalidWords : _} {xd_InvalidWords : Option Addr} {x0_InvalidWords x1_InvalidWords x2_InvalidWords x3_InvalidWords x5_InvalidWords : Option Value}
    {xn_NotAllowed xq_NotAllowed : Str} {xN_NotAllowed : Addr} {xb_NotAllowed xm_NotAllowed : List Value} {xs_NotAllowed : List Str} {xu_NotAllowed : List Value} {xa_NotAllowed : Bool} {xo_NotAllowed : _} {xd_NotAllowed : Option Addr} {x0_NotAllowed x1_NotAllowed x2_NotAllowed x3_NotAllowed x5_NotAllowed : Option Value}
    {xn_Broken xq_Broken : Str} {xN_Broken : Addr} {xb_Broken xm_Broken : List Value} {xs_Broken : List Str} {xu_Broken : List Value} {xa_Broken : Bool} {xo_Broken : _} {xd_Broken : Option Addr} {x0_Broken x1_Broken x2_Broken x3_Broken x5_Broken : Option Value}
    {xn_NoConnection xq_NoConnection : Str} {xN_NoConnection : Addr} {xb_NoConnection xm_NoConnection : List Value} {xs_NoConnection : List Str} {xu_NoConnection : List Value} {xa_NoConnection : Bool} {xo_NoConnection : _} {xd_NoConnection : Option Addr} {x0_NoConnection x1_NoConnection x2_NoConnection x3_NoConnection x5_NoConnection : Option Value}
    {xn_NoListener xq_NoListener : Str} {xN_NoListener : Addr} {xb_NoListener xm_NoListener : List Value} {xs_NoListener : List Str} {xu_NoListener : List Value} {xa_NoListener : Bool} {xo_NoListener : _} {xd_NoListener : Option Addr} {x0_NoListener x1_NoListener x2_NoListener x3_NoListener x5_NoListener : Option Value}
    {xn_PortTaken xq_PortTaken : Str} {xN_PortTaken : Addr} {xb_PortTaken xm_PortTaken : List Value} {xs_PortTaken : List Str} {xu_PortTaken : List Value} {xa_PortTaken : Bool} {xo_PortTaken : _} {xd_PortTaken : Option Addr} {x0_PortTaken x1_PortTaken x2_PortTaken x3_PortTaken x5_PortTaken : Option Value}
    {xn_TooMany xq_TooMany : Str} {xN_TooMany : Addr} {xb_TooMany xm_TooMany : List Value} {xs_TooMany : List Str} {xu_TooMany : List Value} {xa_TooMany : Bool} {xo_TooMany : _} {xd_TooMany : Option Addr} {x0_TooMany x1_TooMany x2_TooMany x3_TooMany x5_TooMany : Option Value}
    {xn_InvalidFate xq_InvalidFate : Str} {xN_InvalidFate : Addr} {xb_InvalidFate xm_InvalidFate : List Value} {xs_InvalidFate : List Str} {xu_InvalidFate : List Value} {xa_InvalidFate : Bool} {xo_InvalidFate : _} {xd_InvalidFate : Option Addr} {x0_InvalidFate x1_InvalidFate x2_InvalidFate x3_InvalidFate x5_InvalidFate : Option Value}
    {xn_InvalidTrace xq_InvalidTrace : Str} {xN_InvalidTrace : Addr} {xb_InvalidTrace xm_InvalidTrace : List Value} {xs_InvalidTrace : List Str} {xu_InvalidTrace : List Value} {xa_InvalidTrace : Bool} {xo_InvalidTrace : _} {xd_InvalidTrace : Option Addr} {x0_InvalidTrace x1_InvalidTrace x2_InvalidTrace x3_InvalidTrace x5_InvalidTrace : Option Value}
    {xn_InvalidDeed xq_InvalidDeed : Str} {xN_InvalidDeed : Addr} {xb_InvalidDeed xm_InvalidDeed : List Value} {xs_InvalidDeed : List Str} {xu_InvalidDeed : List Value} {xa_InvalidDeed : Bool} {xo_InvalidDeed : _} {xd_InvalidDeed : Option Addr} {x0_InvalidDeed x1_InvalidDeed x2_InvalidDeed x3_InvalidDeed x5_InvalidDeed : Option Value}
    {xn_Stopped xq_Stopped : Str} {xN_Stopped : Addr} {xb_Stopped xm_Stopped : List Value} {xs_Stopped : List Str} {xu_Stopped : List Value} {xa_Stopped : Bool} {xo_Stopped : _} {xd_Stopped : Option Addr} {x0_Stopped x1_Stopped x2_Stopped x3_Stopped x5_Stopped : Option Value}
    {xn_InvalidLine xq_InvalidLine : Str} {xN_InvalidLine : Addr} {xb_InvalidLine xm_InvalidLine : List Value} {xs_InvalidLine : List Str} {xu_InvalidLine : List Value} {xa_InvalidLine : Bool} {xo_InvalidLine : _} {xd_InvalidLine : Option Addr} {x0_InvalidLine x1_InvalidLine x2_InvalidLine x3_InvalidLine x5_InvalidLine : Option Value}
    {xn_WrongSum xq_WrongSum : Str} {xN_WrongSum : Addr} {xb_WrongSum xm_WrongSum : List Value} {xs_WrongSum : List Str} {xu_WrongSum : List Value} {xa_WrongSum : Bool} {xo_WrongSum : _} {xd_WrongSum : Option Addr} {x0_WrongSum x1_WrongSum x2_WrongSum x3_WrongSum x5_WrongSum : Option Value}
    (aC_Ring : PySem.W.nsIn K mainGlobals "Ring" = some (some (.ref c_Ring)))
    (pg_Ring : PySem.W.plainGet K c_Ring Str.empty = true)
    (hd_Ring : PySem.W.hasDictIn K c_Ring = true)
    (po_Ring : PySem.W.plainOver K c_Ring = true)
    (sa_Ring : PySem.W.findIn K (.ref c_Ring) "__setattr__" = some (some (.builtin "object.__setattr__")))
    (mk_Ring : PySem.W.makesIn K c_Ring = true)
    (kc_Ring : PySem.W.keepIn K (.ref c_Ring) = true)
    (n_Ring_size : PySem.W.findIn K (.ref c_Ring) "size" = some none)
    (rd_Ring : PySem.W.readsIn K c_Ring (.type "type") = true)
    (ga_Ring : PySem.W.specialIn K (.ref c_Ring) "__getattribute__" = some (some (.builtin "type.__getattribute__")))
    (va_Ring_LEAST : PySem.W.findCls K (.ref c_Ring) (.type "type") "LEAST" = some (.val u_Ring_LEAST))
    (va_Ring_GREATEST : PySem.W.findCls K (.ref c_Ring) (.type "type") "GREATEST" = some (.val u_Ring_GREATEST))
    (aC_InvalidNumber : PySem.W.nsIn K mainGlobals "InvalidNumber" = some (some (.ref c_InvalidNumber)))
    (xl_InvalidNumber : K.lookup c_InvalidNumber = some (excClassObj xn_InvalidNumber xq_InvalidNumber c_InvalidNumber xN_InvalidNumber xb_InvalidNumber xm_InvalidNumber true xs_InvalidNumber xu_InvalidNumber xa_InvalidNumber xo_InvalidNumber xd_InvalidNumber x0_InvalidNumber x1_InvalidNumber x2_InvalidNumber x3_InvalidNumber x5_InvalidNumber "ValueError.__new__"))
    (sa_InvalidNumber : PySem.W.findIn K (.ref c_InvalidNumber) "__setattr__" = some (some (.builtin "object.__setattr__")))
    (xx_InvalidNumber : PySem.W.subIn K (.ref c_InvalidNumber) (.type "BaseException") = some true)
    (xt_InvalidNumber : PySem.W.typeIn K (.ref c_InvalidNumber) = some (.type "type"))
    (xk_InvalidNumber : PySem.W.keepIn K (.ref c_InvalidNumber) = true)
    (xi_InvalidNumber : PySem.W.findIn K (.ref c_InvalidNumber) "__init__" = some (some (.ref a_InvalidNumber_init_)))
    (xg_InvalidNumber : PySem.W.findIn K (.ref c_InvalidNumber) "__getattribute__" = some (some (.builtin "BaseException.__getattribute__")))
    (xh_InvalidNumber : PySem.W.findIn K (.ref c_InvalidNumber) "__getattr__" = some none)
    (xy_InvalidNumber : PySem.W.hasDictIn K c_InvalidNumber = true)
    (xc_InvalidNumber : PySem.W.findIn K (.ref c_InvalidNumber) "__class__" = some (some (.builtin "object.__class__")))
    (xr_InvalidNumber : PySem.W.mroIn K c_InvalidNumber (.type "object") = some true)
    (nX_InvalidNumber : PySem.W.findIn K (.ref c_InvalidNumber) "number" = some none)
    (aC_InvalidSetting : PySem.W.nsIn K mainGlobals "InvalidSetting" = some (some (.ref c_InvalidSetting)))
    (xl_InvalidSetting : K.lookup c_InvalidSetting = some (excClassObj xn_InvalidSetting xq_InvalidSetting c_InvalidSetting xN_InvalidSetting xb_InvalidSetting xm_InvalidSetting true xs_InvalidSetting xu_InvalidSetting xa_InvalidSetting xo_InvalidSetting xd_InvalidSetting x0_InvalidSetting x1_InvalidSetting x2_InvalidSetting x3_InvalidSetting x5_InvalidSetting "ValueError.__new__"))
    (sa_InvalidSetting : PySem.W.findIn K (.ref c_InvalidSetting) "__setattr__" = some (some (.builtin "object.__setattr__")))
    (xx_InvalidSetting : PySem.W.subIn K (.ref c_InvalidSetting) (.type "BaseException") = some true)
    (xt_InvalidSetting : PySem.W.typeIn K (.ref c_InvalidSetting) = some (.type "type"))
    (xk_InvalidSetting : PySem.W.keepIn K (.ref c_InvalidSetting) = true)
    (xi_InvalidSetting : PySem.W.findIn K (.ref c_InvalidSetting) "__init__" = some (some (.ref a_InvalidSetting_init_)))
    (xg_InvalidSetting : PySem.W.findIn K (.ref c_InvalidSetting) "__getattribute__" = some (some (.builtin "BaseException.__getattribute__")))
    (xh_InvalidSetting : PySem.W.findIn K (.ref c_InvalidSetting) "__getattr__" = some none)
    (xy_InvalidSetting : PySem.W.hasDictIn K c_InvalidSetting = true)
    (xc_InvalidSetting : PySem.W.findIn K (.ref c_InvalidSetting) "__class__" = some (some (.builtin "object.__class__")))
    (xr_InvalidSetting : PySem.W.mroIn K c_InvalidSetting (.type "object") = some true)
    (nX_InvalidSetting : PySem.W.findIn K (.ref c_InvalidSetting) "setting" = some none)
    (aC_InvalidSegment : PySem.W.nsIn K mainGlobals "InvalidSegment" = some (some (.ref c_InvalidSegment)))
    (xl_InvalidSegment : K.lookup c_InvalidSegment = some (excClassObj xn_InvalidSegment xq_InvalidSegment c_InvalidSegment xN_InvalidSegment xb_InvalidSegment xm_InvalidSegment true xs_InvalidSegment xu_InvalidSegment xa_InvalidSegment xo_InvalidSegment xd_InvalidSegment x0_InvalidSegment x1_InvalidSegment x2_InvalidSegment x3_InvalidSegment x5_InvalidSegment "ValueError.__new__"))
    (sa_InvalidSegment : PySem.W.findIn K (.ref c_InvalidSegment) "__setattr__" = some (some (.builtin "object.__setattr__")))
    (xx_InvalidSegment : PySem.W.subIn K (.ref c_InvalidSegment) (.type "BaseException") = some true)
    (xt_InvalidSegment : PySem.W.typeIn K (.ref c_InvalidSegment) = some (.type "type"))
    (xk_InvalidSegment : PySem.W.keepIn K (.ref c_InvalidSegment) = true)
    (xi_InvalidSegment : PySem.W.findIn K (.ref c_InvalidSegment) "__init__" = some (some (.ref a_InvalidSegment_init_)))
    (xg_InvalidSegment : PySem.W.findIn K (.ref c_InvalidSegment) "__getattribute__" = some (some (.builtin "BaseException.__getattribute__")))
    (xh_InvalidSegment : PySem.W.findIn K (.ref c_InvalidSegment) "__getattr__" = some none)
    (xy_InvalidSegment : PySem.W.hasDictIn K c_InvalidSegment = true)
    (xc_InvalidSegment : PySem.W.findIn K (.ref c_InvalidSegment) "__class__" = some (some (.builtin "object.__class__")))
    (xr_InvalidSegment : PySem.W.mroIn K c_InvalidSegment (.type "object") = some true)
    (nX_InvalidSegment : PySem.W.findIn K (.ref c_InvalidSegment) "part" = some none)
    (aC_InvalidWords : PySem.W.nsIn K mainGlobals "InvalidWords" = some (some (.ref c_InvalidWords)))
    (xl_InvalidWords : K.lookup c_InvalidWords = some (excClassObj xn_InvalidWords xq_InvalidWords c_InvalidWords xN_InvalidWords xb_InvalidWords xm_InvalidWords true xs_InvalidWords xu_InvalidWords xa_InvalidWords xo_InvalidWords xd_InvalidWords x0_InvalidWords x1_InvalidWords x2_InvalidWords x3_InvalidWords x5_InvalidWords "ValueError.__new__"))
    (sa_InvalidWords : PySem.W.findIn K (.ref c_InvalidWords) "__setattr__" = some (some (.builtin "object.__setattr__")))
    (xx_InvalidWords : PySem.W.subIn K (.ref c_InvalidWords) (.type "BaseException") = some true)
    (xt_InvalidWords : PySem.W.typeIn K (.ref c_InvalidWords) = some (.type "type"))
    (xk_InvalidWords : PySem.W.keepIn K (.ref c_InvalidWords) = true)
    (xi_InvalidWords : PySem.W.findIn K (.ref c_InvalidWords) "__init__" = some (some (.ref a_InvalidWords_init_)))
    (xg_InvalidWords : PySem.W.findIn K (.ref c_InvalidWords) "__getattribute__" = some (some (.builtin "BaseException.__getattribute__")))
    (xh_InvalidWords : PySem.W.findIn K (.ref c_InvalidWords) "__getattr__" = some none)
    (xy_InvalidWords : PySem.W.hasDictIn K c_InvalidWords = true)
    (xc_InvalidWords : PySem.W.findIn K (.ref c_InvalidWords) "__class__" = some (some (.builtin "object.__class__")))
    (xr_InvalidWords : PySem.W.mroIn K c_InvalidWords (.type "object") = some true)
    (nX_InvalidWords : PySem.W.findIn K (.ref c_InvalidWords) "place" = some none)
    (aC_NotAllowed : PySem.W.nsIn K mainGlobals "NotAllowed" = some (some (.ref c_NotAllowed)))
    (xl_NotAllowed : K.lookup c_NotAllowed = some (excClassObj xn_NotAllowed xq_NotAllowed c_NotAllowed xN_NotAllowed xb_NotAllowed xm_NotAllowed true xs_NotAllowed xu_NotAllowed xa_NotAllowed xo_NotAllowed xd_NotAllowed x0_NotAllowed x1_NotAllowed x2_NotAllowed x3_NotAllowed x5_NotAllowed "ValueError.__new__"))
    (sa_NotAllowed : PySem.W.findIn K (.ref c_NotAllowed) "__setattr__" = some (some (.builtin "object.__setattr__")))
    (xx_NotAllowed : PySem.W.subIn K (.ref c_NotAllowed) (.type "BaseException") = some true)
    (xt_NotAllowed : PySem.W.typeIn K (.ref c_NotAllowed) = some (.type "type"))
    (xk_NotAllowed : PySem.W.keepIn K (.ref c_NotAllowed) = true)
    (xi_NotAllowed : PySem.W.findIn K (.ref c_NotAllowed) "__init__" = some (some (.ref a_NotAllowed_init_)))
    (xg_NotAllowed : PySem.W.findIn K (.ref c_NotAllowed) "__getattribute__" = some (some (.builtin "BaseException.__getattribute__")))
    (xh_NotAllowed : PySem.W.findIn K (.ref c_NotAllowed) "__getattr__" = some none)
    (xy_NotAllowed : PySem.W.hasDictIn K c_NotAllowed = true)
    (xc_NotAllowed : PySem.W.findIn K (.ref c_NotAllowed) "__class__" = some (some (.builtin "object.__class__")))
    (xr_NotAllowed : PySem.W.mroIn K c_NotAllowed (.type "object") = some true)
    (nX_NotAllowed : PySem.W.findIn K (.ref c_NotAllowed) "state" = some none)
    (aC_Broken : PySem.W.nsIn K mainGlobals "Broken" = some (some (.ref c_Broken)))
    (xl_Broken : K.lookup c_Broken = some (excClassObj xn_Broken xq_Broken c_Broken xN_Broken xb_Broken xm_Broken true xs_Broken xu_Broken xa_Broken xo_Broken xd_Broken x0_Broken x1_Broken x2_Broken x3_Broken x5_Broken "ValueError.__new__"))
    (sa_Broken : PySem.W.findIn K (.ref c_Broken) "__setattr__" = some (some (.builtin "object.__setattr__")))
    (xx_Broken : PySem.W.subIn K (.ref c_Broken) (.type "BaseException") = some true)
    (xt_Broken : PySem.W.typeIn K (.ref c_Broken) = some (.type "type"))
    (xk_Broken : PySem.W.keepIn K (.ref c_Broken) = true)
    (xi_Broken : PySem.W.findIn K (.ref c_Broken) "__init__" = some (some (.ref a_Broken_init_)))
    (xg_Broken : PySem.W.findIn K (.ref c_Broken) "__getattribute__" = some (some (.builtin "BaseException.__getattribute__")))
    (xh_Broken : PySem.W.findIn K (.ref c_Broken) "__getattr__" = some none)
    (xy_Broken : PySem.W.hasDictIn K c_Broken = true)
    (xc_Broken : PySem.W.findIn K (.ref c_Broken) "__class__" = some (some (.builtin "object.__class__")))
    (xr_Broken : PySem.W.mroIn K c_Broken (.type "object") = some true)
    (nX_Broken : PySem.W.findIn K (.ref c_Broken) "reason" = some none)
    (aC_NoConnection : PySem.W.nsIn K mainGlobals "NoConnection" = some (some (.ref c_NoConnection)))
    (xl_NoConnection : K.lookup c_NoConnection = some (excClassObj xn_NoConnection xq_NoConnection c_NoConnection xN_NoConnection xb_NoConnection xm_NoConnection true xs_NoConnection xu_NoConnection xa_NoConnection xo_NoConnection xd_NoConnection x0_NoConnection x1_NoConnection x2_NoConnection x3_NoConnection x5_NoConnection "ValueError.__new__"))
    (sa_NoConnection : PySem.W.findIn K (.ref c_NoConnection) "__setattr__" = some (some (.builtin "object.__setattr__")))
    (xx_NoConnection : PySem.W.subIn K (.ref c_NoConnection) (.type "BaseException") = some true)
    (xt_NoConnection : PySem.W.typeIn K (.ref c_NoConnection) = some (.type "type"))
    (xk_NoConnection : PySem.W.keepIn K (.ref c_NoConnection) = true)
    (xi_NoConnection : PySem.W.findIn K (.ref c_NoConnection) "__init__" = some (some (.ref a_NoConnection_init_)))
    (xg_NoConnection : PySem.W.findIn K (.ref c_NoConnection) "__getattribute__" = some (some (.builtin "BaseException.__getattribute__")))
    (xh_NoConnection : PySem.W.findIn K (.ref c_NoConnection) "__getattr__" = some none)
    (xy_NoConnection : PySem.W.hasDictIn K c_NoConnection = true)
    (xc_NoConnection : PySem.W.findIn K (.ref c_NoConnection) "__class__" = some (some (.builtin "object.__class__")))
    (xr_NoConnection : PySem.W.mroIn K c_NoConnection (.type "object") = some true)
    (nX_NoConnection : PySem.W.findIn K (.ref c_NoConnection) "handle" = some none)
    (aC_NoListener : PySem.W.nsIn K mainGlobals "NoListener" = some (some (.ref c_NoListener)))
    (xl_NoListener : K.lookup c_NoListener = some (excClassObj xn_NoListener xq_NoListener c_NoListener xN_NoListener xb_NoListener xm_NoListener true xs_NoListener xu_NoListener xa_NoListener xo_NoListener xd_NoListener x0_NoListener x1_NoListener x2_NoListener x3_NoListener x5_NoListener "ValueError.__new__"))
    (sa_NoListener : PySem.W.findIn K (.ref c_NoListener) "__setattr__" = some (some (.builtin "object.__setattr__")))
    (xx_NoListener : PySem.W.subIn K (.ref c_NoListener) (.type "BaseException") = some true)
    (xt_NoListener : PySem.W.typeIn K (.ref c_NoListener) = some (.type "type"))
    (xk_NoListener : PySem.W.keepIn K (.ref c_NoListener) = true)
    (xi_NoListener : PySem.W.findIn K (.ref c_NoListener) "__init__" = some (some (.ref a_NoListener_init_)))
    (xg_NoListener : PySem.W.findIn K (.ref c_NoListener) "__getattribute__" = some (some (.builtin "BaseException.__getattribute__")))
    (xh_NoListener : PySem.W.findIn K (.ref c_NoListener) "__getattr__" = some none)
    (xy_NoListener : PySem.W.hasDictIn K c_NoListener = true)
    (xc_NoListener : PySem.W.findIn K (.ref c_NoListener) "__class__" = some (some (.builtin "object.__class__")))
    (xr_NoListener : PySem.W.mroIn K c_NoListener (.type "object") = some true)
    (nX_NoListener : PySem.W.findIn K (.ref c_NoListener) "port" = some none)
    (aC_PortTaken : PySem.W.nsIn K mainGlobals "PortTaken" = some (some (.ref c_PortTaken)))
    (xl_PortTaken : K.lookup c_PortTaken = some (excClassObj xn_PortTaken xq_PortTaken c_PortTaken xN_PortTaken xb_PortTaken xm_PortTaken true xs_PortTaken xu_PortTaken xa_PortTaken xo_PortTaken xd_PortTaken x0_PortTaken x1_PortTaken x2_PortTaken x3_PortTaken x5_PortTaken "ValueError.__new__"))
    (sa_PortTaken : PySem.W.findIn K (.ref c_PortTaken) "__setattr__" = some (some (.builtin "object.__setattr__")))
    (xx_PortTaken : PySem.W.subIn K (.ref c_PortTaken) (.type "BaseException") = some true)
    (xt_PortTaken : PySem.W.typeIn K (.ref c_PortTaken) = some (.type "type"))
    (xk_PortTaken : PySem.W.keepIn K (.ref c_PortTaken) = true)
    (xi_PortTaken : PySem.W.findIn K (.ref c_PortTaken) "__init__" = some (some (.ref a_PortTaken_init_)))
    (xg_PortTaken : PySem.W.findIn K (.ref c_PortTaken) "__getattribute__" = some (some (.builtin "BaseException.__getattribute__")))
    (xh_PortTaken : PySem.W.findIn K (.ref c_PortTaken) "__getattr__" = some none)
    (xy_PortTaken : PySem.W.hasDictIn K c_PortTaken = true)
    (xc_PortTaken : PySem.W.findIn K (.ref c_PortTaken) "__class__" = some (some (.builtin "object.__class__")))
    (xr_PortTaken : PySem.W.mroIn K c_PortTaken (.type "object") = some true)
    (nX_PortTaken : PySem.W.findIn K (.ref c_PortTaken) "port" = some none)
    (aC_StationDown : PySem.W.nsIn K mainGlobals "StationDown" = some (some (.ref c_StationDown)))
    (pq_StationDown : PySem.W.excIn K c_StationDown [.type "ValueError", .type "Exception", .type "BaseException", .type "object"] "ValueError.__new__" = true)
    (xk_StationDown : PySem.W.keepIn K (.ref c_StationDown) = true)
    (xg_StationDown : PySem.W.findIn K (.ref c_StationDown) "__getattribute__" = some (some (.builtin "BaseException.__getattribute__")))
    (xh_StationDown : PySem.W.findIn K (.ref c_StationDown) "__getattr__" = some none)
    (xx_StationDown : PySem.W.subIn K (.ref c_StationDown) (.type "BaseException") = some true)
    (xy_StationDown : PySem.W.hasDictIn K c_StationDown = true)
    (xc_StationDown : PySem.W.findIn K (.ref c_StationDown) "__class__" = some (some (.builtin "object.__class__")))
    (xr_StationDown : PySem.W.mroIn K c_StationDown (.type "object") = some true)
    (aC_TooMany : PySem.W.nsIn K mainGlobals "TooMany" = some (some (.ref c_TooMany)))
    (xl_TooMany : K.lookup c_TooMany = some (excClassObj xn_TooMany xq_TooMany c_TooMany xN_TooMany xb_TooMany xm_TooMany true xs_TooMany xu_TooMany xa_TooMany xo_TooMany xd_TooMany x0_TooMany x1_TooMany x2_TooMany x3_TooMany x5_TooMany "ValueError.__new__"))
    (sa_TooMany : PySem.W.findIn K (.ref c_TooMany) "__setattr__" = some (some (.builtin "object.__setattr__")))
    (xx_TooMany : PySem.W.subIn K (.ref c_TooMany) (.type "BaseException") = some true)
    (xt_TooMany : PySem.W.typeIn K (.ref c_TooMany) = some (.type "type"))
    (xk_TooMany : PySem.W.keepIn K (.ref c_TooMany) = true)
    (xi_TooMany : PySem.W.findIn K (.ref c_TooMany) "__init__" = some (some (.ref a_TooMany_init_)))
    (xg_TooMany : PySem.W.findIn K (.ref c_TooMany) "__getattribute__" = some (some (.builtin "BaseException.__getattribute__")))
    (xh_TooMany : PySem.W.findIn K (.ref c_TooMany) "__getattr__" = some none)
    (xy_TooMany : PySem.W.hasDictIn K c_TooMany = true)
    (xc_TooMany : PySem.W.findIn K (.ref c_TooMany) "__class__" = some (some (.builtin "object.__class__")))
    (xr_TooMany : PySem.W.mroIn K c_TooMany (.type "object") = some true)
    (nX_TooMany : PySem.W.findIn K (.ref c_TooMany) "most" = some none)
    (aC_InvalidFate : PySem.W.nsIn K mainGlobals "InvalidFate" = some (some (.ref c_InvalidFate)))
    (xl_InvalidFate : K.lookup c_InvalidFate = some (excClassObj xn_InvalidFate xq_InvalidFate c_InvalidFate xN_InvalidFate xb_InvalidFate xm_InvalidFate true xs_InvalidFate xu_InvalidFate xa_InvalidFate xo_InvalidFate xd_InvalidFate x0_InvalidFate x1_InvalidFate x2_InvalidFate x3_InvalidFate x5_InvalidFate "ValueError.__new__"))
    (sa_InvalidFate : PySem.W.findIn K (.ref c_InvalidFate) "__setattr__" = some (some (.builtin "object.__setattr__")))
    (xx_InvalidFate : PySem.W.subIn K (.ref c_InvalidFate) (.type "BaseException") = some true)
    (xt_InvalidFate : PySem.W.typeIn K (.ref c_InvalidFate) = some (.type "type"))
    (xk_InvalidFate : PySem.W.keepIn K (.ref c_InvalidFate) = true)
    (xi_InvalidFate : PySem.W.findIn K (.ref c_InvalidFate) "__init__" = some (some (.ref a_InvalidFate_init_)))
    (xg_InvalidFate : PySem.W.findIn K (.ref c_InvalidFate) "__getattribute__" = some (some (.builtin "BaseException.__getattribute__")))
    (xh_InvalidFate : PySem.W.findIn K (.ref c_InvalidFate) "__getattr__" = some none)
    (xy_InvalidFate : PySem.W.hasDictIn K c_InvalidFate = true)
    (xc_InvalidFate : PySem.W.findIn K (.ref c_InvalidFate) "__class__" = some (some (.builtin "object.__class__")))
    (xr_InvalidFate : PySem.W.mroIn K c_InvalidFate (.type "object") = some true)
    (nX_InvalidFate_side : PySem.W.findIn K (.ref c_InvalidFate) "side" = some none)
    (nX_InvalidFate_place : PySem.W.findIn K (.ref c_InvalidFate) "place" = some none)
    (aC_InvalidTrace : PySem.W.nsIn K mainGlobals "InvalidTrace" = some (some (.ref c_InvalidTrace)))
    (xl_InvalidTrace : K.lookup c_InvalidTrace = some (excClassObj xn_InvalidTrace xq_InvalidTrace c_InvalidTrace xN_InvalidTrace xb_InvalidTrace xm_InvalidTrace true xs_InvalidTrace xu_InvalidTrace xa_InvalidTrace xo_InvalidTrace xd_InvalidTrace x0_InvalidTrace x1_InvalidTrace x2_InvalidTrace x3_InvalidTrace x5_InvalidTrace "ValueError.__new__"))
    (sa_InvalidTrace : PySem.W.findIn K (.ref c_InvalidTrace) "__setattr__" = some (some (.builtin "object.__setattr__")))
    (xx_InvalidTrace : PySem.W.subIn K (.ref c_InvalidTrace) (.type "BaseException") = some true)
    (xt_InvalidTrace : PySem.W.typeIn K (.ref c_InvalidTrace) = some (.type "type"))
    (xk_InvalidTrace : PySem.W.keepIn K (.ref c_InvalidTrace) = true)
    (xi_InvalidTrace : PySem.W.findIn K (.ref c_InvalidTrace) "__init__" = some (some (.ref a_InvalidTrace_init_)))
    (xg_InvalidTrace : PySem.W.findIn K (.ref c_InvalidTrace) "__getattribute__" = some (some (.builtin "BaseException.__getattribute__")))
    (xh_InvalidTrace : PySem.W.findIn K (.ref c_InvalidTrace) "__getattr__" = some none)
    (xy_InvalidTrace : PySem.W.hasDictIn K c_InvalidTrace = true)
    (xc_InvalidTrace : PySem.W.findIn K (.ref c_InvalidTrace) "__class__" = some (some (.builtin "object.__class__")))
    (xr_InvalidTrace : PySem.W.mroIn K c_InvalidTrace (.type "object") = some true)
    (nX_InvalidTrace : PySem.W.findIn K (.ref c_InvalidTrace) "place" = some none)
    (aC_InvalidDeed : PySem.W.nsIn K mainGlobals "InvalidDeed" = some (some (.ref c_InvalidDeed)))
    (xl_InvalidDeed : K.lookup c_InvalidDeed = some (excClassObj xn_InvalidDeed xq_InvalidDeed c_InvalidDeed xN_InvalidDeed xb_InvalidDeed xm_InvalidDeed true xs_InvalidDeed xu_InvalidDeed xa_InvalidDeed xo_InvalidDeed xd_InvalidDeed x0_InvalidDeed x1_InvalidDeed x2_InvalidDeed x3_InvalidDeed x5_InvalidDeed "ValueError.__new__"))
    (sa_InvalidDeed : PySem.W.findIn K (.ref c_InvalidDeed) "__setattr__" = some (some (.builtin "object.__setattr__")))
    (xx_InvalidDeed : PySem.W.subIn K (.ref c_InvalidDeed) (.type "BaseException") = some true)
    (xt_InvalidDeed : PySem.W.typeIn K (.ref c_InvalidDeed) = some (.type "type"))
    (xk_InvalidDeed : PySem.W.keepIn K (.ref c_InvalidDeed) = true)
    (xi_InvalidDeed : PySem.W.findIn K (.ref c_InvalidDeed) "__init__" = some (some (.ref a_InvalidDeed_init_)))
    (xg_InvalidDeed : PySem.W.findIn K (.ref c_InvalidDeed) "__getattribute__" = some (some (.builtin "BaseException.__getattribute__")))
    (xh_InvalidDeed : PySem.W.findIn K (.ref c_InvalidDeed) "__getattr__" = some none)
    (xy_InvalidDeed : PySem.W.hasDictIn K c_InvalidDeed = true)
    (xc_InvalidDeed : PySem.W.findIn K (.ref c_InvalidDeed) "__class__" = some (some (.builtin "object.__class__")))
    (xr_InvalidDeed : PySem.W.mroIn K c_InvalidDeed (.type "object") = some true)
    (nX_InvalidDeed : PySem.W.findIn K (.ref c_InvalidDeed) "deed" = some none)
    (aC_NothingLeft : PySem.W.nsIn K mainGlobals "NothingLeft" = some (some (.ref c_NothingLeft)))
    (pq_NothingLeft : PySem.W.excIn K c_NothingLeft [.type "ValueError", .type "Exception", .type "BaseException", .type "object"] "ValueError.__new__" = true)
    (xk_NothingLeft : PySem.W.keepIn K (.ref c_NothingLeft) = true)
    (xg_NothingLeft : PySem.W.findIn K (.ref c_NothingLeft) "__getattribute__" = some (some (.builtin "BaseException.__getattribute__")))
    (xh_NothingLeft : PySem.W.findIn K (.ref c_NothingLeft) "__getattr__" = some none)
    (xx_NothingLeft : PySem.W.subIn K (.ref c_NothingLeft) (.type "BaseException") = some true)
    (xy_NothingLeft : PySem.W.hasDictIn K c_NothingLeft = true)
    (xc_NothingLeft : PySem.W.findIn K (.ref c_NothingLeft) "__class__" = some (some (.builtin "object.__class__")))
    (xr_NothingLeft : PySem.W.mroIn K c_NothingLeft (.type "object") = some true)
    (aC_Stopped : PySem.W.nsIn K mainGlobals "Stopped" = some (some (.ref c_Stopped)))
    (xl_Stopped : K.lookup c_Stopped = some (excClassObj xn_Stopped xq_Stopped c_Stopped xN_Stopped xb_Stopped xm_Stopped true xs_Stopped xu_Stopped xa_Stopped xo_Stopped xd_Stopped x0_Stopped x1_Stopped x2_Stopped x3_Stopped x5_Stopped "ValueError.__new__"))
    (sa_Stopped : PySem.W.findIn K (.ref c_Stopped) "__setattr__" = some (some (.builtin "object.__setattr__")))
    (xx_Stopped : PySem.W.subIn K (.ref c_Stopped) (.type "BaseException") = some true)
    (xt_Stopped : PySem.W.typeIn K (.ref c_Stopped) = some (.type "type"))
    (xk_Stopped : PySem.W.keepIn K (.ref c_Stopped) = true)
    (xi_Stopped : PySem.W.findIn K (.ref c_Stopped) "__init__" = some (some (.ref a_Stopped_init_)))
    (xg_Stopped : PySem.W.findIn K (.ref c_Stopped) "__getattribute__" = some (some (.builtin "BaseException.__getattribute__")))
    (xh_Stopped : PySem.W.findIn K (.ref c_Stopped) "__getattr__" = some none)
    (xy_Stopped : PySem.W.hasDictIn K c_Stopped = true)
    (xc_Stopped : PySem.W.findIn K (.ref c_Stopped) "__class__" = some (some (.builtin "object.__class__")))
    (xr_Stopped : PySem.W.mroIn K c_Stopped (.type "object") = some true)
    (nX_Stopped : PySem.W.findIn K (.ref c_Stopped) "place" = some none)
    (aC_InvalidLine : PySem.W.nsIn K mainGlobals "InvalidLine" = some (some (.ref c_InvalidLine)))
    (xl_InvalidLine : K.lookup c_InvalidLine = some (excClassObj xn_InvalidLine xq_InvalidLine c_InvalidLine xN_InvalidLine xb_InvalidLine xm_InvalidLine true xs_InvalidLine xu_InvalidLine xa_InvalidLine xo_InvalidLine xd_InvalidLine x0_InvalidLine x1_InvalidLine x2_InvalidLine x3_InvalidLine x5_InvalidLine "ValueError.__new__"))
    (sa_InvalidLine : PySem.W.findIn K (.ref c_InvalidLine) "__setattr__" = some (some (.builtin "object.__setattr__")))
    (xx_InvalidLine : PySem.W.subIn K (.ref c_InvalidLine) (.type "BaseException") = some true)
    (xt_InvalidLine : PySem.W.typeIn K (.ref c_InvalidLine) = some (.type "type"))
    (xk_InvalidLine : PySem.W.keepIn K (.ref c_InvalidLine) = true)
    (xi_InvalidLine : PySem.W.findIn K (.ref c_InvalidLine) "__init__" = some (some (.ref a_InvalidLine_init_)))
    (xg_InvalidLine : PySem.W.findIn K (.ref c_InvalidLine) "__getattribute__" = some (some (.builtin "BaseException.__getattribute__")))
    (xh_InvalidLine : PySem.W.findIn K (.ref c_InvalidLine) "__getattr__" = some none)
    (xy_InvalidLine : PySem.W.hasDictIn K c_InvalidLine = true)
    (xc_InvalidLine : PySem.W.findIn K (.ref c_InvalidLine) "__class__" = some (some (.builtin "object.__class__")))
    (xr_InvalidLine : PySem.W.mroIn K c_InvalidLine (.type "object") = some true)
    (nX_InvalidLine : PySem.W.findIn K (.ref c_InvalidLine) "line" = some none)
    (aC_WrongSum : PySem.W.nsIn K mainGlobals "WrongSum" = some (some (.ref c_WrongSum)))
    (xl_WrongSum : K.lookup c_WrongSum = some (excClassObj xn_WrongSum xq_WrongSum c_WrongSum xN_WrongSum xb_WrongSum xm_WrongSum true xs_WrongSum xu_WrongSum xa_WrongSum xo_WrongSum xd_WrongSum x0_WrongSum x1_WrongSum x2_WrongSum x3_WrongSum x5_WrongSum "ValueError.__new__"))
    (sa_WrongSum : PySem.W.findIn K (.ref c_WrongSum) "__setattr__" = some (some (.builtin "object.__setattr__")))
    (xx_WrongSum : PySem.W.subIn K (.ref c_WrongSum) (.type "BaseException") = some true)
    (xt_WrongSum : PySem.W.typeIn K (.ref c_WrongSum) = some (.type "type"))
    (xk_WrongSum : PySem.W.keepIn K (.ref c_WrongSum) = true)
    (xi_WrongSum : PySem.W.findIn K (.ref c_WrongSum) "__init__" = some (some (.ref a_InvalidWords_init_)))
    (xg_WrongSum : PySem.W.findIn K (.ref c_WrongSum) "__getattribute__" = some (some (.builtin "BaseException.__getattribute__")))
    (xh_WrongSum : PySem.W.findIn K (.ref c_WrongSum) "__getattr__" = some none)
    (xy_WrongSum : PySem.W.hasDictIn K c_WrongSum = true)
    (xc_WrongSum : PySem.W.findIn K (.ref c_WrongSum) "__class__" = some (some (.builtin "object.__class__")))
    (xr_WrongSum : PySem.W.mroIn K c_WrongSum (.type "object") = some true)
    (nX_WrongSum : PySem.W.findIn K (.ref c_WrongSum) "place" = some none)
    (aC_LossError : PySem.W.nsIn K mainGlobals "LossError" = some (some (.ref c_LossError)))
    (x_get : PySem.W.specialIn K (.builtin "object.__class__") "__get__" = some (some (.builtin "getset_descriptor.__get__")))
    (x_tk : PySem.W.takesIn K (.builtin "object.__class__") = some true)
    (Me_InvalidSetting_InvalidSetting : PySem.W.exmOne K (.ref c_InvalidSetting) (.ref c_InvalidSetting) = some true)
    (Me_InvalidNumber_InvalidNumber : PySem.W.exmOne K (.ref c_InvalidNumber) (.ref c_InvalidNumber) = some true)
    (xf_InvalidNumber_init_ : PySem.W.typeIn K (.ref a_InvalidNumber_init_) = some (.type "function"))
    (l_InvalidNumber_init_ : K.lookup a_InvalidNumber_init_ = some ⟨oc_InvalidNumber_init_, od_InvalidNumber_init_, .func (PySem.W.fnOf "__init__" "InvalidNumber.__init__" (defArgs s_InvalidNumber_init_) (defBody s_InvalidNumber_init_) (defScope s_InvalidNumber_init_) .none kV_InvalidNumber_init_ dc_InvalidNumber_init_ pm_InvalidNumber_init_ an_InvalidNumber_init_ cd_InvalidNumber_init_ ct_InvalidNumber_init_), sl_InvalidNumber_init_⟩)
    (e_InvalidNumber_init_ : PySem.W.codeIn K cd_InvalidNumber_init_ "InvalidNumber.__init__" = true)
    (k_InvalidNumber_init_ : PySem.W.keepIn K (.ref a_InvalidNumber_init_) = true)
    (xf_InvalidSetting_init_ : PySem.W.typeIn K (.ref a_InvalidSetting_init_) = some (.type "function"))
    (l_InvalidSetting_init_ : K.lookup a_InvalidSetting_init_ = some ⟨oc_InvalidSetting_init_, od_InvalidSetting_init_, .func (PySem.W.fnOf "__init__" "InvalidSetting.__init__" (defArgs s_InvalidSetting_init_) (defBody s_InvalidSetting_init_) (defScope s_InvalidSetting_init_) .none kV_InvalidSetting_init_ dc_InvalidSetting_init_ pm_InvalidSetting_init_ an_InvalidSetting_init_ cd_InvalidSetting_init_ ct_InvalidSetting_init_), sl_InvalidSetting_init_⟩)
    (e_InvalidSetting_init_ : PySem.W.codeIn K cd_InvalidSetting_init_ "InvalidSetting.__init__" = true)
    (k_InvalidSetting_init_ : PySem.W.keepIn K (.ref a_InvalidSetting_init_) = true)
    (xf_InvalidSegment_init_ : PySem.W.typeIn K (.ref a_InvalidSegment_init_) = some (.type "function"))
    (l_InvalidSegment_init_ : K.lookup a_InvalidSegment_init_ = some ⟨oc_InvalidSegment_init_, od_InvalidSegment_init_, .func (PySem.W.fnOf "__init__" "InvalidSegment.__init__" (defArgs s_InvalidSegment_init_) (defBody s_InvalidSegment_init_) (defScope s_InvalidSegment_init_) .none kV_InvalidSegment_init_ dc_InvalidSegment_init_ pm_InvalidSegment_init_ an_InvalidSegment_init_ cd_InvalidSegment_init_ ct_InvalidSegment_init_), sl_InvalidSegment_init_⟩)
    (e_InvalidSegment_init_ : PySem.W.codeIn K cd_InvalidSegment_init_ "InvalidSegment.__init__" = true)
    (k_InvalidSegment_init_ : PySem.W.keepIn K (.ref a_InvalidSegment_init_) = true)
    (xf_InvalidWords_init_ : PySem.W.typeIn K (.ref a_InvalidWords_init_) = some (.type "function"))
    (l_InvalidWords_init_ : K.lookup a_InvalidWords_init_ = some ⟨oc_InvalidWords_init_, od_InvalidWords_init_, .func (PySem.W.fnOf "__init__" "InvalidWords.__init__" (defArgs s_InvalidWords_init_) (defBody s_InvalidWords_init_) (defScope s_InvalidWords_init_) .none kV_InvalidWords_init_ dc_InvalidWords_init_ pm_InvalidWords_init_ an_InvalidWords_init_ cd_InvalidWords_init_ ct_InvalidWords_init_), sl_InvalidWords_init_⟩)
    (e_InvalidWords_init_ : PySem.W.codeIn K cd_InvalidWords_init_ "InvalidWords.__init__" = true)
    (k_InvalidWords_init_ : PySem.W.keepIn K (.ref a_InvalidWords_init_) = true)
    (xf_NotAllowed_init_ : PySem.W.typeIn K (.ref a_NotAllowed_init_) = some (.type "function"))
    (l_NotAllowed_init_ : K.lookup a_NotAllowed_init_ = some ⟨oc_NotAllowed_init_, od_NotAllowed_init_, .func (PySem.W.fnOf "__init__" "NotAllowed.__init__" (defArgs s_NotAllowed_init_) (defBody s_NotAllowed_init_) (defScope s_NotAllowed_init_) .none kV_NotAllowed_init_ dc_NotAllowed_init_ pm_NotAllowed_init_ an_NotAllowed_init_ cd_NotAllowed_init_ ct_NotAllowed_init_), sl_NotAllowed_init_⟩)
    (e_NotAllowed_init_ : PySem.W.codeIn K cd_NotAllowed_init_ "NotAllowed.__init__" = true)
    (k_NotAllowed_init_ : PySem.W.keepIn K (.ref a_NotAllowed_init_) = true)
    (xf_Broken_init_ : PySem.W.typeIn K (.ref a_Broken_init_) = some (.type "function"))
    (l_Broken_init_ : K.lookup a_Broken_init_ = some ⟨oc_Broken_init_, od_Broken_init_, .func (PySem.W.fnOf "__init__" "Broken.__init__" (defArgs s_Broken_init_) (defBody s_Broken_init_) (defScope s_Broken_init_) .none kV_Broken_init_ dc_Broken_init_ pm_Broken_init_ an_Broken_init_ cd_Broken_init_ ct_Broken_init_), sl_Broken_init_⟩)
    (e_Broken_init_ : PySem.W.codeIn K cd_Broken_init_ "Broken.__init__" = true)
    (k_Broken_init_ : PySem.W.keepIn K (.ref a_Broken_init_) = true)
    (xf_NoConnection_init_ : PySem.W.typeIn K (.ref a_NoConnection_init_) = some (.type "function"))
    (l_NoConnection_init_ : K.lookup a_NoConnection_init_ = some ⟨oc_NoConnection_init_, od_NoConnection_init_, .func (PySem.W.fnOf "__init__" "NoConnection.__init__" (defArgs s_NoConnection_init_) (defBody s_NoConnection_init_) (defScope s_NoConnection_init_) .none kV_NoConnection_init_ dc_NoConnection_init_ pm_NoConnection_init_ an_NoConnection_init_ cd_NoConnection_init_ ct_NoConnection_init_), sl_NoConnection_init_⟩)
    (e_NoConnection_init_ : PySem.W.codeIn K cd_NoConnection_init_ "NoConnection.__init__" = true)
    (k_NoConnection_init_ : PySem.W.keepIn K (.ref a_NoConnection_init_) = true)
    (xf_NoListener_init_ : PySem.W.typeIn K (.ref a_NoListener_init_) = some (.type "function"))
    (l_NoListener_init_ : K.lookup a_NoListener_init_ = some ⟨oc_NoListener_init_, od_NoListener_init_, .func (PySem.W.fnOf "__init__" "NoListener.__init__" (defArgs s_NoListener_init_) (defBody s_NoListener_init_) (defScope s_NoListener_init_) .none kV_NoListener_init_ dc_NoListener_init_ pm_NoListener_init_ an_NoListener_init_ cd_NoListener_init_ ct_NoListener_init_), sl_NoListener_init_⟩)
    (e_NoListener_init_ : PySem.W.codeIn K cd_NoListener_init_ "NoListener.__init__" = true)
    (k_NoListener_init_ : PySem.W.keepIn K (.ref a_NoListener_init_) = true)
    (xf_PortTaken_init_ : PySem.W.typeIn K (.ref a_PortTaken_init_) = some (.type "function"))
    (l_PortTaken_init_ : K.lookup a_PortTaken_init_ = some ⟨oc_PortTaken_init_, od_PortTaken_init_, .func (PySem.W.fnOf "__init__" "PortTaken.__init__" (defArgs s_PortTaken_init_) (defBody s_PortTaken_init_) (defScope s_PortTaken_init_) .none kV_PortTaken_init_ dc_PortTaken_init_ pm_PortTaken_init_ an_PortTaken_init_ cd_PortTaken_init_ ct_PortTaken_init_), sl_PortTaken_init_⟩)
    (e_PortTaken_init_ : PySem.W.codeIn K cd_PortTaken_init_ "PortTaken.__init__" = true)
    (k_PortTaken_init_ : PySem.W.keepIn K (.ref a_PortTaken_init_) = true)
    (xf_TooMany_init_ : PySem.W.typeIn K (.ref a_TooMany_init_) = some (.type "function"))
    (l_TooMany_init_ : K.lookup a_TooMany_init_ = some ⟨oc_TooMany_init_, od_TooMany_init_, .func (PySem.W.fnOf "__init__" "TooMany.__init__" (defArgs s_TooMany_init_) (defBody s_TooMany_init_) (defScope s_TooMany_init_) .none kV_TooMany_init_ dc_TooMany_init_ pm_TooMany_init_ an_TooMany_init_ cd_TooMany_init_ ct_TooMany_init_), sl_TooMany_init_⟩)
    (e_TooMany_init_ : PySem.W.codeIn K cd_TooMany_init_ "TooMany.__init__" = true)
    (k_TooMany_init_ : PySem.W.keepIn K (.ref a_TooMany_init_) = true)
    (xf_InvalidFate_init_ : PySem.W.typeIn K (.ref a_InvalidFate_init_) = some (.type "function"))
    (l_InvalidFate_init_ : K.lookup a_InvalidFate_init_ = some ⟨oc_InvalidFate_init_, od_InvalidFate_init_, .func (PySem.W.fnOf "__init__" "InvalidFate.__init__" (defArgs s_InvalidFate_init_) (defBody s_InvalidFate_init_) (defScope s_InvalidFate_init_) .none kV_InvalidFate_init_ dc_InvalidFate_init_ pm_InvalidFate_init_ an_InvalidFate_init_ cd_InvalidFate_init_ ct_InvalidFate_init_), sl_InvalidFate_init_⟩)
    (e_InvalidFate_init_ : PySem.W.codeIn K cd_InvalidFate_init_ "InvalidFate.__init__" = true)
    (k_InvalidFate_init_ : PySem.W.keepIn K (.ref a_InvalidFate_init_) = true)
    (xf_InvalidTrace_init_ : PySem.W.typeIn K (.ref a_InvalidTrace_init_) = some (.type "function"))
    (l_InvalidTrace_init_ : K.lookup a_InvalidTrace_init_ = some ⟨oc_InvalidTrace_init_, od_InvalidTrace_init_, .func (PySem.W.fnOf "__init__" "InvalidTrace.__init__" (defArgs s_InvalidTrace_init_) (defBody s_InvalidTrace_init_) (defScope s_InvalidTrace_init_) .none kV_InvalidTrace_init_ dc_InvalidTrace_init_ pm_InvalidTrace_init_ an_InvalidTrace_init_ cd_InvalidTrace_init_ ct_InvalidTrace_init_), sl_InvalidTrace_init_⟩)
    (e_InvalidTrace_init_ : PySem.W.codeIn K cd_InvalidTrace_init_ "InvalidTrace.__init__" = true)
    (k_InvalidTrace_init_ : PySem.W.keepIn K (.ref a_InvalidTrace_init_) = true)
    (xf_InvalidDeed_init_ : PySem.W.typeIn K (.ref a_InvalidDeed_init_) = some (.type "function"))
    (l_InvalidDeed_init_ : K.lookup a_InvalidDeed_init_ = some ⟨oc_InvalidDeed_init_, od_InvalidDeed_init_, .func (PySem.W.fnOf "__init__" "InvalidDeed.__init__" (defArgs s_InvalidDeed_init_) (defBody s_InvalidDeed_init_) (defScope s_InvalidDeed_init_) .none kV_InvalidDeed_init_ dc_InvalidDeed_init_ pm_InvalidDeed_init_ an_InvalidDeed_init_ cd_InvalidDeed_init_ ct_InvalidDeed_init_), sl_InvalidDeed_init_⟩)
    (e_InvalidDeed_init_ : PySem.W.codeIn K cd_InvalidDeed_init_ "InvalidDeed.__init__" = true)
    (k_InvalidDeed_init_ : PySem.W.keepIn K (.ref a_InvalidDeed_init_) = true)
    (xf_Stopped_init_ : PySem.W.typeIn K (.ref a_Stopped_init_) = some (.type "function"))
    (l_Stopped_init_ : K.lookup a_Stopped_init_ = some ⟨oc_Stopped_init_, od_Stopped_init_, .func (PySem.W.fnOf "__init__" "Stopped.__init__" (defArgs s_Stopped_init_) (defBody s_Stopped_init_) (defScope s_Stopped_init_) .none kV_Stopped_init_ dc_Stopped_init_ pm_Stopped_init_ an_Stopped_init_ cd_Stopped_init_ ct_Stopped_init_), sl_Stopped_init_⟩)
    (e_Stopped_init_ : PySem.W.codeIn K cd_Stopped_init_ "Stopped.__init__" = true)
    (k_Stopped_init_ : PySem.W.keepIn K (.ref a_Stopped_init_) = true)
    (xf_InvalidLine_init_ : PySem.W.typeIn K (.ref a_InvalidLine_init_) = some (.type "function"))
    (l_InvalidLine_init_ : K.lookup a_InvalidLine_init_ = some ⟨oc_InvalidLine_init_, od_InvalidLine_init_, .func (PySem.W.fnOf "__init__" "InvalidLine.__init__" (defArgs s_InvalidLine_init_) (defBody s_InvalidLine_init_) (defScope s_InvalidLine_init_) .none kV_InvalidLine_init_ dc_InvalidLine_init_ pm_InvalidLine_init_ an_InvalidLine_init_ cd_InvalidLine_init_ ct_InvalidLine_init_), sl_InvalidLine_init_⟩)
    (e_InvalidLine_init_ : PySem.W.codeIn K cd_InvalidLine_init_ "InvalidLine.__init__" = true)
    (k_InvalidLine_init_ : PySem.W.keepIn K (.ref a_InvalidLine_init_) = true)
    (a_is_integer' : PySem.W.nsIn K mainGlobals "is_integer" = some (some (.ref a_is_integer)))
    (l_is_integer : K.lookup a_is_integer = some ⟨oc_is_integer, od_is_integer, .func (PySem.W.fnOf "is_integer" "is_integer" (defArgs s_is_integer) (defBody s_is_integer) (defScope s_is_integer) .none kV_is_integer dc_is_integer pm_is_integer an_is_integer cd_is_integer ct_is_integer), sl_is_integer⟩)
    (e_is_integer : PySem.W.codeIn K cd_is_integer "is_integer" = true)
    (k_is_integer : PySem.W.keepIn K (.ref a_is_integer) = true)
    (a_is_between' : PySem.W.nsIn K mainGlobals "is_between" = some (some (.ref a_is_between)))
    (l_is_between : K.lookup a_is_between = some ⟨oc_is_between, od_is_between, .func (PySem.W.fnOf "is_between" "is_between" (defArgs s_is_between) (defBody s_is_between) (defScope s_is_between) .none kV_is_between dc_is_between pm_is_between an_is_between cd_is_between ct_is_between), sl_is_between⟩)
    (e_is_between : PySem.W.codeIn K cd_is_between "is_between" = true)
    (k_is_between : PySem.W.keepIn K (.ref a_is_between) = true)
    (a_Ring_init_' : PySem.W.findIn K (.ref c_Ring) "__init__" = some (some (.ref a_Ring_init_)))
    (i_Ring_init_ : PySem.W.isFn K (.ref a_Ring_init_) = true)
    (l_Ring_init_ : K.lookup a_Ring_init_ = some ⟨oc_Ring_init_, od_Ring_init_, .func (PySem.W.fnOf "__init__" "Ring.__init__" (defArgs s_Ring_init_) (defBody s_Ring_init_) (defScope s_Ring_init_) .none kV_Ring_init_ dc_Ring_init_ pm_Ring_init_ an_Ring_init_ cd_Ring_init_ ct_Ring_init_), sl_Ring_init_⟩)
    (e_Ring_init_ : PySem.W.codeIn K cd_Ring_init_ "Ring.__init__" = true)
    (k_Ring_init_ : PySem.W.keepIn K (.ref a_Ring_init_) = true)
    (a_Ring_of_bits' : PySem.W.findCls K (.ref c_Ring) (.type "type") "of_bits" = some (.get (.builtin "classmethod.__get__") (.ref p_Ring_of_bits) .none (.ref c_Ring)))
    (rc_Ring_of_bits : PySem.W.recIn K p_Ring_of_bits "classmethod" = some (.ref a_Ring_of_bits :: rs_Ring_of_bits))
    (fi_Ring_of_bits : PySem.W.fnIn K a_Ring_of_bits = true)
    (l_Ring_of_bits : K.lookup a_Ring_of_bits = some ⟨oc_Ring_of_bits, od_Ring_of_bits, .func (PySem.W.fnOf "of_bits" "Ring.of_bits" (defArgs s_Ring_of_bits) (defBody s_Ring_of_bits) (defScope s_Ring_of_bits) .none kV_Ring_of_bits dc_Ring_of_bits pm_Ring_of_bits an_Ring_of_bits cd_Ring_of_bits ct_Ring_of_bits), sl_Ring_of_bits⟩)
    (e_Ring_of_bits : PySem.W.codeIn K cd_Ring_of_bits "Ring.of_bits" = true)
    (k_Ring_of_bits : PySem.W.keepIn K (.ref a_Ring_of_bits) = true)
    (a_Ring_contains_' : PySem.W.findIn K (.ref c_Ring) "__contains__" = some (some (.ref a_Ring_contains_)))
    (i_Ring_contains_ : PySem.W.isFn K (.ref a_Ring_contains_) = true)
    (l_Ring_contains_ : K.lookup a_Ring_contains_ = some ⟨oc_Ring_contains_, od_Ring_contains_, .func (PySem.W.fnOf "__contains__" "Ring.__contains__" (defArgs s_Ring_contains_) (defBody s_Ring_contains_) (defScope s_Ring_contains_) .none kV_Ring_contains_ dc_Ring_contains_ pm_Ring_contains_ an_Ring_contains_ cd_Ring_contains_ ct_Ring_contains_), sl_Ring_contains_⟩)
    (e_Ring_contains_ : PySem.W.codeIn K cd_Ring_contains_ "Ring.__contains__" = true)
    (k_Ring_contains_ : PySem.W.keepIn K (.ref a_Ring_contains_) = true)
    (a_Ring_eq_' : PySem.W.findIn K (.ref c_Ring) "__eq__" = some (some (.ref a_Ring_eq_)))
    (i_Ring_eq_ : PySem.W.isFn K (.ref a_Ring_eq_) = true)
    (l_Ring_eq_ : K.lookup a_Ring_eq_ = some ⟨oc_Ring_eq_, od_Ring_eq_, .func (PySem.W.fnOf "__eq__" "Ring.__eq__" (defArgs s_Ring_eq_) (defBody s_Ring_eq_) (defScope s_Ring_eq_) .none kV_Ring_eq_ dc_Ring_eq_ pm_Ring_eq_ an_Ring_eq_ cd_Ring_eq_ ct_Ring_eq_), sl_Ring_eq_⟩)
    (e_Ring_eq_ : PySem.W.codeIn K cd_Ring_eq_ "Ring.__eq__" = true)
    (k_Ring_eq_ : PySem.W.keepIn K (.ref a_Ring_eq_) = true)
    (a_Ring_wrap' : PySem.W.findIn K (.ref c_Ring) "wrap" = some (some (.ref a_Ring_wrap)))
    (i_Ring_wrap : PySem.W.isFn K (.ref a_Ring_wrap) = true)
    (l_Ring_wrap : K.lookup a_Ring_wrap = some ⟨oc_Ring_wrap, od_Ring_wrap, .func (PySem.W.fnOf "wrap" "Ring.wrap" (defArgs s_Ring_wrap) (defBody s_Ring_wrap) (defScope s_Ring_wrap) .none kV_Ring_wrap dc_Ring_wrap pm_Ring_wrap an_Ring_wrap cd_Ring_wrap ct_Ring_wrap), sl_Ring_wrap⟩)
    (e_Ring_wrap : PySem.W.codeIn K cd_Ring_wrap "Ring.wrap" = true)
    (k_Ring_wrap : PySem.W.keepIn K (.ref a_Ring_wrap) = true)
    (a_Ring_unwrap' : PySem.W.findIn K (.ref c_Ring) "unwrap" = some (some (.ref a_Ring_unwrap)))
    (i_Ring_unwrap : PySem.W.isFn K (.ref a_Ring_unwrap) = true)
    (l_Ring_unwrap : K.lookup a_Ring_unwrap = some ⟨oc_Ring_unwrap, od_Ring_unwrap, .func (PySem.W.fnOf "unwrap" "Ring.unwrap" (defArgs s_Ring_unwrap) (defBody s_Ring_unwrap) (defScope s_Ring_unwrap) .none kV_Ring_unwrap dc_Ring_unwrap pm_Ring_unwrap an_Ring_unwrap cd_Ring_unwrap ct_Ring_unwrap), sl_Ring_unwrap⟩)
    (e_Ring_unwrap : PySem.W.codeIn K cd_Ring_unwrap "Ring.unwrap" = true)
    (k_Ring_unwrap : PySem.W.keepIn K (.ref a_Ring_unwrap) = true)
    (a_Ring_gap' : PySem.W.findIn K (.ref c_Ring) "gap" = some (some (.ref a_Ring_gap)))
    (i_Ring_gap : PySem.W.isFn K (.ref a_Ring_gap) = true)
    (l_Ring_gap : K.lookup a_Ring_gap = some ⟨oc_Ring_gap, od_Ring_gap, .func (PySem.W.fnOf "gap" "Ring.gap" (defArgs s_Ring_gap) (defBody s_Ring_gap) (defScope s_Ring_gap) .none kV_Ring_gap dc_Ring_gap pm_Ring_gap an_Ring_gap cd_Ring_gap ct_Ring_gap), sl_Ring_gap⟩)
    (e_Ring_gap : PySem.W.codeIn K cd_Ring_gap "Ring.gap" = true)
    (k_Ring_gap : PySem.W.keepIn K (.ref a_Ring_gap) = true)
    (a_Ring_before' : PySem.W.findIn K (.ref c_Ring) "before" = some (some (.ref a_Ring_before)))
    (i_Ring_before : PySem.W.isFn K (.ref a_Ring_before) = true)
    (l_Ring_before : K.lookup a_Ring_before = some ⟨oc_Ring_before, od_Ring_before, .func (PySem.W.fnOf "before" "Ring.before" (defArgs s_Ring_before) (defBody s_Ring_before) (defScope s_Ring_before) .none kV_Ring_before dc_Ring_before pm_Ring_before an_Ring_before cd_Ring_before ct_Ring_before), sl_Ring_before⟩)
    (e_Ring_before : PySem.W.codeIn K cd_Ring_before "Ring.before" = true)
    (k_Ring_before : PySem.W.keepIn K (.ref a_Ring_before) = true)
    (a_Ring_within' : PySem.W.findIn K (.ref c_Ring) "within" = some (some (.ref a_Ring_within)))
    (i_Ring_within : PySem.W.isFn K (.ref a_Ring_within) = true)
    (l_Ring_within : K.lookup a_Ring_within = some ⟨oc_Ring_within, od_Ring_within, .func (PySem.W.fnOf "within" "Ring.within" (defArgs s_Ring_within) (defBody s_Ring_within) (defScope s_Ring_within) .none kV_Ring_within dc_Ring_within pm_Ring_within an_Ring_within cd_Ring_within ct_Ring_within), sl_Ring_within⟩)
    (e_Ring_within : PySem.W.codeIn K cd_Ring_within "Ring.within" = true)
    (k_Ring_within : PySem.W.keepIn K (.ref a_Ring_within) = true)
    (a_Ring_require' : PySem.W.findIn K (.ref c_Ring) "_require" = some (some (.ref a_Ring_require)))
    (i_Ring_require : PySem.W.isFn K (.ref a_Ring_require) = true)
    (l_Ring_require : K.lookup a_Ring_require = some ⟨oc_Ring_require, od_Ring_require, .func (PySem.W.fnOf "_require" "Ring._require" (defArgs s_Ring_require) (defBody s_Ring_require) (defScope s_Ring_require) .none kV_Ring_require dc_Ring_require pm_Ring_require an_Ring_require cd_Ring_require ct_Ring_require), sl_Ring_require⟩)
    (e_Ring_require : PySem.W.codeIn K cd_Ring_require "Ring._require" = true)
    (k_Ring_require : PySem.W.keepIn K (.ref a_Ring_require) = true)
    (a_is_size' : PySem.W.nsIn K mainGlobals "is_size" = some (some (.ref a_is_size)))
    (l_is_size : K.lookup a_is_size = some ⟨oc_is_size, od_is_size, .func (PySem.W.fnOf "is_size" "is_size" (defArgs s_is_size) (defBody s_is_size) (defScope s_is_size) .none kV_is_size dc_is_size pm_is_size an_is_size cd_is_size ct_is_size), sl_is_size⟩)
    (e_is_size : PySem.W.codeIn K cd_is_size "is_size" = true)
    (k_is_size : PySem.W.keepIn K (.ref a_is_size) = true)
    (a__law_purse' : PySem.W.nsIn K mainGlobals "_law_purse" = some (some (.ref a__law_purse)))
    (l__law_purse : K.lookup a__law_purse = some ⟨oc__law_purse, od__law_purse, .func (PySem.W.fnOf "_law_purse" "_law_purse" (defArgs s__law_purse) (defBody s__law_purse) (defScope s__law_purse) .none kV__law_purse dc__law_purse pm__law_purse an__law_purse cd__law_purse ct__law_purse), sl__law_purse⟩)
    (e__law_purse : PySem.W.codeIn K cd__law_purse "_law_purse" = true)
    (k__law_purse : PySem.W.keepIn K (.ref a__law_purse) = true)
    (a__law_draw' : PySem.W.nsIn K mainGlobals "_law_draw" = some (some (.ref a__law_draw)))
    (l__law_draw : K.lookup a__law_draw = some ⟨oc__law_draw, od__law_draw, .func (PySem.W.fnOf "_law_draw" "_law_draw" (defArgs s__law_draw) (defBody s__law_draw) (defScope s__law_draw) .none kV__law_draw dc__law_draw pm__law_draw an__law_draw cd__law_draw ct__law_draw), sl__law_draw⟩)
    (e__law_draw : PySem.W.codeIn K cd__law_draw "_law_draw" = true)
    (k__law_draw : PySem.W.keepIn K (.ref a__law_draw) = true)
    (a__law_number' : PySem.W.nsIn K mainGlobals "_law_number" = some (some (.ref a__law_number)))
    (l__law_number : K.lookup a__law_number = some ⟨oc__law_number, od__law_number, .func (PySem.W.fnOf "_law_number" "_law_number" (defArgs s__law_number) (defBody s__law_number) (defScope s__law_number) .none kV__law_number dc__law_number pm__law_number an__law_number cd__law_number ct__law_number), sl__law_number⟩)
    (e__law_number : PySem.W.codeIn K cd__law_number "_law_number" = true)
    (k__law_number : PySem.W.keepIn K (.ref a__law_number) = true)
    (a__law_is' : PySem.W.nsIn K mainGlobals "_law_is" = some (some (.ref a__law_is)))
    (l__law_is : K.lookup a__law_is = some ⟨oc__law_is, od__law_is, .func (PySem.W.fnOf "_law_is" "_law_is" (defArgs s__law_is) (defBody s__law_is) (defScope s__law_is) .none kV__law_is dc__law_is pm__law_is an__law_is cd__law_is ct__law_is), sl__law_is⟩)
    (e__law_is : PySem.W.codeIn K cd__law_is "_law_is" = true)
    (k__law_is : PySem.W.keepIn K (.ref a__law_is) = true)
    (a__law_truth' : PySem.W.nsIn K mainGlobals "_law_truth" = some (some (.ref a__law_truth)))
    (l__law_truth : K.lookup a__law_truth = some ⟨oc__law_truth, od__law_truth, .func (PySem.W.fnOf "_law_truth" "_law_truth" (defArgs s__law_truth) (defBody s__law_truth) (defScope s__law_truth) .none kV__law_truth dc__law_truth pm__law_truth an__law_truth cd__law_truth ct__law_truth), sl__law_truth⟩)
    (e__law_truth : PySem.W.codeIn K cd__law_truth "_law_truth" = true)
    (k__law_truth : PySem.W.keepIn K (.ref a__law_truth) = true)
    (a__law_width' : PySem.W.nsIn K mainGlobals "_law_width" = some (some (.ref a__law_width)))
    (l__law_width : K.lookup a__law_width = some ⟨oc__law_width, od__law_width, .func (PySem.W.fnOf "_law_width" "_law_width" (defArgs s__law_width) (defBody s__law_width) (defScope s__law_width) .none kV__law_width dc__law_width pm__law_width an__law_width cd__law_width ct__law_width), sl__law_width⟩)
    (e__law_width : PySem.W.codeIn K cd__law_width "_law_width" = true)
    (k__law_width : PySem.W.keepIn K (.ref a__law_width) = true)
    (a__law_error' : PySem.W.nsIn K mainGlobals "_law_error" = some (some (.ref a__law_error)))
    (l__law_error : K.lookup a__law_error = some ⟨oc__law_error, od__law_error, .func (PySem.W.fnOf "_law_error" "_law_error" (defArgs s__law_error) (defBody s__law_error) (defScope s__law_error) .none kV__law_error dc__law_error pm__law_error an__law_error cd__law_error ct__law_error), sl__law_error⟩)
    (e__law_error : PySem.W.codeIn K cd__law_error "_law_error" = true)
    (k__law_error : PySem.W.keepIn K (.ref a__law_error) = true)
    (a__law_classes' : PySem.W.nsIn K mainGlobals "_law_classes" = some (some (.ref a__law_classes)))
    (l__law_classes : K.lookup a__law_classes = some ⟨oc__law_classes, od__law_classes, .func (PySem.W.fnOf "_law_classes" "_law_classes" (defArgs s__law_classes) (defBody s__law_classes) (defScope s__law_classes) .none kV__law_classes dc__law_classes pm__law_classes an__law_classes cd__law_classes ct__law_classes), sl__law_classes⟩)
    (e__law_classes : PySem.W.codeIn K cd__law_classes "_law_classes" = true)
    (k__law_classes : PySem.W.keepIn K (.ref a__law_classes) = true)
    (a__law_numbers' : PySem.W.nsIn K mainGlobals "_law_numbers" = some (some (.ref a__law_numbers)))
    (l__law_numbers : K.lookup a__law_numbers = some ⟨oc__law_numbers, od__law_numbers, .func (PySem.W.fnOf "_law_numbers" "_law_numbers" (defArgs s__law_numbers) (defBody s__law_numbers) (defScope s__law_numbers) .none kV__law_numbers dc__law_numbers pm__law_numbers an__law_numbers cd__law_numbers ct__law_numbers), sl__law_numbers⟩)
    (e__law_numbers : PySem.W.codeIn K cd__law_numbers "_law_numbers" = true)
    (k__law_numbers : PySem.W.keepIn K (.ref a__law_numbers) = true)
    (a__law_string' : PySem.W.nsIn K mainGlobals "_law_string" = some (some (.ref a__law_string)))
    (l__law_string : K.lookup a__law_string = some ⟨oc__law_string, od__law_string, .func (PySem.W.fnOf "_law_string" "_law_string" (defArgs s__law_string) (defBody s__law_string) (defScope s__law_string) .none kV__law_string dc__law_string pm__law_string an__law_string cd__law_string ct__law_string), sl__law_string⟩)
    (e__law_string : PySem.W.codeIn K cd__law_string "_law_string" = true)
    (k__law_string : PySem.W.keepIn K (.ref a__law_string) = true)
    (a__law_keeps' : PySem.W.nsIn K mainGlobals "_law_keeps" = some (some (.ref a__law_keeps)))
    (l__law_keeps : K.lookup a__law_keeps = some ⟨oc__law_keeps, od__law_keeps, .func (PySem.W.fnOf "_law_keeps" "_law_keeps" (defArgs s__law_keeps) (defBody s__law_keeps) (defScope s__law_keeps) .none kV__law_keeps dc__law_keeps pm__law_keeps an__law_keeps cd__law_keeps ct__law_keeps), sl__law_keeps⟩)
    (e__law_keeps : PySem.W.codeIn K cd__law_keeps "_law_keeps" = true)
    (k__law_keeps : PySem.W.keepIn K (.ref a__law_keeps) = true)
    (a__law_errors' : PySem.W.nsIn K mainGlobals "_law_errors" = some (some (.ref a__law_errors)))
    (l__law_errors : K.lookup a__law_errors = some ⟨oc__law_errors, od__law_errors, .func (PySem.W.fnOf "_law_errors" "_law_errors" (defArgs s__law_errors) (defBody s__law_errors) (defScope s__law_errors) .none kV__law_errors dc__law_errors pm__law_errors an__law_errors cd__law_errors ct__law_errors), sl__law_errors⟩)
    (e__law_errors : PySem.W.codeIn K cd__law_errors "_law_errors" = true)
    (k__law_errors : PySem.W.keepIn K (.ref a__law_errors) = true)
    (a__law_kind' : PySem.W.nsIn K mainGlobals "_law_kind" = some (some (.ref a__law_kind)))
    (l__law_kind : K.lookup a__law_kind = some ⟨oc__law_kind, od__law_kind, .func (PySem.W.fnOf "_law_kind" "_law_kind" (defArgs s__law_kind) (defBody s__law_kind) (defScope s__law_kind) .none kV__law_kind dc__law_kind pm__law_kind an__law_kind cd__law_kind ct__law_kind), sl__law_kind⟩)
    (e__law_kind : PySem.W.codeIn K cd__law_kind "_law_kind" = true)
    (k__law_kind : PySem.W.keepIn K (.ref a__law_kind) = true)
    (a__law_is_size' : PySem.W.nsIn K mainGlobals "_law_is_size" = some (some (.ref a__law_is_size)))
    (l__law_is_size : K.lookup a__law_is_size = some ⟨oc__law_is_size, od__law_is_size, .func (PySem.W.fnOf "_law_is_size" "_law_is_size" (defArgs s__law_is_size) (defBody s__law_is_size) (defScope s__law_is_size) .none kV__law_is_size dc__law_is_size pm__law_is_size an__law_is_size cd__law_is_size ct__law_is_size), sl__law_is_size⟩)
    (e__law_is_size : PySem.W.codeIn K cd__law_is_size "_law_is_size" = true)
    (k__law_is_size : PySem.W.keepIn K (.ref a__law_is_size) = true)
    (a__law_sized' : PySem.W.nsIn K mainGlobals "_law_sized" = some (some (.ref a__law_sized)))
    (l__law_sized : K.lookup a__law_sized = some ⟨oc__law_sized, od__law_sized, .func (PySem.W.fnOf "_law_sized" "_law_sized" (defArgs s__law_sized) (defBody s__law_sized) (defScope s__law_sized) .none kV__law_sized dc__law_sized pm__law_sized an__law_sized cd__law_sized ct__law_sized), sl__law_sized⟩)
    (e__law_sized : PySem.W.codeIn K cd__law_sized "_law_sized" = true)
    (k__law_sized : PySem.W.keepIn K (.ref a__law_sized) = true)
    (a__law_bitten' : PySem.W.nsIn K mainGlobals "_law_bitten" = some (some (.ref a__law_bitten)))
    (l__law_bitten : K.lookup a__law_bitten = some ⟨oc__law_bitten, od__law_bitten, .func (PySem.W.fnOf "_law_bitten" "_law_bitten" (defArgs s__law_bitten) (defBody s__law_bitten) (defScope s__law_bitten) .none kV__law_bitten dc__law_bitten pm__law_bitten an__law_bitten cd__law_bitten ct__law_bitten), sl__law_bitten⟩)
    (e__law_bitten : PySem.W.codeIn K cd__law_bitten "_law_bitten" = true)
    (k__law_bitten : PySem.W.keepIn K (.ref a__law_bitten) = true)
    (a__law_sizes' : PySem.W.nsIn K mainGlobals "_law_sizes" = some (some (.ref a__law_sizes)))
    (l__law_sizes : K.lookup a__law_sizes = some ⟨oc__law_sizes, od__law_sizes, .func (PySem.W.fnOf "_law_sizes" "_law_sizes" (defArgs s__law_sizes) (defBody s__law_sizes) (defScope s__law_sizes) .none kV__law_sizes dc__law_sizes pm__law_sizes an__law_sizes cd__law_sizes ct__law_sizes), sl__law_sizes⟩)
    (e__law_sizes : PySem.W.codeIn K cd__law_sizes "_law_sizes" = true)
    (k__law_sizes : PySem.W.keepIn K (.ref a__law_sizes) = true)
    (a__law_odd' : PySem.W.nsIn K mainGlobals "_law_odd" = some (some (.ref a__law_odd)))
    (l__law_odd : K.lookup a__law_odd = some ⟨oc__law_odd, od__law_odd, .func (PySem.W.fnOf "_law_odd" "_law_odd" (defArgs s__law_odd) (defBody s__law_odd) (defScope s__law_odd) .none kV__law_odd dc__law_odd pm__law_odd an__law_odd cd__law_odd ct__law_odd), sl__law_odd⟩)
    (e__law_odd : PySem.W.codeIn K cd__law_odd "_law_odd" = true)
    (k__law_odd : PySem.W.keepIn K (.ref a__law_odd) = true)
    (a__law_answer' : PySem.W.nsIn K mainGlobals "_law_answer" = some (some (.ref a__law_answer)))
    (l__law_answer : K.lookup a__law_answer = some ⟨oc__law_answer, od__law_answer, .func (PySem.W.fnOf "_law_answer" "_law_answer" (defArgs s__law_answer) (defBody s__law_answer) (defScope s__law_answer) .none kV__law_answer dc__law_answer pm__law_answer an__law_answer cd__law_answer ct__law_answer), sl__law_answer⟩)
    (e__law_answer : PySem.W.codeIn K cd__law_answer "_law_answer" = true)
    (k__law_answer : PySem.W.keepIn K (.ref a__law_answer) = true)
    (a__law_wanted' : PySem.W.nsIn K mainGlobals "_law_wanted" = some (some (.ref a__law_wanted)))
    (l__law_wanted : K.lookup a__law_wanted = some ⟨oc__law_wanted, od__law_wanted, .func (PySem.W.fnOf "_law_wanted" "_law_wanted" (defArgs s__law_wanted) (defBody s__law_wanted) (defScope s__law_wanted) .none kV__law_wanted dc__law_wanted pm__law_wanted an__law_wanted cd__law_wanted ct__law_wanted), sl__law_wanted⟩)
    (e__law_wanted : PySem.W.codeIn K cd__law_wanted "_law_wanted" = true)
    (k__law_wanted : PySem.W.keepIn K (.ref a__law_wanted) = true)
    (a__law_call' : PySem.W.nsIn K mainGlobals "_law_call" = some (some (.ref a__law_call)))
    (l__law_call : K.lookup a__law_call = some ⟨oc__law_call, od__law_call, .func (PySem.W.fnOf "_law_call" "_law_call" (defArgs s__law_call) (defBody s__law_call) (defScope s__law_call) .none kV__law_call dc__law_call pm__law_call an__law_call cd__law_call ct__law_call), sl__law_call⟩)
    (e__law_call : PySem.W.codeIn K cd__law_call "_law_call" = true)
    (k__law_call : PySem.W.keepIn K (.ref a__law_call) = true)
    (a__law_equals' : PySem.W.nsIn K mainGlobals "_law_equals" = some (some (.ref a__law_equals)))
    (l__law_equals : K.lookup a__law_equals = some ⟨oc__law_equals, od__law_equals, .func (PySem.W.fnOf "_law_equals" "_law_equals" (defArgs s__law_equals) (defBody s__law_equals) (defScope s__law_equals) .none kV__law_equals dc__law_equals pm__law_equals an__law_equals cd__law_equals ct__law_equals), sl__law_equals⟩)
    (e__law_equals : PySem.W.codeIn K cd__law_equals "_law_equals" = true)
    (k__law_equals : PySem.W.keepIn K (.ref a__law_equals) = true)
    (a_law' : PySem.W.nsIn K mainGlobals "law" = some (some (.ref a_law)))
    (l_law : K.lookup a_law = some ⟨oc_law, od_law, .func (PySem.W.fnOf "law" "law" (defArgs s_law) (defBody s_law) (defScope s_law) .none kV_law dc_law pm_law an_law cd_law ct_law), sl_law⟩)
    (e_law : PySem.W.codeIn K cd_law "law" = true)
    (k_law : PySem.W.keepIn K (.ref a_law) = true)
    (KR_InvalidNumber : KRow K (.ref c_InvalidNumber) [(.ref c_InvalidNumber, true), (.ref c_InvalidSetting, false), (.ref c_InvalidSegment, false), (.ref c_InvalidWords, false), (.ref c_NotAllowed, false), (.ref c_Broken, false), (.ref c_NoConnection, false), (.ref c_NoListener, false), (.ref c_PortTaken, false), (.ref c_StationDown, false), (.ref c_TooMany, false), (.ref c_InvalidFate, false), (.ref c_InvalidTrace, false), (.ref c_InvalidDeed, false), (.ref c_NothingLeft, false), (.ref c_Stopped, false), (.ref c_InvalidLine, false), (.ref c_WrongSum, false), (.ref c_LossError, true), (.type "ValueError", true)])
    (KR_InvalidSetting : KRow K (.ref c_InvalidSetting) [(.ref c_InvalidNumber, false), (.ref c_InvalidSetting, true), (.ref c_InvalidSegment, false), (.ref c_InvalidWords, false), (.ref c_NotAllowed, false), (.ref c_Broken, false), (.ref c_NoConnection, false), (.ref c_NoListener, false), (.ref c_PortTaken, false), (.ref c_StationDown, false), (.ref c_TooMany, false), (.ref c_InvalidFate, false), (.ref c_InvalidTrace, false), (.ref c_InvalidDeed, false), (.ref c_NothingLeft, false), (.ref c_Stopped, false), (.ref c_InvalidLine, false), (.ref c_WrongSum, false), (.ref c_LossError, true), (.type "ValueError", true)])
    (KR_InvalidSegment : KRow K (.ref c_InvalidSegment) [(.ref c_InvalidNumber, false), (.ref c_InvalidSetting, false), (.ref c_InvalidSegment, true), (.ref c_InvalidWords, false), (.ref c_NotAllowed, false), (.ref c_Broken, false), (.ref c_NoConnection, false), (.ref c_NoListener, false), (.ref c_PortTaken, false), (.ref c_StationDown, false), (.ref c_TooMany, false), (.ref c_InvalidFate, false), (.ref c_InvalidTrace, false), (.ref c_InvalidDeed, false), (.ref c_NothingLeft, false), (.ref c_Stopped, false), (.ref c_InvalidLine, false), (.ref c_WrongSum, false), (.ref c_LossError, true), (.type "ValueError", true)])
    (KR_InvalidWords : KRow K (.ref c_InvalidWords) [(.ref c_InvalidNumber, false), (.ref c_InvalidSetting, false), (.ref c_InvalidSegment, false), (.ref c_InvalidWords, true), (.ref c_NotAllowed, false), (.ref c_Broken, false), (.ref c_NoConnection, false), (.ref c_NoListener, false), (.ref c_PortTaken, false), (.ref c_StationDown, false), (.ref c_TooMany, false), (.ref c_InvalidFate, false), (.ref c_InvalidTrace, false), (.ref c_InvalidDeed, false), (.ref c_NothingLeft, false), (.ref c_Stopped, false), (.ref c_InvalidLine, false), (.ref c_WrongSum, false), (.ref c_LossError, true), (.type "ValueError", true)])
    (KR_NotAllowed : KRow K (.ref c_NotAllowed) [(.ref c_InvalidNumber, false), (.ref c_InvalidSetting, false), (.ref c_InvalidSegment, false), (.ref c_InvalidWords, false), (.ref c_NotAllowed, true), (.ref c_Broken, false), (.ref c_NoConnection, false), (.ref c_NoListener, false), (.ref c_PortTaken, false), (.ref c_StationDown, false), (.ref c_TooMany, false), (.ref c_InvalidFate, false), (.ref c_InvalidTrace, false), (.ref c_InvalidDeed, false), (.ref c_NothingLeft, false), (.ref c_Stopped, false), (.ref c_InvalidLine, false), (.ref c_WrongSum, false), (.ref c_LossError, true), (.type "ValueError", true)])
    (KR_Broken : KRow K (.ref c_Broken) [(.ref c_InvalidNumber, false), (.ref c_InvalidSetting, false), (.ref c_InvalidSegment, false), (.ref c_InvalidWords, false), (.ref c_NotAllowed, false), (.ref c_Broken, true), (.ref c_NoConnection, false), (.ref c_NoListener, false), (.ref c_PortTaken, false), (.ref c_StationDown, false), (.ref c_TooMany, false), (.ref c_InvalidFate, false), (.ref c_InvalidTrace, false), (.ref c_InvalidDeed, false), (.ref c_NothingLeft, false), (.ref c_Stopped, false), (.ref c_InvalidLine, false), (.ref c_WrongSum, false), (.ref c_LossError, true), (.type "ValueError", true)])
    (KR_NoConnection : KRow K (.ref c_NoConnection) [(.ref c_InvalidNumber, false), (.ref c_InvalidSetting, false), (.ref c_InvalidSegment, false), (.ref c_InvalidWords, false), (.ref c_NotAllowed, false), (.ref c_Broken, false), (.ref c_NoConnection, true), (.ref c_NoListener, false), (.ref c_PortTaken, false), (.ref c_StationDown, false), (.ref c_TooMany, false), (.ref c_InvalidFate, false), (.ref c_InvalidTrace, false), (.ref c_InvalidDeed, false), (.ref c_NothingLeft, false), (.ref c_Stopped, false), (.ref c_InvalidLine, false), (.ref c_WrongSum, false), (.ref c_LossError, true), (.type "ValueError", true)])
    (KR_NoListener : KRow K (.ref c_NoListener) [(.ref c_InvalidNumber, false), (.ref c_InvalidSetting, false), (.ref c_InvalidSegment, false), (.ref c_InvalidWords, false), (.ref c_NotAllowed, false), (.ref c_Broken, false), (.ref c_NoConnection, false), (.ref c_NoListener, true), (.ref c_PortTaken, false), (.ref c_StationDown, false), (.ref c_TooMany, false), (.ref c_InvalidFate, false), (.ref c_InvalidTrace, false), (.ref c_InvalidDeed, false), (.ref c_NothingLeft, false), (.ref c_Stopped, false), (.ref c_InvalidLine, false), (.ref c_WrongSum, false), (.ref c_LossError, true), (.type "ValueError", true)])
    (KR_PortTaken : KRow K (.ref c_PortTaken) [(.ref c_InvalidNumber, false), (.ref c_InvalidSetting, false), (.ref c_InvalidSegment, false), (.ref c_InvalidWords, false), (.ref c_NotAllowed, false), (.ref c_Broken, false), (.ref c_NoConnection, false), (.ref c_NoListener, false), (.ref c_PortTaken, true), (.ref c_StationDown, false), (.ref c_TooMany, false), (.ref c_InvalidFate, false), (.ref c_InvalidTrace, false), (.ref c_InvalidDeed, false), (.ref c_NothingLeft, false), (.ref c_Stopped, false), (.ref c_InvalidLine, false), (.ref c_WrongSum, false), (.ref c_LossError, true), (.type "ValueError", true)])
    (KR_StationDown : KRow K (.ref c_StationDown) [(.ref c_InvalidNumber, false), (.ref c_InvalidSetting, false), (.ref c_InvalidSegment, false), (.ref c_InvalidWords, false), (.ref c_NotAllowed, false), (.ref c_Broken, false), (.ref c_NoConnection, false), (.ref c_NoListener, false), (.ref c_PortTaken, false), (.ref c_StationDown, true), (.ref c_TooMany, false), (.ref c_InvalidFate, false), (.ref c_InvalidTrace, false), (.ref c_InvalidDeed, false), (.ref c_NothingLeft, false), (.ref c_Stopped, false), (.ref c_InvalidLine, false), (.ref c_WrongSum, false), (.ref c_LossError, true), (.type "ValueError", true)])
    (KR_TooMany : KRow K (.ref c_TooMany) [(.ref c_InvalidNumber, false), (.ref c_InvalidSetting, false), (.ref c_InvalidSegment, false), (.ref c_InvalidWords, false), (.ref c_NotAllowed, false), (.ref c_Broken, false), (.ref c_NoConnection, false), (.ref c_NoListener, false), (.ref c_PortTaken, false), (.ref c_StationDown, false), (.ref c_TooMany, true), (.ref c_InvalidFate, false), (.ref c_InvalidTrace, false), (.ref c_InvalidDeed, false), (.ref c_NothingLeft, false), (.ref c_Stopped, false), (.ref c_InvalidLine, false), (.ref c_WrongSum, false), (.ref c_LossError, true), (.type "ValueError", true)])
    (KR_InvalidFate : KRow K (.ref c_InvalidFate) [(.ref c_InvalidNumber, false), (.ref c_InvalidSetting, false), (.ref c_InvalidSegment, false), (.ref c_InvalidWords, false), (.ref c_NotAllowed, false), (.ref c_Broken, false), (.ref c_NoConnection, false), (.ref c_NoListener, false), (.ref c_PortTaken, false), (.ref c_StationDown, false), (.ref c_TooMany, false), (.ref c_InvalidFate, true), (.ref c_InvalidTrace, false), (.ref c_InvalidDeed, false), (.ref c_NothingLeft, false), (.ref c_Stopped, false), (.ref c_InvalidLine, false), (.ref c_WrongSum, false), (.ref c_LossError, true), (.type "ValueError", true)])
    (KR_InvalidTrace : KRow K (.ref c_InvalidTrace) [(.ref c_InvalidNumber, false), (.ref c_InvalidSetting, false), (.ref c_InvalidSegment, false), (.ref c_InvalidWords, false), (.ref c_NotAllowed, false), (.ref c_Broken, false), (.ref c_NoConnection, false), (.ref c_NoListener, false), (.ref c_PortTaken, false), (.ref c_StationDown, false), (.ref c_TooMany, false), (.ref c_InvalidFate, false), (.ref c_InvalidTrace, true), (.ref c_InvalidDeed, false), (.ref c_NothingLeft, false), (.ref c_Stopped, false), (.ref c_InvalidLine, false), (.ref c_WrongSum, false), (.ref c_LossError, true), (.type "ValueError", true)])
    (KR_InvalidDeed : KRow K (.ref c_InvalidDeed) [(.ref c_InvalidNumber, false), (.ref c_InvalidSetting, false), (.ref c_InvalidSegment, false), (.ref c_InvalidWords, false), (.ref c_NotAllowed, false), (.ref c_Broken, false), (.ref c_NoConnection, false), (.ref c_NoListener, false), (.ref c_PortTaken, false), (.ref c_StationDown, false), (.ref c_TooMany, false), (.ref c_InvalidFate, false), (.ref c_InvalidTrace, false), (.ref c_InvalidDeed, true), (.ref c_NothingLeft, false), (.ref c_Stopped, false), (.ref c_InvalidLine, false), (.ref c_WrongSum, false), (.ref c_LossError, true), (.type "ValueError", true)])
    (KR_NothingLeft : KRow K (.ref c_NothingLeft) [(.ref c_InvalidNumber, false), (.ref c_InvalidSetting, false), (.ref c_InvalidSegment, false), (.ref c_InvalidWords, false), (.ref c_NotAllowed, false), (.ref c_Broken, false), (.ref c_NoConnection, false), (.ref c_NoListener, false), (.ref c_PortTaken, false), (.ref c_StationDown, false), (.ref c_TooMany, false), (.ref c_InvalidFate, false), (.ref c_InvalidTrace, false), (.ref c_InvalidDeed, false), (.ref c_NothingLeft, true), (.ref c_Stopped, false), (.ref c_InvalidLine, false), (.ref c_WrongSum, false), (.ref c_LossError, true), (.type "ValueError", true)])
    (KR_Stopped : KRow K (.ref c_Stopped) [(.ref c_InvalidNumber, false), (.ref c_InvalidSetting, false), (.ref c_InvalidSegment, false), (.ref c_InvalidWords, false), (.ref c_NotAllowed, false), (.ref c_Broken, false), (.ref c_NoConnection, false), (.ref c_NoListener, false), (.ref c_PortTaken, false), (.ref c_StationDown, false), (.ref c_TooMany, false), (.ref c_InvalidFate, false), (.ref c_InvalidTrace, false), (.ref c_InvalidDeed, false), (.ref c_NothingLeft, false), (.ref c_Stopped, true), (.ref c_InvalidLine, false), (.ref c_WrongSum, false), (.ref c_LossError, true), (.type "ValueError", true)])
    (KR_InvalidLine : KRow K (.ref c_InvalidLine) [(.ref c_InvalidNumber, false), (.ref c_InvalidSetting, false), (.ref c_InvalidSegment, false), (.ref c_InvalidWords, false), (.ref c_NotAllowed, false), (.ref c_Broken, false), (.ref c_NoConnection, false), (.ref c_NoListener, false), (.ref c_PortTaken, false), (.ref c_StationDown, false), (.ref c_TooMany, false), (.ref c_InvalidFate, false), (.ref c_InvalidTrace, false), (.ref c_InvalidDeed, false), (.ref c_NothingLeft, false), (.ref c_Stopped, false), (.ref c_InvalidLine, true), (.ref c_WrongSum, false), (.ref c_LossError, true), (.type "ValueError", true)])
    (KR_WrongSum : KRow K (.ref c_WrongSum) [(.ref c_InvalidNumber, false), (.ref c_InvalidSetting, false), (.ref c_InvalidSegment, false), (.ref c_InvalidWords, true), (.ref c_NotAllowed, false), (.ref c_Broken, false), (.ref c_NoConnection, false), (.ref c_NoListener, false), (.ref c_PortTaken, false), (.ref c_StationDown, false), (.ref c_TooMany, false), (.ref c_InvalidFate, false), (.ref c_InvalidTrace, false), (.ref c_InvalidDeed, false), (.ref c_NothingLeft, false), (.ref c_Stopped, false), (.ref c_InvalidLine, false), (.ref c_WrongSum, true), (.ref c_LossError, true), (.type "ValueError", true)])
    (KR_NoneType : KRow K (.type "NoneType") [(.ref c_Ring, false)])
    (KR_bool : KRow K (.type "bool") [(.ref c_Ring, false)])
    (KR_int : KRow K (.type "int") [(.ref c_Ring, false)])
    (KR_str : KRow K (.type "str") [(.ref c_Ring, false)])
    (KR_tuple : KRow K (.type "tuple") [(.ref c_Ring, false)])
    (KR_list : KRow K (.type "list") [(.ref c_Ring, false)])
    (KR_dict : KRow K (.type "dict") [(.ref c_Ring, false)])
    (KR_Ring : KRow K (.ref c_Ring) [(.ref c_Ring, true)])
    (sub_NoneType : PySem.W.subIn K (.type "NoneType") (.ref c_Ring) = some false)
    (sub_bool : PySem.W.subIn K (.type "bool") (.ref c_Ring) = some false)
    (sub_int : PySem.W.subIn K (.type "int") (.ref c_Ring) = some false)
    (sub_str : PySem.W.subIn K (.type "str") (.ref c_Ring) = some false)
    (sub_tuple : PySem.W.subIn K (.type "tuple") (.ref c_Ring) = some false)
    (sub_list : PySem.W.subIn K (.type "list") (.ref c_Ring) = some false)
    (sub_dict : PySem.W.subIn K (.type "dict") (.ref c_Ring) = some false)
    (ri_class : PySem.W.findIn K (.ref c_Ring) "__class__" = some (some (.builtin "object.__class__")))
    (ri_mro : PySem.W.mroIn K c_Ring (.type "object") = some true)
    (ri_get : PySem.W.specialIn K (.builtin "object.__class__") "__get__" = some (some (.builtin "getset_descriptor.__get__")))
    (ri_tk : PySem.W.takesIn K (.builtin "object.__class__") = some true)
    (z_ValueError : PySem.W.nsIn K mainGlobals "ValueError" = some none)
    (z_bool : PySem.W.nsIn K mainGlobals "bool" = some none)
    (z_classmethod : PySem.W.nsIn K mainGlobals "classmethod" = some none)
    (z_int : PySem.W.nsIn K mainGlobals "int" = some none)
    (z_isinstance : PySem.W.nsIn K mainGlobals "isinstance" = some none)
    (z_len : PySem.W.nsIn K mainGlobals "len" = some none)
    (z_max : PySem.W.nsIn K mainGlobals "max" = some none)
    (z_min : PySem.W.nsIn K mainGlobals "min" = some none)
    (z_range : PySem.W.nsIn K mainGlobals "range" = some none)
    (z_repr : PySem.W.nsIn K mainGlobals "repr" = some none)
    (z_str : PySem.W.nsIn K mainGlobals "str" = some none)
    (z_tuple : PySem.W.nsIn K mainGlobals "tuple" = some none)
    (xm'_InvalidNumber : PySem.HandSPX.refsVE xm_InvalidNumber = true)
    (xm'_InvalidSetting : PySem.HandSPX.refsVE xm_InvalidSetting = true)
    (xm'_InvalidSegment : PySem.HandSPX.refsVE xm_InvalidSegment = true)
    (xm'_InvalidWords : PySem.HandSPX.refsVE xm_InvalidWords = true)
    (xm'_NotAllowed : PySem.HandSPX.refsVE xm_NotAllowed = true)
    (xm'_Broken : PySem.HandSPX.refsVE xm_Broken = true)
    (xm'_NoConnection : PySem.HandSPX.refsVE xm_NoConnection = true)
    (xm'_NoListener : PySem.HandSPX.refsVE xm_NoListener = true)
    (xm'_PortTaken : PySem.HandSPX.refsVE xm_PortTaken = true)
    (xm'_TooMany : PySem.HandSPX.refsVE xm_TooMany = true)
    (xm'_InvalidFate : PySem.HandSPX.refsVE xm_InvalidFate = true)
    (xm'_InvalidTrace : PySem.HandSPX.refsVE xm_InvalidTrace = true)
    (xm'_InvalidDeed : PySem.HandSPX.refsVE xm_InvalidDeed = true)
    (xm'_Stopped : PySem.HandSPX.refsVE xm_Stopped = true)
    (xm'_InvalidLine : PySem.HandSPX.refsVE xm_InvalidLine = true)
    (xm'_WrongSum : PySem.HandSPX.refsVE xm_WrongSum = true)
    (w_Ring_LEAST : RelV (.int 64) u_Ring_LEAST)
    (w_Ring_GREATEST : RelV (.int 4294967296) u_Ring_GREATEST)
    : ∃ fd : FuncData, (∀ (s : Shared) (v : Value), BindsTo s fd ⟨[v], []⟩ [("script", v)]) ∧ ∀ base : Heap, K.In base → base.Ns mainGlobals mg → FnStill l.prog w K mg base 10 fa fd ["script"] (sp_law K) := by
  have e : fa = a_law := by
    have e0 := hfa.symm.trans (PySem.W.mg_of X G a_law')
    cases e0
    rfl
  rw [e]
  have F_InvalidNumber_init_ := fun_mk (st := s_InvalidNumber_init_) l_InvalidNumber_init_ e_InvalidNumber_init_ k_InvalidNumber_init_
  have F_InvalidSetting_init_ := fun_mk (st := s_InvalidSetting_init_) l_InvalidSetting_init_ e_InvalidSetting_init_ k_InvalidSetting_init_
  have F_InvalidSegment_init_ := fun_mk (st := s_InvalidSegment_init_) l_InvalidSegment_init_ e_InvalidSegment_init_ k_InvalidSegment_init_
  have F_InvalidWords_init_ := fun_mk (st := s_InvalidWords_init_) l_InvalidWords_init_ e_InvalidWords_init_ k_InvalidWords_init_
  have F_NotAllowed_init_ := fun_mk (st := s_NotAllowed_init_) l_NotAllowed_init_ e_NotAllowed_init_ k_NotAllowed_init_
  have F_Broken_init_ := fun_mk (st := s_Broken_init_) l_Broken_init_ e_Broken_init_ k_Broken_init_
  have F_NoConnection_init_ := fun_mk (st := s_NoConnection_init_) l_NoConnection_init_ e_NoConnection_init_ k_NoConnection_init_
  have F_NoListener_init_ := fun_mk (st := s_NoListener_init_) l_NoListener_init_ e_NoListener_init_ k_NoListener_init_
  have F_PortTaken_init_ := fun_mk (st := s_PortTaken_init_) l_PortTaken_init_ e_PortTaken_init_ k_PortTaken_init_
  have F_TooMany_init_ := fun_mk (st := s_TooMany_init_) l_TooMany_init_ e_TooMany_init_ k_TooMany_init_
  have F_InvalidFate_init_ := fun_mk (st := s_InvalidFate_init_) l_InvalidFate_init_ e_InvalidFate_init_ k_InvalidFate_init_
  have F_InvalidTrace_init_ := fun_mk (st := s_InvalidTrace_init_) l_InvalidTrace_init_ e_InvalidTrace_init_ k_InvalidTrace_init_
  have F_InvalidDeed_init_ := fun_mk (st := s_InvalidDeed_init_) l_InvalidDeed_init_ e_InvalidDeed_init_ k_InvalidDeed_init_
  have F_Stopped_init_ := fun_mk (st := s_Stopped_init_) l_Stopped_init_ e_Stopped_init_ k_Stopped_init_
  have F_InvalidLine_init_ := fun_mk (st := s_InvalidLine_init_) l_InvalidLine_init_ e_InvalidLine_init_ k_InvalidLine_init_
  have F_is_integer := fun_mk (st := s_is_integer) l_is_integer e_is_integer k_is_integer
  have F_is_between := fun_mk (st := s_is_between) l_is_between e_is_between k_is_between
  have F_Ring_init_ := fun_mk (st := s_Ring_init_) l_Ring_init_ e_Ring_init_ k_Ring_init_
  have F_Ring_of_bits := fun_mk (st := s_Ring_of_bits) l_Ring_of_bits e_Ring_of_bits k_Ring_of_bits
  have F_Ring_contains_ := fun_mk (st := s_Ring_contains_) l_Ring_contains_ e_Ring_contains_ k_Ring_contains_
  have F_Ring_eq_ := fun_mk (st := s_Ring_eq_) l_Ring_eq_ e_Ring_eq_ k_Ring_eq_
  have F_Ring_wrap := fun_mk (st := s_Ring_wrap) l_Ring_wrap e_Ring_wrap k_Ring_wrap
  have F_Ring_unwrap := fun_mk (st := s_Ring_unwrap) l_Ring_unwrap e_Ring_unwrap k_Ring_unwrap
  have F_Ring_gap := fun_mk (st := s_Ring_gap) l_Ring_gap e_Ring_gap k_Ring_gap
  have F_Ring_before := fun_mk (st := s_Ring_before) l_Ring_before e_Ring_before k_Ring_before
  have F_Ring_within := fun_mk (st := s_Ring_within) l_Ring_within e_Ring_within k_Ring_within
  have F_Ring_require := fun_mk (st := s_Ring_require) l_Ring_require e_Ring_require k_Ring_require
  have F_is_size := fun_mk (st := s_is_size) l_is_size e_is_size k_is_size
  have F__law_purse := fun_mk (st := s__law_purse) l__law_purse e__law_purse k__law_purse
  have F__law_draw := fun_mk (st := s__law_draw) l__law_draw e__law_draw k__law_draw
  have F__law_number := fun_mk (st := s__law_number) l__law_number e__law_number k__law_number
  have F__law_is := fun_mk (st := s__law_is) l__law_is e__law_is k__law_is
  have F__law_truth := fun_mk (st := s__law_truth) l__law_truth e__law_truth k__law_truth
  have F__law_width := fun_mk (st := s__law_width) l__law_width e__law_width k__law_width
  have F__law_error := fun_mk (st := s__law_error) l__law_error e__law_error k__law_error
  have F__law_classes := fun_mk (st := s__law_classes) l__law_classes e__law_classes k__law_classes
  have F__law_numbers := fun_mk (st := s__law_numbers) l__law_numbers e__law_numbers k__law_numbers
  have F__law_string := fun_mk (st := s__law_string) l__law_string e__law_string k__law_string
  have F__law_keeps := fun_mk (st := s__law_keeps) l__law_keeps e__law_keeps k__law_keeps
  have F__law_errors := fun_mk (st := s__law_errors) l__law_errors e__law_errors k__law_errors
  have F__law_kind := fun_mk (st := s__law_kind) l__law_kind e__law_kind k__law_kind
  have F__law_is_size := fun_mk (st := s__law_is_size) l__law_is_size e__law_is_size k__law_is_size
  have F__law_sized := fun_mk (st := s__law_sized) l__law_sized e__law_sized k__law_sized
  have F__law_bitten := fun_mk (st := s__law_bitten) l__law_bitten e__law_bitten k__law_bitten
  have F__law_sizes := fun_mk (st := s__law_sizes) l__law_sizes e__law_sizes k__law_sizes
  have F__law_odd := fun_mk (st := s__law_odd) l__law_odd e__law_odd k__law_odd
  have F__law_answer := fun_mk (st := s__law_answer) l__law_answer e__law_answer k__law_answer
  have F__law_wanted := fun_mk (st := s__law_wanted) l__law_wanted e__law_wanted k__law_wanted
  have F__law_call := fun_mk (st := s__law_call) l__law_call e__law_call k__law_call
  have F__law_equals := fun_mk (st := s__law_equals) l__law_equals e__law_equals k__law_equals
  have F_law := fun_mk (st := s_law) l_law e_law k_law
  let T : Txt K mg := {
    c_Ring := c_Ring,
    g_Ring := PySem.W.mg_of X G aC_Ring,
    cl_Ring := ⟨pg_Ring, hd_Ring, po_Ring, sa_Ring⟩,
    n_Ring_size := n_Ring_size,
    mc_Ring := .type "type",
    R_Ring := ⟨rd_Ring, ga_Ring⟩,
    V_Ring_LEAST := ⟨_, va_Ring_LEAST, w_Ring_LEAST⟩,
    V_Ring_GREATEST := ⟨_, va_Ring_GREATEST, w_Ring_GREATEST⟩,
    c_InvalidNumber := c_InvalidNumber,
    X_InvalidNumber := xcls_mk (PySem.W.mg_of X G aC_InvalidNumber) xl_InvalidNumber xm'_InvalidNumber sa_InvalidNumber xx_InvalidNumber xt_InvalidNumber xk_InvalidNumber xi_InvalidNumber xf_InvalidNumber_init_ xg_InvalidNumber xh_InvalidNumber xy_InvalidNumber xc_InvalidNumber x_get x_tk xr_InvalidNumber,
    nX_InvalidNumber := nX_InvalidNumber,
    c_InvalidSetting := c_InvalidSetting,
    X_InvalidSetting := xcls_mk (PySem.W.mg_of X G aC_InvalidSetting) xl_InvalidSetting xm'_InvalidSetting sa_InvalidSetting xx_InvalidSetting xt_InvalidSetting xk_InvalidSetting xi_InvalidSetting xf_InvalidSetting_init_ xg_InvalidSetting xh_InvalidSetting xy_InvalidSetting xc_InvalidSetting x_get x_tk xr_InvalidSetting,
    nX_InvalidSetting := nX_InvalidSetting,
    c_InvalidSegment := c_InvalidSegment,
    X_InvalidSegment := xcls_mk (PySem.W.mg_of X G aC_InvalidSegment) xl_InvalidSegment xm'_InvalidSegment sa_InvalidSegment xx_InvalidSegment xt_InvalidSegment xk_InvalidSegment xi_InvalidSegment xf_InvalidSegment_init_ xg_InvalidSegment xh_InvalidSegment xy_InvalidSegment xc_InvalidSegment x_get x_tk xr_InvalidSegment,
    nX_InvalidSegment := nX_InvalidSegment,
    c_InvalidWords := c_InvalidWords,
    X_InvalidWords := xcls_mk (PySem.W.mg_of X G aC_InvalidWords) xl_InvalidWords xm'_InvalidWords sa_InvalidWords xx_InvalidWords xt_InvalidWords xk_InvalidWords xi_InvalidWords xf_InvalidWords_init_ xg_InvalidWords xh_InvalidWords xy_InvalidWords xc_InvalidWords x_get x_tk xr_InvalidWords,
    nX_InvalidWords := nX_InvalidWords,
    c_NotAllowed := c_NotAllowed,
    X_NotAllowed := xcls_mk (PySem.W.mg_of X G aC_NotAllowed) xl_NotAllowed xm'_NotAllowed sa_NotAllowed xx_NotAllowed xt_NotAllowed xk_NotAllowed xi_NotAllowed xf_NotAllowed_init_ xg_NotAllowed xh_NotAllowed xy_NotAllowed xc_NotAllowed x_get x_tk xr_NotAllowed,
    nX_NotAllowed := nX_NotAllowed,
    c_Broken := c_Broken,
    X_Broken := xcls_mk (PySem.W.mg_of X G aC_Broken) xl_Broken xm'_Broken sa_Broken xx_Broken xt_Broken xk_Broken xi_Broken xf_Broken_init_ xg_Broken xh_Broken xy_Broken xc_Broken x_get x_tk xr_Broken,
    nX_Broken := nX_Broken,
    c_NoConnection := c_NoConnection,
    X_NoConnection := xcls_mk (PySem.W.mg_of X G aC_NoConnection) xl_NoConnection xm'_NoConnection sa_NoConnection xx_NoConnection xt_NoConnection xk_NoConnection xi_NoConnection xf_NoConnection_init_ xg_NoConnection xh_NoConnection xy_NoConnection xc_NoConnection x_get x_tk xr_NoConnection,
    nX_NoConnection := nX_NoConnection,
    c_NoListener := c_NoListener,
    X_NoListener := xcls_mk (PySem.W.mg_of X G aC_NoListener) xl_NoListener xm'_NoListener sa_NoListener xx_NoListener xt_NoListener xk_NoListener xi_NoListener xf_NoListener_init_ xg_NoListener xh_NoListener xy_NoListener xc_NoListener x_get x_tk xr_NoListener,
    nX_NoListener := nX_NoListener,
    c_PortTaken := c_PortTaken,
    X_PortTaken := xcls_mk (PySem.W.mg_of X G aC_PortTaken) xl_PortTaken xm'_PortTaken sa_PortTaken xx_PortTaken xt_PortTaken xk_PortTaken xi_PortTaken xf_PortTaken_init_ xg_PortTaken xh_PortTaken xy_PortTaken xc_PortTaken x_get x_tk xr_PortTaken,
    nX_PortTaken := nX_PortTaken,
    c_StationDown := c_StationDown,
    X_StationDown := ⟨PySem.W.mg_of X G aC_StationDown, pq_StationDown, xk_StationDown, ⟨xg_StationDown, xh_StationDown, xx_StationDown, xy_StationDown, xc_StationDown, x_get, x_tk, xr_StationDown⟩⟩,
    c_TooMany := c_TooMany,
    X_TooMany := xcls_mk (PySem.W.mg_of X G aC_TooMany) xl_TooMany xm'_TooMany sa_TooMany xx_TooMany xt_TooMany xk_TooMany xi_TooMany xf_TooMany_init_ xg_TooMany xh_TooMany xy_TooMany xc_TooMany x_get x_tk xr_TooMany,
    nX_TooMany := nX_TooMany,
    c_InvalidFate := c_InvalidFate,
    X_InvalidFate := xcls_mk (PySem.W.mg_of X G aC_InvalidFate) xl_InvalidFate xm'_InvalidFate sa_InvalidFate xx_InvalidFate xt_InvalidFate xk_InvalidFate xi_InvalidFate xf_InvalidFate_init_ xg_InvalidFate xh_InvalidFate xy_InvalidFate xc_InvalidFate x_get x_tk xr_InvalidFate,
    nX_InvalidFate_side := nX_InvalidFate_side,
    nX_InvalidFate_place := nX_InvalidFate_place,
    c_InvalidTrace := c_InvalidTrace,
    X_InvalidTrace := xcls_mk (PySem.W.mg_of X G aC_InvalidTrace) xl_InvalidTrace xm'_InvalidTrace sa_InvalidTrace xx_InvalidTrace xt_InvalidTrace xk_InvalidTrace xi_InvalidTrace xf_InvalidTrace_init_ xg_InvalidTrace xh_InvalidTrace xy_InvalidTrace xc_InvalidTrace x_get x_tk xr_InvalidTrace,
    nX_InvalidTrace := nX_InvalidTrace,
    c_InvalidDeed := c_InvalidDeed,
    X_InvalidDeed := xcls_mk (PySem.W.mg_of X G aC_InvalidDeed) xl_InvalidDeed xm'_InvalidDeed sa_InvalidDeed xx_InvalidDeed xt_InvalidDeed xk_InvalidDeed xi_InvalidDeed xf_InvalidDeed_init_ xg_InvalidDeed xh_InvalidDeed xy_InvalidDeed xc_InvalidDeed x_get x_tk xr_InvalidDeed,
    nX_InvalidDeed := nX_InvalidDeed,
    c_NothingLeft := c_NothingLeft,
    X_NothingLeft := ⟨PySem.W.mg_of X G aC_NothingLeft, pq_NothingLeft, xk_NothingLeft, ⟨xg_NothingLeft, xh_NothingLeft, xx_NothingLeft, xy_NothingLeft, xc_NothingLeft, x_get, x_tk, xr_NothingLeft⟩⟩,
    c_Stopped := c_Stopped,
    X_Stopped := xcls_mk (PySem.W.mg_of X G aC_Stopped) xl_Stopped xm'_Stopped sa_Stopped xx_Stopped xt_Stopped xk_Stopped xi_Stopped xf_Stopped_init_ xg_Stopped xh_Stopped xy_Stopped xc_Stopped x_get x_tk xr_Stopped,
    nX_Stopped := nX_Stopped,
    c_InvalidLine := c_InvalidLine,
    X_InvalidLine := xcls_mk (PySem.W.mg_of X G aC_InvalidLine) xl_InvalidLine xm'_InvalidLine sa_InvalidLine xx_InvalidLine xt_InvalidLine xk_InvalidLine xi_InvalidLine xf_InvalidLine_init_ xg_InvalidLine xh_InvalidLine xy_InvalidLine xc_InvalidLine x_get x_tk xr_InvalidLine,
    nX_InvalidLine := nX_InvalidLine,
    c_WrongSum := c_WrongSum,
    X_WrongSum := xcls_mk (PySem.W.mg_of X G aC_WrongSum) xl_WrongSum xm'_WrongSum sa_WrongSum xx_WrongSum xt_WrongSum xk_WrongSum xi_WrongSum xf_InvalidWords_init_ xg_WrongSum xh_WrongSum xy_WrongSum xc_WrongSum x_get x_tk xr_WrongSum,
    nX_WrongSum := nX_WrongSum,
    c_LossError := c_LossError,
    X_LossError := ⟨PySem.W.mg_of X G aC_LossError⟩,
    Me_InvalidSetting_InvalidSetting := Me_InvalidSetting_InvalidSetting,
    Me_InvalidNumber_InvalidNumber := Me_InvalidNumber_InvalidNumber,
    a_InvalidNumber_init_ := a_InvalidNumber_init_,
    fd_InvalidNumber_init_ := PySem.W.fnOf "__init__" "InvalidNumber.__init__" (defArgs s_InvalidNumber_init_) (defBody s_InvalidNumber_init_) (defScope s_InvalidNumber_init_) .none kV_InvalidNumber_init_ dc_InvalidNumber_init_ pm_InvalidNumber_init_ an_InvalidNumber_init_ cd_InvalidNumber_init_ ct_InvalidNumber_init_,
    F_InvalidNumber_init_ := F_InvalidNumber_init_,
    B_InvalidNumber_init_ := F_InvalidNumber_init_.binds (ps := ["self", "number"]) fun _ _ _ _ _ _ us hl => match us, hl with | [_, _], _ => rfl,
    a_InvalidSetting_init_ := a_InvalidSetting_init_,
    fd_InvalidSetting_init_ := PySem.W.fnOf "__init__" "InvalidSetting.__init__" (defArgs s_InvalidSetting_init_) (defBody s_InvalidSetting_init_) (defScope s_InvalidSetting_init_) .none kV_InvalidSetting_init_ dc_InvalidSetting_init_ pm_InvalidSetting_init_ an_InvalidSetting_init_ cd_InvalidSetting_init_ ct_InvalidSetting_init_,
    F_InvalidSetting_init_ := F_InvalidSetting_init_,
    B_InvalidSetting_init_ := F_InvalidSetting_init_.binds (ps := ["self", "setting"]) fun _ _ _ _ _ _ us hl => match us, hl with | [_, _], _ => rfl,
    a_InvalidSegment_init_ := a_InvalidSegment_init_,
    fd_InvalidSegment_init_ := PySem.W.fnOf "__init__" "InvalidSegment.__init__" (defArgs s_InvalidSegment_init_) (defBody s_InvalidSegment_init_) (defScope s_InvalidSegment_init_) .none kV_InvalidSegment_init_ dc_InvalidSegment_init_ pm_InvalidSegment_init_ an_InvalidSegment_init_ cd_InvalidSegment_init_ ct_InvalidSegment_init_,
    F_InvalidSegment_init_ := F_InvalidSegment_init_,
    B_InvalidSegment_init_ := F_InvalidSegment_init_.binds (ps := ["self", "part"]) fun _ _ _ _ _ _ us hl => match us, hl with | [_, _], _ => rfl,
    a_InvalidWords_init_ := a_InvalidWords_init_,
    fd_InvalidWords_init_ := PySem.W.fnOf "__init__" "InvalidWords.__init__" (defArgs s_InvalidWords_init_) (defBody s_InvalidWords_init_) (defScope s_InvalidWords_init_) .none kV_InvalidWords_init_ dc_InvalidWords_init_ pm_InvalidWords_init_ an_InvalidWords_init_ cd_InvalidWords_init_ ct_InvalidWords_init_,
    F_InvalidWords_init_ := F_InvalidWords_init_,
    B_InvalidWords_init_ := F_InvalidWords_init_.binds (ps := ["self", "place"]) fun _ _ _ _ _ _ us hl => match us, hl with | [_, _], _ => rfl,
    a_NotAllowed_init_ := a_NotAllowed_init_,
    fd_NotAllowed_init_ := PySem.W.fnOf "__init__" "NotAllowed.__init__" (defArgs s_NotAllowed_init_) (defBody s_NotAllowed_init_) (defScope s_NotAllowed_init_) .none kV_NotAllowed_init_ dc_NotAllowed_init_ pm_NotAllowed_init_ an_NotAllowed_init_ cd_NotAllowed_init_ ct_NotAllowed_init_,
    F_NotAllowed_init_ := F_NotAllowed_init_,
    B_NotAllowed_init_ := F_NotAllowed_init_.binds (ps := ["self", "state"]) fun _ _ _ _ _ _ us hl => match us, hl with | [_, _], _ => rfl,
    a_Broken_init_ := a_Broken_init_,
    fd_Broken_init_ := PySem.W.fnOf "__init__" "Broken.__init__" (defArgs s_Broken_init_) (defBody s_Broken_init_) (defScope s_Broken_init_) .none kV_Broken_init_ dc_Broken_init_ pm_Broken_init_ an_Broken_init_ cd_Broken_init_ ct_Broken_init_,
    F_Broken_init_ := F_Broken_init_,
    B_Broken_init_ := F_Broken_init_.binds (ps := ["self", "reason"]) fun _ _ _ _ _ _ us hl => match us, hl with | [_, _], _ => rfl,
    a_NoConnection_init_ := a_NoConnection_init_,
    fd_NoConnection_init_ := PySem.W.fnOf "__init__" "NoConnection.__init__" (defArgs s_NoConnection_init_) (defBody s_NoConnection_init_) (defScope s_NoConnection_init_) .none kV_NoConnection_init_ dc_NoConnection_init_ pm_NoConnection_init_ an_NoConnection_init_ cd_NoConnection_init_ ct_NoConnection_init_,
    F_NoConnection_init_ := F_NoConnection_init_,
    B_NoConnection_init_ := F_NoConnection_init_.binds (ps := ["self", "handle"]) fun _ _ _ _ _ _ us hl => match us, hl with | [_, _], _ => rfl,
    a_NoListener_init_ := a_NoListener_init_,
    fd_NoListener_init_ := PySem.W.fnOf "__init__" "NoListener.__init__" (defArgs s_NoListener_init_) (defBody s_NoListener_init_) (defScope s_NoListener_init_) .none kV_NoListener_init_ dc_NoListener_init_ pm_NoListener_init_ an_NoListener_init_ cd_NoListener_init_ ct_NoListener_init_,
    F_NoListener_init_ := F_NoListener_init_,
    B_NoListener_init_ := F_NoListener_init_.binds (ps := ["self", "port"]) fun _ _ _ _ _ _ us hl => match us, hl with | [_, _], _ => rfl,
    a_PortTaken_init_ := a_PortTaken_init_,
    fd_PortTaken_init_ := PySem.W.fnOf "__init__" "PortTaken.__init__" (defArgs s_PortTaken_init_) (defBody s_PortTaken_init_) (defScope s_PortTaken_init_) .none kV_PortTaken_init_ dc_PortTaken_init_ pm_PortTaken_init_ an_PortTaken_init_ cd_PortTaken_init_ ct_PortTaken_init_,
    F_PortTaken_init_ := F_PortTaken_init_,
    B_PortTaken_init_ := F_PortTaken_init_.binds (ps := ["self", "port"]) fun _ _ _ _ _ _ us hl => match us, hl with | [_, _], _ => rfl,
    a_TooMany_init_ := a_TooMany_init_,
    fd_TooMany_init_ := PySem.W.fnOf "__init__" "TooMany.__init__" (defArgs s_TooMany_init_) (defBody s_TooMany_init_) (defScope s_TooMany_init_) .none kV_TooMany_init_ dc_TooMany_init_ pm_TooMany_init_ an_TooMany_init_ cd_TooMany_init_ ct_TooMany_init_,
    F_TooMany_init_ := F_TooMany_init_,
    B_TooMany_init_ := F_TooMany_init_.binds (ps := ["self", "most"]) fun _ _ _ _ _ _ us hl => match us, hl with | [_, _], _ => rfl,
    a_InvalidFate_init_ := a_InvalidFate_init_,
    fd_InvalidFate_init_ := PySem.W.fnOf "__init__" "InvalidFate.__init__" (defArgs s_InvalidFate_init_) (defBody s_InvalidFate_init_) (defScope s_InvalidFate_init_) .none kV_InvalidFate_init_ dc_InvalidFate_init_ pm_InvalidFate_init_ an_InvalidFate_init_ cd_InvalidFate_init_ ct_InvalidFate_init_,
    F_InvalidFate_init_ := F_InvalidFate_init_,
    B_InvalidFate_init_ := F_InvalidFate_init_.binds (ps := ["self", "side", "place"]) fun _ _ _ _ _ _ us hl => match us, hl with | [_, _, _], _ => rfl,
    a_InvalidTrace_init_ := a_InvalidTrace_init_,
    fd_InvalidTrace_init_ := PySem.W.fnOf "__init__" "InvalidTrace.__init__" (defArgs s_InvalidTrace_init_) (defBody s_InvalidTrace_init_) (defScope s_InvalidTrace_init_) .none kV_InvalidTrace_init_ dc_InvalidTrace_init_ pm_InvalidTrace_init_ an_InvalidTrace_init_ cd_InvalidTrace_init_ ct_InvalidTrace_init_,
    F_InvalidTrace_init_ := F_InvalidTrace_init_,
    B_InvalidTrace_init_ := F_InvalidTrace_init_.binds (ps := ["self", "place"]) fun _ _ _ _ _ _ us hl => match us, hl with | [_, _], _ => rfl,
    a_InvalidDeed_init_ := a_InvalidDeed_init_,
    fd_InvalidDeed_init_ := PySem.W.fnOf "__init__" "InvalidDeed.__init__" (defArgs s_InvalidDeed_init_) (defBody s_InvalidDeed_init_) (defScope s_InvalidDeed_init_) .none kV_InvalidDeed_init_ dc_InvalidDeed_init_ pm_InvalidDeed_init_ an_InvalidDeed_init_ cd_InvalidDeed_init_ ct_InvalidDeed_init_,
    F_InvalidDeed_init_ := F_InvalidDeed_init_,
    B_InvalidDeed_init_ := F_InvalidDeed_init_.binds (ps := ["self", "deed"]) fun _ _ _ _ _ _ us hl => match us, hl with | [_, _], _ => rfl,
    a_Stopped_init_ := a_Stopped_init_,
    fd_Stopped_init_ := PySem.W.fnOf "__init__" "Stopped.__init__" (defArgs s_Stopped_init_) (defBody s_Stopped_init_) (defScope s_Stopped_init_) .none kV_Stopped_init_ dc_Stopped_init_ pm_Stopped_init_ an_Stopped_init_ cd_Stopped_init_ ct_Stopped_init_,
    F_Stopped_init_ := F_Stopped_init_,
    B_Stopped_init_ := F_Stopped_init_.binds (ps := ["self", "place"]) fun _ _ _ _ _ _ us hl => match us, hl with | [_, _], _ => rfl,
    a_InvalidLine_init_ := a_InvalidLine_init_,
    fd_InvalidLine_init_ := PySem.W.fnOf "__init__" "InvalidLine.__init__" (defArgs s_InvalidLine_init_) (defBody s_InvalidLine_init_) (defScope s_InvalidLine_init_) .none kV_InvalidLine_init_ dc_InvalidLine_init_ pm_InvalidLine_init_ an_InvalidLine_init_ cd_InvalidLine_init_ ct_InvalidLine_init_,
    F_InvalidLine_init_ := F_InvalidLine_init_,
    B_InvalidLine_init_ := F_InvalidLine_init_.binds (ps := ["self", "line"]) fun _ _ _ _ _ _ us hl => match us, hl with | [_, _], _ => rfl,
    a_is_integer := a_is_integer,
    fd_is_integer := PySem.W.fnOf "is_integer" "is_integer" (defArgs s_is_integer) (defBody s_is_integer) (defScope s_is_integer) .none kV_is_integer dc_is_integer pm_is_integer an_is_integer cd_is_integer ct_is_integer,
    F_is_integer := F_is_integer,
    B_is_integer := F_is_integer.binds (ps := ["value"]) fun _ _ _ _ _ _ us hl => match us, hl with | [_], _ => rfl,
    g_is_integer := PySem.W.mg_of X G a_is_integer',
    a_is_between := a_is_between,
    fd_is_between := PySem.W.fnOf "is_between" "is_between" (defArgs s_is_between) (defBody s_is_between) (defScope s_is_between) .none kV_is_between dc_is_between pm_is_between an_is_between cd_is_between ct_is_between,
    F_is_between := F_is_between,
    B_is_between := F_is_between.binds (ps := ["value", "low", "high"]) fun _ _ _ _ _ _ us hl => match us, hl with | [_, _, _], _ => rfl,
    g_is_between := PySem.W.mg_of X G a_is_between',
    a_Ring_init_ := a_Ring_init_,
    fd_Ring_init_ := PySem.W.fnOf "__init__" "Ring.__init__" (defArgs s_Ring_init_) (defBody s_Ring_init_) (defScope s_Ring_init_) .none kV_Ring_init_ dc_Ring_init_ pm_Ring_init_ an_Ring_init_ cd_Ring_init_ ct_Ring_init_,
    F_Ring_init_ := F_Ring_init_,
    B_Ring_init_ := F_Ring_init_.binds (ps := ["self", "size"]) fun _ _ _ _ _ _ us hl => match us, hl with | [_, _], _ => rfl,
    M_Ring := ⟨mk_Ring, a_Ring_init_', i_Ring_init_, kc_Ring⟩,
    a_Ring_of_bits := a_Ring_of_bits,
    fd_Ring_of_bits := PySem.W.fnOf "of_bits" "Ring.of_bits" (defArgs s_Ring_of_bits) (defBody s_Ring_of_bits) (defScope s_Ring_of_bits) .none kV_Ring_of_bits dc_Ring_of_bits pm_Ring_of_bits an_Ring_of_bits cd_Ring_of_bits ct_Ring_of_bits,
    F_Ring_of_bits := F_Ring_of_bits,
    B_Ring_of_bits := F_Ring_of_bits.binds (ps := ["cls", "bits"]) fun _ _ _ _ _ _ us hl => match us, hl with | [_, _], _ => rfl,
    p_Ring_of_bits := p_Ring_of_bits,
    CM_Ring_of_bits := ⟨a_Ring_of_bits', ⟨_, rc_Ring_of_bits⟩, fi_Ring_of_bits⟩,
    a_Ring_contains_ := a_Ring_contains_,
    fd_Ring_contains_ := PySem.W.fnOf "__contains__" "Ring.__contains__" (defArgs s_Ring_contains_) (defBody s_Ring_contains_) (defScope s_Ring_contains_) .none kV_Ring_contains_ dc_Ring_contains_ pm_Ring_contains_ an_Ring_contains_ cd_Ring_contains_ ct_Ring_contains_,
    F_Ring_contains_ := F_Ring_contains_,
    B_Ring_contains_ := F_Ring_contains_.binds (ps := ["self", "number"]) fun _ _ _ _ _ _ us hl => match us, hl with | [_, _], _ => rfl,
    m_Ring_contains_ := ⟨a_Ring_contains_', i_Ring_contains_, k_Ring_contains_⟩,
    a_Ring_eq_ := a_Ring_eq_,
    fd_Ring_eq_ := PySem.W.fnOf "__eq__" "Ring.__eq__" (defArgs s_Ring_eq_) (defBody s_Ring_eq_) (defScope s_Ring_eq_) .none kV_Ring_eq_ dc_Ring_eq_ pm_Ring_eq_ an_Ring_eq_ cd_Ring_eq_ ct_Ring_eq_,
    F_Ring_eq_ := F_Ring_eq_,
    B_Ring_eq_ := F_Ring_eq_.binds (ps := ["self", "other"]) fun _ _ _ _ _ _ us hl => match us, hl with | [_, _], _ => rfl,
    m_Ring_eq_ := ⟨a_Ring_eq_', i_Ring_eq_, k_Ring_eq_⟩,
    a_Ring_wrap := a_Ring_wrap,
    fd_Ring_wrap := PySem.W.fnOf "wrap" "Ring.wrap" (defArgs s_Ring_wrap) (defBody s_Ring_wrap) (defScope s_Ring_wrap) .none kV_Ring_wrap dc_Ring_wrap pm_Ring_wrap an_Ring_wrap cd_Ring_wrap ct_Ring_wrap,
    F_Ring_wrap := F_Ring_wrap,
    B_Ring_wrap := F_Ring_wrap.binds (ps := ["self", "offset"]) fun _ _ _ _ _ _ us hl => match us, hl with | [_, _], _ => rfl,
    m_Ring_wrap := ⟨a_Ring_wrap', i_Ring_wrap, k_Ring_wrap⟩,
    a_Ring_unwrap := a_Ring_unwrap,
    fd_Ring_unwrap := PySem.W.fnOf "unwrap" "Ring.unwrap" (defArgs s_Ring_unwrap) (defBody s_Ring_unwrap) (defScope s_Ring_unwrap) .none kV_Ring_unwrap dc_Ring_unwrap pm_Ring_unwrap an_Ring_unwrap cd_Ring_unwrap ct_Ring_unwrap,
    F_Ring_unwrap := F_Ring_unwrap,
    B_Ring_unwrap := F_Ring_unwrap.binds (ps := ["self", "number", "near"]) fun _ _ _ _ _ _ us hl => match us, hl with | [_, _, _], _ => rfl,
    m_Ring_unwrap := ⟨a_Ring_unwrap', i_Ring_unwrap, k_Ring_unwrap⟩,
    a_Ring_gap := a_Ring_gap,
    fd_Ring_gap := PySem.W.fnOf "gap" "Ring.gap" (defArgs s_Ring_gap) (defBody s_Ring_gap) (defScope s_Ring_gap) .none kV_Ring_gap dc_Ring_gap pm_Ring_gap an_Ring_gap cd_Ring_gap ct_Ring_gap,
    F_Ring_gap := F_Ring_gap,
    B_Ring_gap := F_Ring_gap.binds (ps := ["self", "low", "high"]) fun _ _ _ _ _ _ us hl => match us, hl with | [_, _, _], _ => rfl,
    m_Ring_gap := ⟨a_Ring_gap', i_Ring_gap, k_Ring_gap⟩,
    a_Ring_before := a_Ring_before,
    fd_Ring_before := PySem.W.fnOf "before" "Ring.before" (defArgs s_Ring_before) (defBody s_Ring_before) (defScope s_Ring_before) .none kV_Ring_before dc_Ring_before pm_Ring_before an_Ring_before cd_Ring_before ct_Ring_before,
    F_Ring_before := F_Ring_before,
    B_Ring_before := F_Ring_before.binds (ps := ["self", "low", "high"]) fun _ _ _ _ _ _ us hl => match us, hl with | [_, _, _], _ => rfl,
    m_Ring_before := ⟨a_Ring_before', i_Ring_before, k_Ring_before⟩,
    a_Ring_within := a_Ring_within,
    fd_Ring_within := PySem.W.fnOf "within" "Ring.within" (defArgs s_Ring_within) (defBody s_Ring_within) (defScope s_Ring_within) .none kV_Ring_within dc_Ring_within pm_Ring_within an_Ring_within cd_Ring_within ct_Ring_within,
    F_Ring_within := F_Ring_within,
    B_Ring_within := F_Ring_within.binds (ps := ["self", "low", "number", "high"]) fun _ _ _ _ _ _ us hl => match us, hl with | [_, _, _, _], _ => rfl,
    m_Ring_within := ⟨a_Ring_within', i_Ring_within, k_Ring_within⟩,
    a_Ring_require := a_Ring_require,
    fd_Ring_require := PySem.W.fnOf "_require" "Ring._require" (defArgs s_Ring_require) (defBody s_Ring_require) (defScope s_Ring_require) .none kV_Ring_require dc_Ring_require pm_Ring_require an_Ring_require cd_Ring_require ct_Ring_require,
    F_Ring_require := F_Ring_require,
    B_Ring_require := F_Ring_require.binds (ps := ["self", "number"]) fun _ _ _ _ _ _ us hl => match us, hl with | [_, _], _ => rfl,
    m_Ring_require := ⟨a_Ring_require', i_Ring_require, k_Ring_require⟩,
    a_is_size := a_is_size,
    fd_is_size := PySem.W.fnOf "is_size" "is_size" (defArgs s_is_size) (defBody s_is_size) (defScope s_is_size) .none kV_is_size dc_is_size pm_is_size an_is_size cd_is_size ct_is_size,
    F_is_size := F_is_size,
    B_is_size := F_is_size.binds (ps := ["value"]) fun _ _ _ _ _ _ us hl => match us, hl with | [_], _ => rfl,
    g_is_size := PySem.W.mg_of X G a_is_size',
    a__law_purse := a__law_purse,
    fd__law_purse := PySem.W.fnOf "_law_purse" "_law_purse" (defArgs s__law_purse) (defBody s__law_purse) (defScope s__law_purse) .none kV__law_purse dc__law_purse pm__law_purse an__law_purse cd__law_purse ct__law_purse,
    F__law_purse := F__law_purse,
    B__law_purse := F__law_purse.binds (ps := ["script"]) fun _ _ _ _ _ _ us hl => match us, hl with | [_], _ => rfl,
    g__law_purse := PySem.W.mg_of X G a__law_purse',
    a__law_draw := a__law_draw,
    fd__law_draw := PySem.W.fnOf "_law_draw" "_law_draw" (defArgs s__law_draw) (defBody s__law_draw) (defScope s__law_draw) .none kV__law_draw dc__law_draw pm__law_draw an__law_draw cd__law_draw ct__law_draw,
    F__law_draw := F__law_draw,
    B__law_draw := F__law_draw.binds (ps := ["purse", "many"]) fun _ _ _ _ _ _ us hl => match us, hl with | [_, _], _ => rfl,
    g__law_draw := PySem.W.mg_of X G a__law_draw',
    a__law_number := a__law_number,
    fd__law_number := PySem.W.fnOf "_law_number" "_law_number" (defArgs s__law_number) (defBody s__law_number) (defScope s__law_number) .none kV__law_number dc__law_number pm__law_number an__law_number cd__law_number ct__law_number,
    F__law_number := F__law_number,
    B__law_number := F__law_number.binds (ps := ["purse", "most"]) fun _ _ _ _ _ _ us hl => match us, hl with | [_, _], _ => rfl,
    g__law_number := PySem.W.mg_of X G a__law_number',
    a__law_is := a__law_is,
    fd__law_is := PySem.W.fnOf "_law_is" "_law_is" (defArgs s__law_is) (defBody s__law_is) (defScope s__law_is) .none kV__law_is dc__law_is pm__law_is an__law_is cd__law_is ct__law_is,
    F__law_is := F__law_is,
    B__law_is := F__law_is.binds (ps := ["actual", "wanted"]) fun _ _ _ _ _ _ us hl => match us, hl with | [_, _], _ => rfl,
    g__law_is := PySem.W.mg_of X G a__law_is',
    a__law_truth := a__law_truth,
    fd__law_truth := PySem.W.fnOf "_law_truth" "_law_truth" (defArgs s__law_truth) (defBody s__law_truth) (defScope s__law_truth) .none kV__law_truth dc__law_truth pm__law_truth an__law_truth cd__law_truth ct__law_truth,
    F__law_truth := F__law_truth,
    B__law_truth := F__law_truth.binds (ps := ["actual", "wanted"]) fun _ _ _ _ _ _ us hl => match us, hl with | [_, _], _ => rfl,
    g__law_truth := PySem.W.mg_of X G a__law_truth',
    a__law_width := a__law_width,
    fd__law_width := PySem.W.fnOf "_law_width" "_law_width" (defArgs s__law_width) (defBody s__law_width) (defScope s__law_width) .none kV__law_width dc__law_width pm__law_width an__law_width cd__law_width ct__law_width,
    F__law_width := F__law_width,
    B__law_width := F__law_width.binds (ps := ["bits"]) fun _ _ _ _ _ _ us hl => match us, hl with | [_], _ => rfl,
    g__law_width := PySem.W.mg_of X G a__law_width',
    a__law_error := a__law_error,
    fd__law_error := PySem.W.fnOf "_law_error" "_law_error" (defArgs s__law_error) (defBody s__law_error) (defScope s__law_error) .none kV__law_error dc__law_error pm__law_error an__law_error cd__law_error ct__law_error,
    F__law_error := F__law_error,
    B__law_error := F__law_error.binds (ps := ["which", "amount", "text"]) fun _ _ _ _ _ _ us hl => match us, hl with | [_, _, _], _ => rfl,
    g__law_error := PySem.W.mg_of X G a__law_error',
    a__law_classes := a__law_classes,
    fd__law_classes := PySem.W.fnOf "_law_classes" "_law_classes" (defArgs s__law_classes) (defBody s__law_classes) (defScope s__law_classes) .none kV__law_classes dc__law_classes pm__law_classes an__law_classes cd__law_classes ct__law_classes,
    F__law_classes := F__law_classes,
    B__law_classes := F__law_classes.binds (ps := ["made"]) fun _ _ _ _ _ _ us hl => match us, hl with | [_], _ => rfl,
    g__law_classes := PySem.W.mg_of X G a__law_classes',
    a__law_numbers := a__law_numbers,
    fd__law_numbers := PySem.W.fnOf "_law_numbers" "_law_numbers" (defArgs s__law_numbers) (defBody s__law_numbers) (defScope s__law_numbers) .none kV__law_numbers dc__law_numbers pm__law_numbers an__law_numbers cd__law_numbers ct__law_numbers,
    F__law_numbers := F__law_numbers,
    B__law_numbers := F__law_numbers.binds (ps := ["made", "which"]) fun _ _ _ _ _ _ us hl => match us, hl with | [_, _], _ => rfl,
    g__law_numbers := PySem.W.mg_of X G a__law_numbers',
    a__law_string := a__law_string,
    fd__law_string := PySem.W.fnOf "_law_string" "_law_string" (defArgs s__law_string) (defBody s__law_string) (defScope s__law_string) .none kV__law_string dc__law_string pm__law_string an__law_string cd__law_string ct__law_string,
    F__law_string := F__law_string,
    B__law_string := F__law_string.binds (ps := ["made", "which"]) fun _ _ _ _ _ _ us hl => match us, hl with | [_, _], _ => rfl,
    g__law_string := PySem.W.mg_of X G a__law_string',
    a__law_keeps := a__law_keeps,
    fd__law_keeps := PySem.W.fnOf "_law_keeps" "_law_keeps" (defArgs s__law_keeps) (defBody s__law_keeps) (defScope s__law_keeps) .none kV__law_keeps dc__law_keeps pm__law_keeps an__law_keeps cd__law_keeps ct__law_keeps,
    F__law_keeps := F__law_keeps,
    B__law_keeps := F__law_keeps.binds (ps := ["made", "which", "amount", "text"]) fun _ _ _ _ _ _ us hl => match us, hl with | [_, _, _, _], _ => rfl,
    g__law_keeps := PySem.W.mg_of X G a__law_keeps',
    a__law_errors := a__law_errors,
    fd__law_errors := PySem.W.fnOf "_law_errors" "_law_errors" (defArgs s__law_errors) (defBody s__law_errors) (defScope s__law_errors) .none kV__law_errors dc__law_errors pm__law_errors an__law_errors cd__law_errors ct__law_errors,
    F__law_errors := F__law_errors,
    B__law_errors := F__law_errors.binds (ps := ["purse"]) fun _ _ _ _ _ _ us hl => match us, hl with | [_], _ => rfl,
    g__law_errors := PySem.W.mg_of X G a__law_errors',
    a__law_kind := a__law_kind,
    fd__law_kind := PySem.W.fnOf "_law_kind" "_law_kind" (defArgs s__law_kind) (defBody s__law_kind) (defScope s__law_kind) .none kV__law_kind dc__law_kind pm__law_kind an__law_kind cd__law_kind ct__law_kind,
    F__law_kind := F__law_kind,
    B__law_kind := F__law_kind.binds (ps := ["purse"]) fun _ _ _ _ _ _ us hl => match us, hl with | [_], _ => rfl,
    g__law_kind := PySem.W.mg_of X G a__law_kind',
    a__law_is_size := a__law_is_size,
    fd__law_is_size := PySem.W.fnOf "_law_is_size" "_law_is_size" (defArgs s__law_is_size) (defBody s__law_is_size) (defScope s__law_is_size) .none kV__law_is_size dc__law_is_size pm__law_is_size an__law_is_size cd__law_is_size ct__law_is_size,
    F__law_is_size := F__law_is_size,
    B__law_is_size := F__law_is_size.binds (ps := ["value"]) fun _ _ _ _ _ _ us hl => match us, hl with | [_], _ => rfl,
    g__law_is_size := PySem.W.mg_of X G a__law_is_size',
    a__law_sized := a__law_sized,
    fd__law_sized := PySem.W.fnOf "_law_sized" "_law_sized" (defArgs s__law_sized) (defBody s__law_sized) (defScope s__law_sized) .none kV__law_sized dc__law_sized pm__law_sized an__law_sized cd__law_sized ct__law_sized,
    F__law_sized := F__law_sized,
    B__law_sized := F__law_sized.binds (ps := ["value"]) fun _ _ _ _ _ _ us hl => match us, hl with | [_], _ => rfl,
    g__law_sized := PySem.W.mg_of X G a__law_sized',
    a__law_bitten := a__law_bitten,
    fd__law_bitten := PySem.W.fnOf "_law_bitten" "_law_bitten" (defArgs s__law_bitten) (defBody s__law_bitten) (defScope s__law_bitten) .none kV__law_bitten dc__law_bitten pm__law_bitten an__law_bitten cd__law_bitten ct__law_bitten,
    F__law_bitten := F__law_bitten,
    B__law_bitten := F__law_bitten.binds (ps := ["value"]) fun _ _ _ _ _ _ us hl => match us, hl with | [_], _ => rfl,
    g__law_bitten := PySem.W.mg_of X G a__law_bitten',
    a__law_sizes := a__law_sizes,
    fd__law_sizes := PySem.W.fnOf "_law_sizes" "_law_sizes" (defArgs s__law_sizes) (defBody s__law_sizes) (defScope s__law_sizes) .none kV__law_sizes dc__law_sizes pm__law_sizes an__law_sizes cd__law_sizes ct__law_sizes,
    F__law_sizes := F__law_sizes,
    B__law_sizes := F__law_sizes.binds (ps := ["purse"]) fun _ _ _ _ _ _ us hl => match us, hl with | [_], _ => rfl,
    g__law_sizes := PySem.W.mg_of X G a__law_sizes',
    a__law_odd := a__law_odd,
    fd__law_odd := PySem.W.fnOf "_law_odd" "_law_odd" (defArgs s__law_odd) (defBody s__law_odd) (defScope s__law_odd) .none kV__law_odd dc__law_odd pm__law_odd an__law_odd cd__law_odd ct__law_odd,
    F__law_odd := F__law_odd,
    B__law_odd := F__law_odd.binds (ps := ["purse", "width", "any_integer"]) fun _ _ _ _ _ _ us hl => match us, hl with | [_, _, _], _ => rfl,
    g__law_odd := PySem.W.mg_of X G a__law_odd',
    a__law_answer := a__law_answer,
    fd__law_answer := PySem.W.fnOf "_law_answer" "_law_answer" (defArgs s__law_answer) (defBody s__law_answer) (defScope s__law_answer) .none kV__law_answer dc__law_answer pm__law_answer an__law_answer cd__law_answer ct__law_answer,
    F__law_answer := F__law_answer,
    B__law_answer := F__law_answer.binds (ps := ["ring", "way", "handed"]) fun _ _ _ _ _ _ us hl => match us, hl with | [_, _, _], _ => rfl,
    g__law_answer := PySem.W.mg_of X G a__law_answer',
    a__law_wanted := a__law_wanted,
    fd__law_wanted := PySem.W.fnOf "_law_wanted" "_law_wanted" (defArgs s__law_wanted) (defBody s__law_wanted) (defScope s__law_wanted) .none kV__law_wanted dc__law_wanted pm__law_wanted an__law_wanted cd__law_wanted ct__law_wanted,
    F__law_wanted := F__law_wanted,
    B__law_wanted := F__law_wanted.binds (ps := ["way", "handed", "width"]) fun _ _ _ _ _ _ us hl => match us, hl with | [_, _, _], _ => rfl,
    g__law_wanted := PySem.W.mg_of X G a__law_wanted',
    a__law_call := a__law_call,
    fd__law_call := PySem.W.fnOf "_law_call" "_law_call" (defArgs s__law_call) (defBody s__law_call) (defScope s__law_call) .none kV__law_call dc__law_call pm__law_call an__law_call cd__law_call ct__law_call,
    F__law_call := F__law_call,
    B__law_call := F__law_call.binds (ps := ["purse", "ring", "width"]) fun _ _ _ _ _ _ us hl => match us, hl with | [_, _, _], _ => rfl,
    g__law_call := PySem.W.mg_of X G a__law_call',
    a__law_equals := a__law_equals,
    fd__law_equals := PySem.W.fnOf "_law_equals" "_law_equals" (defArgs s__law_equals) (defBody s__law_equals) (defScope s__law_equals) .none kV__law_equals dc__law_equals pm__law_equals an__law_equals cd__law_equals ct__law_equals,
    F__law_equals := F__law_equals,
    B__law_equals := F__law_equals.binds (ps := ["purse", "ring", "width"]) fun _ _ _ _ _ _ us hl => match us, hl with | [_, _, _], _ => rfl,
    g__law_equals := PySem.W.mg_of X G a__law_equals',
    a_law := a_law,
    fd_law := PySem.W.fnOf "law" "law" (defArgs s_law) (defBody s_law) (defScope s_law) .none kV_law dc_law pm_law an_law cd_law ct_law,
    F_law := F_law,
    B_law := F_law.binds (ps := ["script"]) fun _ _ _ _ _ _ us hl => match us, hl with | [_], _ => rfl,
    g_law := PySem.W.mg_of X G a_law',
    KR_InvalidNumber := KR_InvalidNumber,
    KR_InvalidSetting := KR_InvalidSetting,
    KR_InvalidSegment := KR_InvalidSegment,
    KR_InvalidWords := KR_InvalidWords,
    KR_NotAllowed := KR_NotAllowed,
    KR_Broken := KR_Broken,
    KR_NoConnection := KR_NoConnection,
    KR_NoListener := KR_NoListener,
    KR_PortTaken := KR_PortTaken,
    KR_StationDown := KR_StationDown,
    KR_TooMany := KR_TooMany,
    KR_InvalidFate := KR_InvalidFate,
    KR_InvalidTrace := KR_InvalidTrace,
    KR_InvalidDeed := KR_InvalidDeed,
    KR_NothingLeft := KR_NothingLeft,
    KR_Stopped := KR_Stopped,
    KR_InvalidLine := KR_InvalidLine,
    KR_WrongSum := KR_WrongSum,
    KR_NoneType := KR_NoneType,
    KR_bool := KR_bool,
    KR_int := KR_int,
    KR_str := KR_str,
    KR_tuple := KR_tuple,
    KR_list := KR_list,
    KR_dict := KR_dict,
    KR_Ring := KR_Ring,
    sub_NoneType := sub_NoneType,
    sub_bool := sub_bool,
    sub_int := sub_int,
    sub_str := sub_str,
    sub_tuple := sub_tuple,
    sub_list := sub_list,
    sub_dict := sub_dict,
    ri_class := ri_class,
    ri_mro := ri_mro,
    ri_get := ri_get,
    ri_tk := ri_tk,
    b_ValueError := PySem.W.mg_none_of X G z_ValueError,
    b_bool := PySem.W.mg_none_of X G z_bool,
    b_classmethod := PySem.W.mg_none_of X G z_classmethod,
    b_int := PySem.W.mg_none_of X G z_int,
    b_isinstance := PySem.W.mg_none_of X G z_isinstance,
    b_len := PySem.W.mg_none_of X G z_len,
    b_max := PySem.W.mg_none_of X G z_max,
    b_min := PySem.W.mg_none_of X G z_min,
    b_range := PySem.W.mg_none_of X G z_range,
    b_repr := PySem.W.mg_none_of X G z_repr,
    b_str := PySem.W.mg_none_of X G z_str,
    b_tuple := PySem.W.mg_none_of X G z_tuple }
  exact ⟨T.fd_law, fun s v => .of_eq rfl, fun base _ _ => ok_law (P := l.prog) (w := w) (base := base) T⟩
theorem walk {l : PySem.W.OpenLaw} {q : Program} {loose : List Str} {XP : (Str → Option Value) → Heap → Prop} {YP : World → Heap → Prop} {d : DefRec} {K : Params → PySem.W.Frag} (hn : l.most = some 63) (hdf : d.params.defaults = [])
    (hY : ∀ (w : World) (h : Heap), YP w h → (K w.params).In h)
    (F : ∀ (w : World) (mg : Str → Option Value) (fa : Addr) (h : Heap), (K w.params).In h → h.Ns mainGlobals mg → mg d.name = some (.ref fa) →
      ∃ fd : FuncData, (∀ (s : Shared) (u : Value), BindsTo s fd ⟨[u], []⟩ [("script", u)]) ∧ ∀ base : Heap, (K w.params).In base → base.Ns mainGlobals mg → FnStill l.prog w (K w.params) mg base 10 fa fd ["script"] (sp_law (K w.params))) :
    PySem.W.WalkO q loose XP YP l.row.toRowW d [] (fun f vs => PySem.call f vs) :=
  still_walk (n := 63) (k := 10) (x := "script") (sp := fun w => sp_law (K w.params)) hn (by decide) hdf ⟨rfl, by decide, by decide⟩ hY F (fun _ _ a ns hl _ hS => ⟨a, ns, rfl, hS, hl, fun _ => rfl⟩) fun _ _ _ _ z => z
end My

open PySem PySem.W PyProof.Rows in
set_option maxRecDepth 100000 in
set_option maxHeartbeats 0 in
theorem PySem.Challenge.cw_lossway_k02_ring_refuses_holds : PySem.Challenge.rw_lossway_k02_ring_refuses.Holds := by
  w_on; o_law; k_head; (case hw => w_witness2)
  k_fill
  refine My.walk (l := PySem.Challenge.rw_lossway_k02_ring_refuses) rfl rfl (fun w h Y => PySem.W.kIn_of Y) ?F
  case F =>
    intro w mg fa h KX G hmg
    refine' My.all_mk KX G hmg ?aC_Ring ?pg_Ring ?hd_Ring ?po_Ring ?sa_Ring ?mk_Ring ?kc_Ring ?n_Ring_size ?rd_Ring ?ga_Ring ?va_Ring_LEAST ?va_Ring_GREATEST ?aC_InvalidNumber ?xl_InvalidNumber ?sa_InvalidNumber ?xx_InvalidNumber ?xt_InvalidNumber ?xk_InvalidNumber ?xi_InvalidNumber ?xg_InvalidNumber ?xh_InvalidNumber ?xy_InvalidNumber ?xc_InvalidNumber ?xr_InvalidNumber ?nX_InvalidNumber ?aC_InvalidSetting ?xl_InvalidSetting ?sa_InvalidSetting ?xx_InvalidSetting ?xt_InvalidSetting ?xk_InvalidSetting ?xi_InvalidSetting ?xg_InvalidSetting ?xh_InvalidSetting ?xy_InvalidSetting ?xc_InvalidSetting ?xr_InvalidSetting ?nX_InvalidSetting ?aC_InvalidSegment ?xl_InvalidSegment ?sa_InvalidSegment ?xx_InvalidSegment ?xt_InvalidSegment ?xk_InvalidSegment ?xi_InvalidSegment ?xg_InvalidSegment ?xh_InvalidSegment ?xy_InvalidSegment ?xc_InvalidSegment ?xr_InvalidSegment ?nX_InvalidSegment ?aC_InvalidWords ?xl_InvalidWords ?sa_InvalidWords ?xx_InvalidWords ?xt_InvalidWords ?xk_InvalidWords ?xi_InvalidWords ?xg_InvalidWords ?xh_InvalidWords ?xy_InvalidWords ?xc_InvalidWords ?xr_InvalidWords ?nX_InvalidWords ?aC_NotAllowed ?xl_NotAllowed ?sa_NotAllowed ?xx_NotAllowed ?xt_NotAllowed ?xk_NotAllowed ?xi_NotAllowed ?xg_NotAllowed ?xh_NotAllowed ?xy_NotAllowed ?xc_NotAllowed ?xr_NotAllowed ?nX_NotAllowed ?aC_Broken ?xl_Broken ?sa_Broken ?xx_Broken ?xt_Broken ?xk_Broken ?xi_Broken ?xg_Broken ?xh_Broken ?xy_Broken ?xc_Broken ?xr_Broken ?nX_Broken ?aC_NoConnection ?xl_NoConnection ?sa_NoConnection ?xx_NoConnection ?xt_NoConnection ?xk_NoConnection ?xi_NoConnection ?xg_NoConnection ?xh_NoConnection ?xy_NoConnection ?xc_NoConnection ?xr_NoConnection ?nX_NoConnection ?aC_NoListener ?xl_NoListener ?sa_NoListener ?xx_NoListener ?xt_NoListener ?xk_NoListener ?xi_NoListener ?xg_NoListener ?xh_NoListener ?xy_NoListener ?xc_NoListener ?xr_NoListener ?nX_NoListener ?aC_PortTaken ?xl_PortTaken ?sa_PortTaken ?xx_PortTaken ?xt_PortTaken ?xk_PortTaken ?xi_PortTaken ?xg_PortTaken ?xh_PortTaken ?xy_PortTaken ?xc_PortTaken ?xr_PortTaken ?nX_PortTaken ?aC_StationDown ?pq_StationDown ?xk_StationDown ?xg_StationDown ?xh_StationDown ?xx_StationDown ?xy_StationDown ?xc_StationDown ?xr_StationDown ?aC_TooMany ?xl_TooMany ?sa_TooMany ?xx_TooMany ?xt_TooMany ?xk_TooMany ?xi_TooMany ?xg_TooMany ?xh_TooMany ?xy_TooMany ?xc_TooMany ?xr_TooMany ?nX_TooMany ?aC_InvalidFate ?xl_InvalidFate ?sa_InvalidFate ?xx_InvalidFate ?xt_InvalidFate ?xk_InvalidFate ?xi_InvalidFate ?xg_InvalidFate ?xh_InvalidFate ?xy_InvalidFate ?xc_InvalidFate ?xr_InvalidFate ?nX_InvalidFate_side ?nX_InvalidFate_place ?aC_InvalidTrace ?xl_InvalidTrace ?sa_InvalidTrace ?xx_InvalidTrace ?xt_InvalidTrace ?xk_InvalidTrace ?xi_InvalidTrace ?xg_InvalidTrace ?xh_InvalidTrace ?xy_InvalidTrace ?xc_InvalidTrace ?xr_InvalidTrace ?nX_InvalidTrace ?aC_InvalidDeed ?xl_InvalidDeed ?sa_InvalidDeed ?xx_InvalidDeed ?xt_InvalidDeed ?xk_InvalidDeed ?xi_InvalidDeed ?xg_InvalidDeed ?xh_InvalidDeed ?xy_InvalidDeed ?xc_InvalidDeed ?xr_InvalidDeed ?nX_InvalidDeed ?aC_NothingLeft ?pq_NothingLeft ?xk_NothingLeft ?xg_NothingLeft ?xh_NothingLeft ?xx_NothingLeft ?xy_NothingLeft ?xc_NothingLeft ?xr_NothingLeft ?aC_Stopped ?xl_Stopped ?sa_Stopped ?xx_Stopped ?xt_Stopped ?xk_Stopped ?xi_Stopped ?xg_Stopped ?xh_Stopped ?xy_Stopped ?xc_Stopped ?xr_Stopped ?nX_Stopped ?aC_InvalidLine ?xl_InvalidLine ?sa_InvalidLine ?xx_InvalidLine ?xt_InvalidLine ?xk_InvalidLine ?xi_InvalidLine ?xg_InvalidLine ?xh_InvalidLine ?xy_InvalidLine ?xc_InvalidLine ?xr_InvalidLine ?nX_InvalidLine ?aC_WrongSum ?xl_WrongSum ?sa_WrongSum ?xx_WrongSum ?xt_WrongSum ?xk_WrongSum ?xi_WrongSum ?xg_WrongSum ?xh_WrongSum ?xy_WrongSum ?xc_WrongSum ?xr_WrongSum ?nX_WrongSum ?aC_LossError ?x_get ?x_tk ?Me_InvalidSetting_InvalidSetting ?Me_InvalidNumber_InvalidNumber ?xf_InvalidNumber_init_ ?l_InvalidNumber_init_ ?e_InvalidNumber_init_ ?k_InvalidNumber_init_ ?xf_InvalidSetting_init_ ?l_InvalidSetting_init_ ?e_InvalidSetting_init_ ?k_InvalidSetting_init_ ?xf_InvalidSegment_init_ ?l_InvalidSegment_init_ ?e_InvalidSegment_init_ ?k_InvalidSegment_init_ ?xf_InvalidWords_init_ ?l_InvalidWords_init_ ?e_InvalidWords_init_ ?k_InvalidWords_init_ ?xf_NotAllowed_init_ ?l_NotAllowed_init_ ?e_NotAllowed_init_ ?k_NotAllowed_init_ ?xf_Broken_init_ ?l_Broken_init_ ?e_Broken_init_ ?k_Broken_init_ ?xf_NoConnection_init_ ?l_NoConnection_init_ ?e_NoConnection_init_ ?k_NoConnection_init_ ?xf_NoListener_init_ ?l_NoListener_init_ ?e_NoListener_init_ ?k_NoListener_init_ ?xf_PortTaken_init_ ?l_PortTaken_init_ ?e_PortTaken_init_ ?k_PortTaken_init_ ?xf_TooMany_init_ ?l_TooMany_init_ ?e_TooMany_init_ ?k_TooMany_init_ ?xf_InvalidFate_init_ ?l_InvalidFate_init_ ?e_InvalidFate_init_ ?k_InvalidFate_init_ ?xf_InvalidTrace_init_ ?l_InvalidTrace_init_ ?e_InvalidTrace_init_ ?k_InvalidTrace_init_ ?xf_InvalidDeed_init_ ?l_InvalidDeed_init_ ?e_InvalidDeed_init_ ?k_InvalidDeed_init_ ?xf_Stopped_init_ ?l_Stopped_init_ ?e_Stopped_init_ ?k_Stopped_init_ ?xf_InvalidLine_init_ ?l_InvalidLine_init_ ?e_InvalidLine_init_ ?k_InvalidLine_init_ ?a_is_integer_ ?l_is_integer ?e_is_integer ?k_is_integer ?a_is_between_ ?l_is_between ?e_is_between ?k_is_between ?a_Ring_init__ ?i_Ring_init_ ?l_Ring_init_ ?e_Ring_init_ ?k_Ring_init_ ?a_Ring_of_bits_ ?rc_Ring_of_bits ?fi_Ring_of_bits ?l_Ring_of_bits ?e_Ring_of_bits ?k_Ring_of_bits ?a_Ring_contains__ ?i_Ring_contains_ ?l_Ring_contains_ ?e_Ring_contains_ ?k_Ring_contains_ ?a_Ring_eq__ ?i_Ring_eq_ ?l_Ring_eq_ ?e_Ring_eq_ ?k_Ring_eq_ ?a_Ring_wrap_ ?i_Ring_wrap ?l_Ring_wrap ?e_Ring_wrap ?k_Ring_wrap ?a_Ring_unwrap_ ?i_Ring_unwrap ?l_Ring_unwrap ?e_Ring_unwrap ?k_Ring_unwrap ?a_Ring_gap_ ?i_Ring_gap ?l_Ring_gap ?e_Ring_gap ?k_Ring_gap ?a_Ring_before_ ?i_Ring_before ?l_Ring_before ?e_Ring_before ?k_Ring_before ?a_Ring_within_ ?i_Ring_within ?l_Ring_within ?e_Ring_within ?k_Ring_within ?a_Ring_require_ ?i_Ring_require ?l_Ring_require ?e_Ring_require ?k_Ring_require ?a_is_size_ ?l_is_size ?e_is_size ?k_is_size ?a__law_purse_ ?l__law_purse ?e__law_purse ?k__law_purse ?a__law_draw_ ?l__law_draw ?e__law_draw ?k__law_draw ?a__law_number_ ?l__law_number ?e__law_number ?k__law_number ?a__law_is_ ?l__law_is ?e__law_is ?k__law_is ?a__law_truth_ ?l__law_truth ?e__law_truth ?k__law_truth ?a__law_width_ ?l__law_width ?e__law_width ?k__law_width ?a__law_error_ ?l__law_error ?e__law_error ?k__law_error ?a__law_classes_ ?l__law_classes ?e__law_classes ?k__law_classes ?a__law_numbers_ ?l__law_numbers ?e__law_numbers ?k__law_numbers ?a__law_string_ ?l__law_string ?e__law_string ?k__law_string ?a__law_keeps_ ?l__law_keeps ?e__law_keeps ?k__law_keeps ?a__law_errors_ ?l__law_errors ?e__law_errors ?k__law_errors ?a__law_kind_ ?l__law_kind ?e__law_kind ?k__law_kind ?a__law_is_size_ ?l__law_is_size ?e__law_is_size ?k__law_is_size ?a__law_sized_ ?l__law_sized ?e__law_sized ?k__law_sized ?a__law_bitten_ ?l__law_bitten ?e__law_bitten ?k__law_bitten ?a__law_sizes_ ?l__law_sizes ?e__law_sizes ?k__law_sizes ?a__law_odd_ ?l__law_odd ?e__law_odd ?k__law_odd ?a__law_answer_ ?l__law_answer ?e__law_answer ?k__law_answer ?a__law_wanted_ ?l__law_wanted ?e__law_wanted ?k__law_wanted ?a__law_call_ ?l__law_call ?e__law_call ?k__law_call ?a__law_equals_ ?l__law_equals ?e__law_equals ?k__law_equals ?a_law_ ?l_law ?e_law ?k_law ?KR_InvalidNumber ?KR_InvalidSetting ?KR_InvalidSegment ?KR_InvalidWords ?KR_NotAllowed ?KR_Broken ?KR_NoConnection ?KR_NoListener ?KR_PortTaken ?KR_StationDown ?KR_TooMany ?KR_InvalidFate ?KR_InvalidTrace ?KR_InvalidDeed ?KR_NothingLeft ?KR_Stopped ?KR_InvalidLine ?KR_WrongSum ?KR_NoneType ?KR_bool ?KR_int ?KR_str ?KR_tuple ?KR_list ?KR_dict ?KR_Ring ?sub_NoneType ?sub_bool ?sub_int ?sub_str ?sub_tuple ?sub_list ?sub_dict ?ri_class ?ri_mro ?ri_get ?ri_tk ?z_ValueError ?z_bool ?z_classmethod ?z_int ?z_isinstance ?z_len ?z_max ?z_min ?z_range ?z_repr ?z_str ?z_tuple ?xm__InvalidNumber ?xm__InvalidSetting ?xm__InvalidSegment ?xm__InvalidWords ?xm__NotAllowed ?xm__Broken ?xm__NoConnection ?xm__NoListener ?xm__PortTaken ?xm__TooMany ?xm__InvalidFate ?xm__InvalidTrace ?xm__InvalidDeed ?xm__Stopped ?xm__InvalidLine ?xm__WrongSum ?w_Ring_LEAST ?w_Ring_GREATEST
    (case aC_Ring => k_is)
    (case pg_Ring => k_is)
    (case hd_Ring => k_is)
    (case po_Ring => k_is)
    (case sa_Ring => k_is)
    (case mk_Ring => k_is)
    (case kc_Ring => k_is)
    (case n_Ring_size => k_is)
    (case rd_Ring => k_is)
    (case ga_Ring => k_is)
    (case va_Ring_LEAST => k_is)
    (case va_Ring_GREATEST => k_is)
    (case aC_InvalidNumber => k_is)
    (case xl_InvalidNumber => k_is)
    (case sa_InvalidNumber => k_is)
    (case xx_InvalidNumber => k_is)
    (case xt_InvalidNumber => k_is)
    (case xk_InvalidNumber => k_is)
    (case xi_InvalidNumber => k_is)
    (case xg_InvalidNumber => k_is)
    (case xh_InvalidNumber => k_is)
    (case xy_InvalidNumber => k_is)
    (case xc_InvalidNumber => k_is)
    (case xr_InvalidNumber => k_is)
    (case nX_InvalidNumber => k_is)
    (case aC_InvalidSetting => k_is)
    (case xl_InvalidSetting => k_is)
    (case sa_InvalidSetting => k_is)
    (case xx_InvalidSetting => k_is)
    (case xt_InvalidSetting => k_is)
    (case xk_InvalidSetting => k_is)
    (case xi_InvalidSetting => k_is)
    (case xg_InvalidSetting => k_is)
    (case xh_InvalidSetting => k_is)
    (case xy_InvalidSetting => k_is)
    (case xc_InvalidSetting => k_is)
    (case xr_InvalidSetting => k_is)
    (case nX_InvalidSetting => k_is)
    (case aC_InvalidSegment => k_is)
    (case xl_InvalidSegment => k_is)
    (case sa_InvalidSegment => k_is)
    (case xx_InvalidSegment => k_is)
    (case xt_InvalidSegment => k_is)
    (case xk_InvalidSegment => k_is)
    (case xi_InvalidSegment => k_is)
    (case xg_InvalidSegment => k_is)
    (case xh_InvalidSegment => k_is)
    (case xy_InvalidSegment => k_is)
    (case xc_InvalidSegment => k_is)
    (case xr_InvalidSegment => k_is)
    (case nX_InvalidSegment => k_is)
    (case aC_InvalidWords => k_is)
    (case xl_InvalidWords => k_is)
    (case sa_InvalidWords => k_is)
    (case xx_InvalidWords => k_is)
    (case xt_InvalidWords => k_is)
    (case xk_InvalidWords => k_is)
    (case xi_InvalidWords => k_is)
    (case xg_InvalidWords => k_is)
    (case xh_InvalidWords => k_is)
    (case xy_InvalidWords => k_is)
    (case xc_InvalidWords => k_is)
    (case xr_InvalidWords => k_is)
    (case nX_InvalidWords => k_is)
    (case aC_NotAllowed => k_is)
    (case xl_NotAllowed => k_is)
    (case sa_NotAllowed => k_is)
    (case xx_NotAllowed => k_is)
    (case xt_NotAllowed => k_is)
    (case xk_NotAllowed => k_is)
    (case xi_NotAllowed => k_is)
    (case xg_NotAllowed => k_is)
    (case xh_NotAllowed => k_is)
    (case xy_NotAllowed => k_is)
    (case xc_NotAllowed => k_is)
    (case xr_NotAllowed => k_is)
    (case nX_NotAllowed => k_is)
    (case aC_Broken => k_is)
    (case xl_Broken => k_is)
    (case sa_Broken => k_is)
    (case xx_Broken => k_is)
    (case xt_Broken => k_is)
    (case xk_Broken => k_is)
    (case xi_Broken => k_is)
    (case xg_Broken => k_is)
    (case xh_Broken => k_is)
    (case xy_Broken => k_is)
    (case xc_Broken => k_is)
    (case xr_Broken => k_is)
    (case nX_Broken => k_is)
    (case aC_NoConnection => k_is)
    (case xl_NoConnection => k_is)
    (case sa_NoConnection => k_is)
    (case xx_NoConnection => k_is)
    (case xt_NoConnection => k_is)
    (case xk_NoConnection => k_is)
    (case xi_NoConnection => k_is)
    (case xg_NoConnection => k_is)
    (case xh_NoConnection => k_is)
    (case xy_NoConnection => k_is)
    (case xc_NoConnection => k_is)
    (case xr_NoConnection => k_is)
    (case nX_NoConnection => k_is)
    (case aC_NoListener => k_is)
    (case xl_NoListener => k_is)
    (case sa_NoListener => k_is)
    (case xx_NoListener => k_is)
    (case xt_NoListener => k_is)
    (case xk_NoListener => k_is)
    (case xi_NoListener => k_is)
    (case xg_NoListener => k_is)
    (case xh_NoListener => k_is)
    (case xy_NoListener => k_is)
    (case xc_NoListener => k_is)
    (case xr_NoListener => k_is)
    (case nX_NoListener => k_is)
    (case aC_PortTaken => k_is)
    (case xl_PortTaken => k_is)
    (case sa_PortTaken => k_is)
    (case xx_PortTaken => k_is)
    (case xt_PortTaken => k_is)
    (case xk_PortTaken => k_is)
    (case xi_PortTaken => k_is)
    (case xg_PortTaken => k_is)
    (case xh_PortTaken => k_is)
    (case xy_PortTaken => k_is)
    (case xc_PortTaken => k_is)
    (case xr_PortTaken => k_is)
    (case nX_PortTaken => k_is)
    (case aC_StationDown => k_is)
    (case pq_StationDown => k_exc)
    (case xk_StationDown => k_is)
    (case xg_StationDown => k_is)
    (case xh_StationDown => k_is)
    (case xx_StationDown => k_is)
    (case xy_StationDown => k_is)
    (case xc_StationDown => k_is)
    (case xr_StationDown => k_is)
    (case aC_TooMany => k_is)
    (case xl_TooMany => k_is)
    (case sa_TooMany => k_is)
    (case xx_TooMany => k_is)
    (case xt_TooMany => k_is)
    (case xk_TooMany => k_is)
    (case xi_TooMany => k_is)
    (case xg_TooMany => k_is)
    (case xh_TooMany => k_is)
    (case xy_TooMany => k_is)
    (case xc_TooMany => k_is)
    (case xr_TooMany => k_is)
    (case nX_TooMany => k_is)
    (case aC_InvalidFate => k_is)
    (case xl_InvalidFate => k_is)
    (case sa_InvalidFate => k_is)
    (case xx_InvalidFate => k_is)
    (case xt_InvalidFate => k_is)
    (case xk_InvalidFate => k_is)
    (case xi_InvalidFate => k_is)
    (case xg_InvalidFate => k_is)
    (case xh_InvalidFate => k_is)
    (case xy_InvalidFate => k_is)
    (case xc_InvalidFate => k_is)
    (case xr_InvalidFate => k_is)
    (case nX_InvalidFate_side => k_is)
    (case nX_InvalidFate_place => k_is)
    (case aC_InvalidTrace => k_is)
    (case xl_InvalidTrace => k_is)
    (case sa_InvalidTrace => k_is)
    (case xx_InvalidTrace => k_is)
    (case xt_InvalidTrace => k_is)
    (case xk_InvalidTrace => k_is)
    (case xi_InvalidTrace => k_is)
    (case xg_InvalidTrace => k_is)
    (case xh_InvalidTrace => k_is)
    (case xy_InvalidTrace => k_is)
    (case xc_InvalidTrace => k_is)
    (case xr_InvalidTrace => k_is)
    (case nX_InvalidTrace => k_is)
    (case aC_InvalidDeed => k_is)
    (case xl_InvalidDeed => k_is)
    (case sa_InvalidDeed => k_is)
    (case xx_InvalidDeed => k_is)
    (case xt_InvalidDeed => k_is)
    (case xk_InvalidDeed => k_is)
    (case xi_InvalidDeed => k_is)
    (case xg_InvalidDeed => k_is)
    (case xh_InvalidDeed => k_is)
    (case xy_InvalidDeed => k_is)
    (case xc_InvalidDeed => k_is)
    (case xr_InvalidDeed => k_is)
    (case nX_InvalidDeed => k_is)
    (case aC_NothingLeft => k_is)
    (case pq_NothingLeft => k_exc)
    (case xk_NothingLeft => k_is)
    (case xg_NothingLeft => k_is)
    (case xh_NothingLeft => k_is)
    (case xx_NothingLeft => k_is)
    (case xy_NothingLeft => k_is)
    (case xc_NothingLeft => k_is)
    (case xr_NothingLeft => k_is)
    (case aC_Stopped => k_is)
    (case xl_Stopped => k_is)
    (case sa_Stopped => k_is)
    (case xx_Stopped => k_is)
    (case xt_Stopped => k_is)
    (case xk_Stopped => k_is)
    (case xi_Stopped => k_is)
    (case xg_Stopped => k_is)
    (case xh_Stopped => k_is)
    (case xy_Stopped => k_is)
    (case xc_Stopped => k_is)
    (case xr_Stopped => k_is)
    (case nX_Stopped => k_is)
    (case aC_InvalidLine => k_is)
    (case xl_InvalidLine => k_is)
    (case sa_InvalidLine => k_is)
    (case xx_InvalidLine => k_is)
    (case xt_InvalidLine => k_is)
    (case xk_InvalidLine => k_is)
    (case xi_InvalidLine => k_is)
    (case xg_InvalidLine => k_is)
    (case xh_InvalidLine => k_is)
    (case xy_InvalidLine => k_is)
    (case xc_InvalidLine => k_is)
    (case xr_InvalidLine => k_is)
    (case nX_InvalidLine => k_is)
    (case aC_WrongSum => k_is)
    (case xl_WrongSum => k_is)
    (case sa_WrongSum => k_is)
    (case xx_WrongSum => k_is)
    (case xt_WrongSum => k_is)
    (case xk_WrongSum => k_is)
    (case xi_WrongSum => k_is)
    (case xg_WrongSum => k_is)
    (case xh_WrongSum => k_is)
    (case xy_WrongSum => k_is)
    (case xc_WrongSum => k_is)
    (case xr_WrongSum => k_is)
    (case nX_WrongSum => k_is)
    (case aC_LossError => k_is)
    (case x_get => k_is)
    (case x_tk => k_is)
    (case Me_InvalidSetting_InvalidSetting => kts_exm)
    (case Me_InvalidNumber_InvalidNumber => kts_exm)
    (case xf_InvalidNumber_init_ => k_is)
    (case l_InvalidNumber_init_ => k_is)
    (case e_InvalidNumber_init_ => k_is)
    (case k_InvalidNumber_init_ => k_is)
    (case xf_InvalidSetting_init_ => k_is)
    (case l_InvalidSetting_init_ => k_is)
    (case e_InvalidSetting_init_ => k_is)
    (case k_InvalidSetting_init_ => k_is)
    (case xf_InvalidSegment_init_ => k_is)
    (case l_InvalidSegment_init_ => k_is)
    (case e_InvalidSegment_init_ => k_is)
    (case k_InvalidSegment_init_ => k_is)
    (case xf_InvalidWords_init_ => k_is)
    (case l_InvalidWords_init_ => k_is)
    (case e_InvalidWords_init_ => k_is)
    (case k_InvalidWords_init_ => k_is)
    (case xf_NotAllowed_init_ => k_is)
    (case l_NotAllowed_init_ => k_is)
    (case e_NotAllowed_init_ => k_is)
    (case k_NotAllowed_init_ => k_is)
    (case xf_Broken_init_ => k_is)
    (case l_Broken_init_ => k_is)
    (case e_Broken_init_ => k_is)
    (case k_Broken_init_ => k_is)
    (case xf_NoConnection_init_ => k_is)
    (case l_NoConnection_init_ => k_is)
    (case e_NoConnection_init_ => k_is)
    (case k_NoConnection_init_ => k_is)
    (case xf_NoListener_init_ => k_is)
    (case l_NoListener_init_ => k_is)
    (case e_NoListener_init_ => k_is)
    (case k_NoListener_init_ => k_is)
    (case xf_PortTaken_init_ => k_is)
    (case l_PortTaken_init_ => k_is)
    (case e_PortTaken_init_ => k_is)
    (case k_PortTaken_init_ => k_is)
    (case xf_TooMany_init_ => k_is)
    (case l_TooMany_init_ => k_is)
    (case e_TooMany_init_ => k_is)
    (case k_TooMany_init_ => k_is)
    (case xf_InvalidFate_init_ => k_is)
    (case l_InvalidFate_init_ => k_is)
    (case e_InvalidFate_init_ => k_is)
    (case k_InvalidFate_init_ => k_is)
    (case xf_InvalidTrace_init_ => k_is)
    (case l_InvalidTrace_init_ => k_is)
    (case e_InvalidTrace_init_ => k_is)
    (case k_InvalidTrace_init_ => k_is)
    (case xf_InvalidDeed_init_ => k_is)
    (case l_InvalidDeed_init_ => k_is)
    (case e_InvalidDeed_init_ => k_is)
    (case k_InvalidDeed_init_ => k_is)
    (case xf_Stopped_init_ => k_is)
    (case l_Stopped_init_ => k_is)
    (case e_Stopped_init_ => k_is)
    (case k_Stopped_init_ => k_is)
    (case xf_InvalidLine_init_ => k_is)
    (case l_InvalidLine_init_ => k_is)
    (case e_InvalidLine_init_ => k_is)
    (case k_InvalidLine_init_ => k_is)
    (case a_is_integer_ => k_is)
    (case l_is_integer => k_is)
    (case e_is_integer => k_is)
    (case k_is_integer => k_is)
    (case a_is_between_ => k_is)
    (case l_is_between => k_is)
    (case e_is_between => k_is)
    (case k_is_between => k_is)
    (case a_Ring_init__ => k_is)
    (case i_Ring_init_ => k_is)
    (case l_Ring_init_ => k_is)
    (case e_Ring_init_ => k_is)
    (case k_Ring_init_ => k_is)
    (case a_Ring_of_bits_ => k_is)
    (case rc_Ring_of_bits => k_is)
    (case fi_Ring_of_bits => k_is)
    (case l_Ring_of_bits => k_is)
    (case e_Ring_of_bits => k_is)
    (case k_Ring_of_bits => k_is)
    (case a_Ring_contains__ => k_is)
    (case i_Ring_contains_ => k_is)
    (case l_Ring_contains_ => k_is)
    (case e_Ring_contains_ => k_is)
    (case k_Ring_contains_ => k_is)
    (case a_Ring_eq__ => k_is)
    (case i_Ring_eq_ => k_is)
    (case l_Ring_eq_ => k_is)
    (case e_Ring_eq_ => k_is)
    (case k_Ring_eq_ => k_is)
    (case a_Ring_wrap_ => k_is)
    (case i_Ring_wrap => k_is)
    (case l_Ring_wrap => k_is)
    (case e_Ring_wrap => k_is)
    (case k_Ring_wrap => k_is)
    (case a_Ring_unwrap_ => k_is)
    (case i_Ring_unwrap => k_is)
    (case l_Ring_unwrap => k_is)
    (case e_Ring_unwrap => k_is)
    (case k_Ring_unwrap => k_is)
    (case a_Ring_gap_ => k_is)
    (case i_Ring_gap => k_is)
    (case l_Ring_gap => k_is)
    (case e_Ring_gap => k_is)
    (case k_Ring_gap => k_is)
    (case a_Ring_before_ => k_is)
    (case i_Ring_before => k_is)
    (case l_Ring_before => k_is)
    (case e_Ring_before => k_is)
    (case k_Ring_before => k_is)
    (case a_Ring_within_ => k_is)
    (case i_Ring_within => k_is)
    (case l_Ring_within => k_is)
    (case e_Ring_within => k_is)
    (case k_Ring_within => k_is)
    (case a_Ring_require_ => k_is)
    (case i_Ring_require => k_is)
    (case l_Ring_require => k_is)
    (case e_Ring_require => k_is)
    (case k_Ring_require => k_is)
    (case a_is_size_ => k_is)
    (case l_is_size => k_is)
    (case e_is_size => k_is)
    (case k_is_size => k_is)
    (case a__law_purse_ => k_is)
    (case l__law_purse => k_is)
    (case e__law_purse => k_is)
    (case k__law_purse => k_is)
    (case a__law_draw_ => k_is)
    (case l__law_draw => k_is)
    (case e__law_draw => k_is)
    (case k__law_draw => k_is)
    (case a__law_number_ => k_is)
    (case l__law_number => k_is)
    (case e__law_number => k_is)
    (case k__law_number => k_is)
    (case a__law_is_ => k_is)
    (case l__law_is => k_is)
    (case e__law_is => k_is)
    (case k__law_is => k_is)
    (case a__law_truth_ => k_is)
    (case l__law_truth => k_is)
    (case e__law_truth => k_is)
    (case k__law_truth => k_is)
    (case a__law_width_ => k_is)
    (case l__law_width => k_is)
    (case e__law_width => k_is)
    (case k__law_width => k_is)
    (case a__law_error_ => k_is)
    (case l__law_error => k_is)
    (case e__law_error => k_is)
    (case k__law_error => k_is)
    (case a__law_classes_ => k_is)
    (case l__law_classes => k_is)
    (case e__law_classes => k_is)
    (case k__law_classes => k_is)
    (case a__law_numbers_ => k_is)
    (case l__law_numbers => k_is)
    (case e__law_numbers => k_is)
    (case k__law_numbers => k_is)
    (case a__law_string_ => k_is)
    (case l__law_string => k_is)
    (case e__law_string => k_is)
    (case k__law_string => k_is)
    (case a__law_keeps_ => k_is)
    (case l__law_keeps => k_is)
    (case e__law_keeps => k_is)
    (case k__law_keeps => k_is)
    (case a__law_errors_ => k_is)
    (case l__law_errors => k_is)
    (case e__law_errors => k_is)
    (case k__law_errors => k_is)
    (case a__law_kind_ => k_is)
    (case l__law_kind => k_is)
    (case e__law_kind => k_is)
    (case k__law_kind => k_is)
    (case a__law_is_size_ => k_is)
    (case l__law_is_size => k_is)
    (case e__law_is_size => k_is)
    (case k__law_is_size => k_is)
    (case a__law_sized_ => k_is)
    (case l__law_sized => k_is)
    (case e__law_sized => k_is)
    (case k__law_sized => k_is)
    (case a__law_bitten_ => k_is)
    (case l__law_bitten => k_is)
    (case e__law_bitten => k_is)
    (case k__law_bitten => k_is)
    (case a__law_sizes_ => k_is)
    (case l__law_sizes => k_is)
    (case e__law_sizes => k_is)
    (case k__law_sizes => k_is)
    (case a__law_odd_ => k_is)
    (case l__law_odd => k_is)
    (case e__law_odd => k_is)
    (case k__law_odd => k_is)
    (case a__law_answer_ => k_is)
    (case l__law_answer => k_is)
    (case e__law_answer => k_is)
    (case k__law_answer => k_is)
    (case a__law_wanted_ => k_is)
    (case l__law_wanted => k_is)
    (case e__law_wanted => k_is)
    (case k__law_wanted => k_is)
    (case a__law_call_ => k_is)
    (case l__law_call => k_is)
    (case e__law_call => k_is)
    (case k__law_call => k_is)
    (case a__law_equals_ => k_is)
    (case l__law_equals => k_is)
    (case e__law_equals => k_is)
    (case k__law_equals => k_is)
    (case a_law_ => k_is)
    (case l_law => k_is)
    (case e_law => k_is)
    (case k_law => k_is)
    (case KR_InvalidNumber => (repeat (refine My.KRow.cons (by kit_is) ?_)); exact My.KRow.nil)
    (case KR_InvalidSetting => (repeat (refine My.KRow.cons (by kit_is) ?_)); exact My.KRow.nil)
    (case KR_InvalidSegment => (repeat (refine My.KRow.cons (by kit_is) ?_)); exact My.KRow.nil)
    (case KR_InvalidWords => (repeat (refine My.KRow.cons (by kit_is) ?_)); exact My.KRow.nil)
    (case KR_NotAllowed => (repeat (refine My.KRow.cons (by kit_is) ?_)); exact My.KRow.nil)
    (case KR_Broken => (repeat (refine My.KRow.cons (by kit_is) ?_)); exact My.KRow.nil)
    (case KR_NoConnection => (repeat (refine My.KRow.cons (by kit_is) ?_)); exact My.KRow.nil)
    (case KR_NoListener => (repeat (refine My.KRow.cons (by kit_is) ?_)); exact My.KRow.nil)
    (case KR_PortTaken => (repeat (refine My.KRow.cons (by kit_is) ?_)); exact My.KRow.nil)
    (case KR_StationDown => (repeat (refine My.KRow.cons (by kit_is) ?_)); exact My.KRow.nil)
    (case KR_TooMany => (repeat (refine My.KRow.cons (by kit_is) ?_)); exact My.KRow.nil)
    (case KR_InvalidFate => (repeat (refine My.KRow.cons (by kit_is) ?_)); exact My.KRow.nil)
    (case KR_InvalidTrace => (repeat (refine My.KRow.cons (by kit_is) ?_)); exact My.KRow.nil)
    (case KR_InvalidDeed => (repeat (refine My.KRow.cons (by kit_is) ?_)); exact My.KRow.nil)
    (case KR_NothingLeft => (repeat (refine My.KRow.cons (by kit_is) ?_)); exact My.KRow.nil)
    (case KR_Stopped => (repeat (refine My.KRow.cons (by kit_is) ?_)); exact My.KRow.nil)
    (case KR_InvalidLine => (repeat (refine My.KRow.cons (by kit_is) ?_)); exact My.KRow.nil)
    (case KR_WrongSum => (repeat (refine My.KRow.cons (by kit_is) ?_)); exact My.KRow.nil)
    (case KR_NoneType => (repeat (refine My.KRow.cons (by kit_is) ?_)); exact My.KRow.nil)
    (case KR_bool => (repeat (refine My.KRow.cons (by kit_is) ?_)); exact My.KRow.nil)
    (case KR_int => (repeat (refine My.KRow.cons (by kit_is) ?_)); exact My.KRow.nil)
    (case KR_str => (repeat (refine My.KRow.cons (by kit_is) ?_)); exact My.KRow.nil)
    (case KR_tuple => (repeat (refine My.KRow.cons (by kit_is) ?_)); exact My.KRow.nil)
    (case KR_list => (repeat (refine My.KRow.cons (by kit_is) ?_)); exact My.KRow.nil)
    (case KR_dict => (repeat (refine My.KRow.cons (by kit_is) ?_)); exact My.KRow.nil)
    (case KR_Ring => (repeat (refine My.KRow.cons (by kit_is) ?_)); exact My.KRow.nil)
    (case sub_NoneType => k_is)
    (case sub_bool => k_is)
    (case sub_int => k_is)
    (case sub_str => k_is)
    (case sub_tuple => k_is)
    (case sub_list => k_is)
    (case sub_dict => k_is)
    (case ri_class => k_is)
    (case ri_mro => k_is)
    (case ri_get => k_is)
    (case ri_tk => k_is)
    (case z_ValueError => k_is)
    (case z_bool => k_is)
    (case z_classmethod => k_is)
    (case z_int => k_is)
    (case z_isinstance => k_is)
    (case z_len => k_is)
    (case z_max => k_is)
    (case z_min => k_is)
    (case z_range => k_is)
    (case z_repr => k_is)
    (case z_str => k_is)
    (case z_tuple => k_is)
    (case xm__InvalidNumber => decide +kernel)
    (case xm__InvalidSetting => decide +kernel)
    (case xm__InvalidSegment => decide +kernel)
    (case xm__InvalidWords => decide +kernel)
    (case xm__NotAllowed => decide +kernel)
    (case xm__Broken => decide +kernel)
    (case xm__NoConnection => decide +kernel)
    (case xm__NoListener => decide +kernel)
    (case xm__PortTaken => decide +kernel)
    (case xm__TooMany => decide +kernel)
    (case xm__InvalidFate => decide +kernel)
    (case xm__InvalidTrace => decide +kernel)
    (case xm__InvalidDeed => decide +kernel)
    (case xm__Stopped => decide +kernel)
    (case xm__InvalidLine => decide +kernel)
    (case xm__WrongSum => decide +kernel)
    (case w_Ring_LEAST => exact ⟨_, rfl⟩)
    (case w_Ring_GREATEST => exact ⟨_, rfl⟩)
