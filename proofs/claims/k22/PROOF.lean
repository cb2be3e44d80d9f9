import PyProof.Rows.All
import Wide.All
import OpenK.AllK
import Wide.FinOn
import HandS.ForMost
import HandS.IsInst
import HandS.ClsMeth
import HandS.Codes
import HandS.Exc
import HandS.ExcOwn
import HandS.ExcInit
import HandS.ExcField
import HandS.ExcIs
import HandS.TryMany
import HandS.WordsExc
import HandS.CallSlots
import HandS.More
import KE.KExcIs
import KE.GoesEnum
import KE.GoesMore
import HandS.Defaults
import HandS.Property
import HandS.Zip
import HandS.Text
import HandS.Wide
import KE.KSuper
import KE.RegKSuper
import HandS.Nested
import HandS.Flt
import PySem.Challenge.RW_lossway_k22_curve_law
set_option Elab.async false
set_option maxRecDepth 100000
namespace My
open PySem L2
set_option linter.all false

/-! ### an own `in` -/
section
variable {X : Cx} {CX : CXT} {k : Nat} {C g : Addr} {fd : FuncData} {ps : List Str} {sp : Sp} {E : XK}
def rOwnIn (C : Addr) (m : Bool → Bool) (sp : Sp) (E : XK) : R2 := fun x y H Q => ∃ a dx fs, y = .ref a ∧ H a = some (.ins C dx fs) ∧ sp [.ref a, x] H (fun v H' => ∃ b, v = .bl b ∧ Q (.bl (m b)) H') E
theorem op_notInOwn (mm : Meth X.K C "__contains__" g) (F : FnOk X.prog X.w X.K X.mg X.base CX k g fd ps sp) (hr : Room k X.A) (hb : Binds X.K fd ps []) (hx : Passes CX X E) : OpR X (compareOp .NotIn) (rOwnIn C not sp E) := by
  intro pins s σ H x y v u Q I rx ry h
  obtain ⟨a, dx, fs, rfl, ha, q⟩ := h
  cases (show u = Value.ref a from ry)
  obtain ⟨mA, O, _⟩ := ins_get I.hok ha
  obtain ⟨od, J, _⟩ := O.look
  obtain ⟨m, hF⟩ := I.fr
  refine PySem.W.notIn_K hF I.ok.mod.kin J mm.at_ mm.fn ?_
  refine wpAny_mono (run_fn (us := [.ref a, v]) (vs := [.ref a, x]) (ds := []) (dvs := []) F hr hb .nil hx I (.cons rfl (.cons rx .nil)) q) (fun w s' z => ?_) fun _ _ x => x
  obtain ⟨z', H', I', rz, b, eb, qz⟩ := z
  subst eb
  cases (show w = Value.bool b from rz)
  exact wpAny_truthy_bool ⟨.bl (!b), H', I', rfl, qz⟩
theorem op_inOwn (mm : Meth X.K C "__contains__" g) (F : FnOk X.prog X.w X.K X.mg X.base CX k g fd ps sp) (hr : Room k X.A) (hb : Binds X.K fd ps []) (hx : Passes CX X E) : OpR X (compareOp .In) (rOwnIn C id sp E) := by
  intro pins s σ H x y v u Q I rx ry h
  obtain ⟨a, dx, fs, rfl, ha, q⟩ := h
  cases (show u = Value.ref a from ry)
  obtain ⟨mA, O, _⟩ := ins_get I.hok ha
  obtain ⟨od, J, _⟩ := O.look
  obtain ⟨m, hF⟩ := I.fr
  refine PySem.W.in_K hF I.ok.mod.kin J mm.at_ mm.fn ?_
  refine wpAny_mono (run_fn (us := [.ref a, v]) (vs := [.ref a, x]) (ds := []) (dvs := []) F hr hb .nil hx I (.cons rfl (.cons rx .nil)) q) (fun w s' z => ?_) fun _ _ x => x
  obtain ⟨z', H', I', rz, b, eb, qz⟩ := z
  subst eb
  cases (show w = Value.bool b from rz)
  exact wpAny_truthy_bool ⟨.bl b, H', I', rfl, qz⟩
end

/-! ### heaps -/
/-- all that was tracked stands, but what is at a -/
def SameX (a : Addr) (H H' : Hp) : Prop := ∀ b o, b ≠ a → H b = some o → H' b = some o
theorem SameX.refl {a : Addr} {H : Hp} : SameX a H H := fun _ _ _ h => h
theorem SameX.trans {a : Addr} {H H1 H2 : Hp} (x : SameX a H H1) (y : SameX a H1 H2) : SameX a H H2 := fun b o n h => y b o n (x b o n h)
theorem SameX.upd {a : Addr} {H : Hp} {o : HO} : SameX a H (L2.upd H a o) := fun b _ n h => by
  rw [upd_ne n]
  exact h
theorem SameX.upd' {a : Addr} {H H1 : Hp} {o : HO} (x : SameX a H H1) : SameX a H (L2.upd H1 a o) := x.trans .upd
theorem SameX.of {a : Addr} {H H1 : Hp} (x : Same H H1) : SameX a H H1 := fun b o _ h => x b o h
theorem Same.new {H : Hp} {p : Addr} {o : HO} (h : H p = none) : Same H (upd H p o) := fun b u e => by
  rw [upd_ne (ne_of_none e h)]
  exact e
theorem SqL.now {K : PySem.W.Frag} {H : Hp} {a : Addr} {xs : List V} (h : H a = some (.lst xs)) : SqL K H a xs := SqL.of h

/-! ### the purse -/
/-- a purse's rows -/
def pur (c : Addr) (p r n s : Int) : List V := [.ref c, .int p, .int r, .int n, .int s]
structure Purse (a c : Addr) (H : Hp) : Prop where
  ex : ∃ (cs : List Int) (p : Nat) (r n s : Int), H a = some (.lst (pur c p r n s)) ∧ H c = some (.lst (cs.map V.int)) ∧ (∀ x ∈ cs, 0 ≤ x) ∧ p ≤ cs.length ∧ cs.length ≤ 63 ∧ 0 ≤ r ∧ 0 ≤ s ∧ s < 2147483647
theorem pur_ne {H : Hp} {a c c' : Addr} {p r n s : Int} {cs : List Int} (h : H a = some (.lst (pur c p r n s))) (h' : H c' = some (.lst (cs.map V.int))) : c' ≠ a := ne_of h' h (by
  intro e
  injection e with e
  cases cs with
  | nil => cases e
  | cons x r => injection e with e1 _; cases e1)
theorem lk1 {m f : Str} {v : V} (h : (m == f) = false) : List.lookup m [(f, v)] = none := by
  simp only [List.lookup, h]
theorem bl_t {p : Prop} [Decidable p] (h : p) : V.bl (decide p) = V.bl true := congrArg V.bl (decide_eq_true h)
theorem bl_f {p : Prop} [Decidable p] (h : ¬ p) : V.bl (decide p) = V.bl false := congrArg V.bl (decide_eq_false h)
theorem bln_t {p : Prop} [Decidable p] (h : p) : V.bl (!decide p) = V.bl false := by rw [decide_eq_true h]; rfl
theorem bln_f {p : Prop} [Decidable p] (h : ¬ p) : V.bl (!decide p) = V.bl true := by rw [decide_eq_false h]; rfl
theorem int_ne {a b : Int} (h : ¬ a = b) : ¬ V.int a = V.int b := fun e => h (V.int.inj e)
theorem int_eq {a b : Int} (h : a = b) : V.int a = V.int b := congrArg V.int h

theorem Purse.there {a c : Addr} {H : Hp} (P : Purse a c H) : (∃ xs, H a = some (.lst xs)) ∧ ∃ ys, H c = some (.lst ys) := by
  obtain ⟨cs, p, r, n, s, h1, h2, _⟩ := P.ex
  exact ⟨⟨_, h1⟩, _, h2⟩
/-- a purse stands where both of its lists stand -/
theorem Purse.keep {a c : Addr} {H H' : Hp} (P : Purse a c H) (h : H' a = H a) (h' : H' c = H c) : Purse a c H' := by
  obtain ⟨cs, p, r, n, s, h1, h2, q⟩ := P.ex
  exact ⟨cs, p, r, n, s, h.trans h1, h'.trans h2, q⟩
theorem Purse.same {a c : Addr} {H H' : Hp} (P : Purse a c H) (s : Same H H') : Purse a c H' := by
  obtain ⟨cs, p, r, n, z, h1, h2, q⟩ := P.ex
  exact ⟨cs, p, r, n, z, s _ _ h1, s _ _ h2, q⟩
theorem Purse.on {a c b : Addr} {H H' : Hp} (P : Purse a c H) (s : SameX b H H') (na : a ≠ b) (nc : c ≠ b) : Purse a c H' := by
  obtain ⟨cs, p, r, n, z, h1, h2, q⟩ := P.ex
  exact ⟨cs, p, r, n, z, s _ _ na h1, s _ _ nc h2, q⟩
theorem small1000' {n : Nat} (h : n < 100000) : n < sizeLine := Nat.lt_of_lt_of_le h (by decide)
theorem sqT_sm {K : PySem.W.Frag} {H H' : Hp} {a : Addr} {xs : List V} (h : SqT K H a xs) (s : Same H H') : SqT K H' a xs := by
  rcases h with (h | ⟨o, h⟩) | h
  · exact .inl (.inl (s _ _ h))
  · exact .inl (.inr ⟨o, s _ _ h⟩)
  · exact .inr h
/-! ### several except clauses, each with or without a name -/
section
open PySem.Spec PyProof.Rows
variable {X : Cx}
/-- a clause: its class, the slot of its name, its suite -/
abbrev Cl := Value × Option Nat × (Addr → Value → Option Addr → TS)
def unN (D : Ends) (i : Nat) : Ends := { nx := fun σ H => D.nx (σ.set i none) H, rt := D.rt, bk := fun σ H => D.bk (σ.set i none) H, ct := fun σ H => D.ct (σ.set i none) H }
def clGo (D : Ends) (o : Option Nat) (t : TS) (a : Addr) (σ : L2.St) (H : Hp) : Prop := match o with
  | none => t D σ H
  | some i => t (unN D i) (σ.set i (some (.ref a))) H
def wCl (K : PySem.W.Frag) (Wout : WX) (D : Ends) : List Cl → WX
  | [] => Wout
  | (c, o, ts) :: r => fun cls d σ H => ∃ b, PySem.W.exmOne K cls c = some b ∧ (b = true → ∀ a, H a = none → clGo D o (ts a cls d) a σ H) ∧ (b = false → wCl K Wout D r cls d σ H)
inductive ClOk (X : Cx) : List ExceptHandler → List Cl → Prop
  | nil : ClOk X [] []
  | bare {x : Str} {c : Value} {ts : Addr → Value → Option Addr → TS} {b0 : Stmt} {su : List Stmt} {np ps : Pos} {hs : List ExceptHandler} {l : List Cl} (nm : Names X x c)
      (ok : ∀ (a : Addr) (oe : Obj) (cls : Value) (d : Option Addr) (pn : List (Addr × Obj)), Zc cls d oe → (∃ vs, oe.data = .fields vs) → PSs (X.suite a ((a, oe) :: pn)) (b0 :: su) (ts a cls d)) (rest : ClOk X hs l) :
      ClOk X (.ExceptHandler (some (.Name x np)) none (b0 :: su) ps :: hs) ((c, none, ts) :: l)
  | named {x n : Str} {i : Nat} {c : Value} {ts : Addr → Value → Option Addr → TS} {b0 : Stmt} {su : List Stmt} {np ps : Pos} {hs : List ExceptHandler} {l : List Cl} (nd : X.N.Nodup) (hi : X.N[i]? = some n) (lc : X.env.kindOf n = some .local) (nm : Names X x c)
      (ok : ∀ (a : Addr) (oe : Obj) (cls : Value) (d : Option Addr) (pn : List (Addr × Obj)), Zc cls d oe → (∃ vs, oe.data = .fields vs) → PSs (X.suite a ((a, oe) :: pn)) (b0 :: su) (ts a cls d)) (rest : ClOk X hs l) :
      ClOk X (.ExceptHandler (some (.Name x np)) (some n) (b0 :: su) ps :: hs) ((c, some i, ts) :: l)
theorem ps_try_cl {body : List Stmt} {h0 : ExceptHandler} {hs : List ExceptHandler} {l : List Cl} {pos : Pos} {tb : WX → TS} {Wout : WX} (st : X.stack = X.env :: X.outer) (fr : X.env.frame = some X.env.locals) (tk : Takes X Wout)
    (hb : ∀ (W : WX) (pn : List (Addr × Obj)) (xe : Value → Shared → Prop), Takes (X.tr pn xe) W → PassesOwn (model X.prog X.w) X.A X.env xe → PSs (X.tr pn xe) body (tb W))
    (hh : ClOk X (h0 :: hs) l) : PS X (.Try body (h0 :: hs) [] [] pos) (fun D σ H => tb (wCl X.K Wout D l) D σ H) := by
  refine ⟨fun pins s σ H D I h => ?_⟩
  have ok := I.ok
  have frs0 : X.A.frames = some (X.env :: X.outer) := by
    rw [ok.frames, st]
  refine wpAny_Try_except (wpAny_mono ((hb (wCl X.K Wout D l) (X.pn ++ pins) (fun e t1 => wpAny (model X.prog X.w) X.A (noteFrame e X.env) (fun _ t2 =>
    wpAny (model X.prog X.w) X.A (setFlight e none) (fun _ t3 => wpAny (model X.prog X.w) X.A (handleBy e X.env (h0 :: hs)) (SP X pins D) X.xe t3) X.xe t2) X.xe t1)
      (fun u s' xx => ?_) PassesOwn.looking).run [] s σ H D (I.toTry _) h) (fun f s1 hsp => ?_) (fun _ _ z => z))
  · obtain ⟨a, B, sI, pins', σ', H', cls, d, rfl, J', nb, up, sky, na, os, ag, w⟩ := xx
    have J := J'.ofTry ok
    have sky2 : Sky B (X.env :: X.outer) a (Zc cls d) X.env.locals s'.heap := by
      rw [← st]
      exact sky
    refine Sky.land Zc.steady frs0 fr sky2 fun g1 fl1 up1 => ?_
    have J1 : Inv X pins σ' H' { s' with heap := g1 } := J.landed nb fl1.1 (up.trans up1) os ag
    obtain ⟨o1, vs1, at1, z1, dt1⟩ := fl1.there
    have off : a ∉ frs (X.env :: X.outer) := fun hm => by
      obtain ⟨_, o', e', hnf⟩ := fl1.2.2.1.mem hm
      rw [at1] at e'
      cases e'
      exact hnf _ dt1
    have offL : a ≠ X.env.locals := fun z => off (List.mem_filterMap.mpr ⟨X.env, List.mem_cons_self, by rw [fr, z]⟩)
    have offF : a ∉ X.fs := fun hm => by
      obtain ⟨e, he, q⟩ := List.mem_filterMap.mp hm
      exact off (List.mem_filterMap.mpr ⟨e, List.mem_cons_of_mem _ he, q⟩)
    have S1 := J1.suite at1 dt1 na offL offF
    have LT : PySem.W.Looks (model X.prog X.w) g1 (typeOf (.ref a)) cls := fun A Q E s k q => wpAny_typeOf_ref (k _ _ at1) (by rw [z1.1]; exact q)
    have ask : ∀ {x : Str} {np : Pos} {c : Value}, Names X x c → ∀ {Q : Value → Shared → Prop} {E : Value → Shared → Prop}, Q c { s' with heap := g1 } →
        wpAny (model X.prog X.w) (X.A.mark (some (.ref a))) (eval (.Name x np) X.env) Q E { s' with heap := g1 } := fun {x np c} nm {Q E} q => by
      obtain ⟨hg, hdb, h1 | ⟨h1, h2, h3⟩⟩ := nm
      · exact ld_glob (X := X.suite a ((a, o1) :: (X.pn ++ pins))) S1 hg h1 q hdb
      · exact ld_blt (X := X.suite a ((a, o1) :: (X.pn ++ pins))) S1 hg h1 h2 q h3 hdb
    have go : ∀ {hs' : List ExceptHandler} {l' : List Cl}, ClOk X hs' l' → wCl X.K Wout D l' cls d σ' H' → wpAny (model X.prog X.w) X.A (handleBy (.ref a) X.env hs') (SP X pins D) X.xe { s' with heap := g1 } := by
      intro hs' l' hk
      induction hk with
      | nil =>
        intro w
        refine wpAny_handleBy_nil ?_
        obtain ⟨_, _, _, oe, vs, Tr, _, _, he, hz, hd, h1, _⟩ := id fl1
        unfold PySem.passOn
        refine wpAny_bind (wpAny_field he hd h1 ?_)
        rw [if_neg (show ¬ ((Value.ref Tr == Value.none) = true) from by simp)]
        have last : wpAny (model X.prog X.w) X.A (setFlight (.ref a) X.env.frame) (fun _ t => wpAny (model X.prog X.w) X.A (throw (.ref a) : Sem Flow) (SP X pins D) X.xe t) X.xe { s' with heap := g1 } := by
          rw [fr]
          refine HandSPX.setFlight_upZ fl1 fun g2 hh2 up2 => wpAny_throw (tk _ _ ?_)
          exact ⟨a, B, sI, pins, σ', H', cls, d, rfl, J, nb, (up.trans up1).trans up2, .inr (.inr (by rw [st]; exact hh2)), na, os, ag, w⟩
        first
          | exact wpAny_bind (wpAny_pure (wpAny_bind last))
          | exact wpAny_bind last
      | bare nm su rest ih =>
        intro w
        obtain ⟨b, hb1, yes, no⟩ := w
        have LM := PySem.W.exm_one (M := model X.prog X.w) J1.kIn LT hb1
        refine wpAny_handleBy_cons (codeAny_handlers_test (ask nm (LM.here ?_))) (fun q => by cases q)
        cases b with
        | false => exact ih (no rfl)
        | true =>
          refine codeAny_handlers_suite (HandSPX.lands_againZ fl1 fun g2 fl2 up2 => ?_)
          have J2 : Inv X pins σ' H' { s' with heap := g2 } := J.landed nb fl2.1 ((up.trans up1).trans up2) os ag
          obtain ⟨o2, vs2, at2, z2, dt2⟩ := fl2.there
          refine wpAny_mono ((su a o2 cls d (X.pn ++ pins) z2 ⟨_, dt2⟩).run [] _ _ H' _ (J2.suite at2 dt2 na offL offF) (yes rfl a na)) (fun f t hsp => ?_) (fun _ _ z => z.elim)
          cases f with
          | ret u =>
            obtain ⟨v6, σ6, H6, S6, r6, q6⟩ := hsp
            exact ⟨_, _, _, S6.unsuite ok, r6, q6⟩
          | next => exact let ⟨_, _, S6, q6⟩ := hsp; ⟨_, _, S6.unsuite ok, q6⟩
          | brk => exact let ⟨_, _, S6, q6⟩ := hsp; ⟨_, _, S6.unsuite ok, q6⟩
          | cont => exact let ⟨_, _, S6, q6⟩ := hsp; ⟨_, _, S6.unsuite ok, q6⟩
      | named nd hi lc nm su rest ih =>
        intro w
        obtain ⟨b, hb1, yes, no⟩ := w
        have LM := PySem.W.exm_one (M := model X.prog X.w) J1.kIn LT hb1
        refine wpAny_handleBy_cons (codeAny_handlers_test (ask nm (LM.here ?_))) (fun q => by cases q)
        cases b with
        | false => exact ih (no rfl)
        | true =>
          refine codeAny_handlers_suite_as (HandSPX.lands_againZ fl1 fun g2 fl2 up2 => ?_)
          have J2 : Inv X pins σ' H' { s' with heap := g2 } := J.landed nb fl2.1 ((up.trans up1).trans up2) os ag
          obtain ⟨o2, vs2, at2, z2, dt2⟩ := fl2.there
          refine store_ok (X := X.suite a ((a, o2) :: (X.pn ++ pins))) (v := .ref a) (J2.suite at2 dt2 na offL offF) nd hi (.inl lc) rfl (fun t S5 => ?_) (.inr lc)
          refine wpAny_mono ((su a o2 cls d (X.pn ++ pins) z2 ⟨_, dt2⟩).run [] t _ H' _ S5 (yes rfl a na)) (fun f t6 hsp => ?_) (fun _ _ z => z.elim)
          cases f with
          | next =>
            obtain ⟨σ6, H6, S6, q6⟩ := hsp
            exact gone_ok (S6.unsuite ok) nd hi lc fun s7 J7 => ⟨_, _, J7, q6⟩
          | brk =>
            obtain ⟨σ6, H6, S6, q6⟩ := hsp
            exact gone_ok (S6.unsuite ok) nd hi lc fun s7 J7 => ⟨_, _, J7, q6⟩
          | cont =>
            obtain ⟨σ6, H6, S6, q6⟩ := hsp
            exact gone_ok (S6.unsuite ok) nd hi lc fun s7 J7 => ⟨_, _, J7, q6⟩
          | ret u =>
            obtain ⟨v6, σ6, H6, S6, r6, q6⟩ := hsp
            exact gone_ok (S6.unsuite ok) nd hi lc fun s7 J7 => ⟨_, _, _, J7, r6, q6⟩
    exact go hh w
  · cases f with
    | ret u => exact let ⟨v, σ', H', J', r, q⟩ := hsp; ⟨v, σ', H', J'.ofTry ok, r, q⟩
    | next =>
      obtain ⟨σ', H', J', q⟩ := hsp
      exact wpAny_execs_nil ⟨σ', H', J'.ofTry ok, q⟩
    | brk => exact let ⟨σ', H', J', q⟩ := hsp; ⟨σ', H', J'.ofTry ok, q⟩
    | cont => exact let ⟨σ', H', J', q⟩ := hsp; ⟨σ', H', J'.ofTry ok, q⟩
end
/-! ### own exceptions -/
/-- what the written part says of an own exception class: the class at C, its __init__ at f -/
structure XCls (K : PySem.W.Frag) (mg : Str → Option Value) (nm : Str) (C f : Addr) : Prop where
  g : mg nm = some (.ref C)
  o : OexC K C
  i : PySem.W.findIn K (.ref C) "__init__" = some (some (.ref f))
  t : PySem.W.typeIn K (.ref f) = some (.type "function")
  x : XfC K C
  e : ExcC K C
theorem xcls_mk {K : PySem.W.Frag} {mg : Str → Option Value} {nm : Str} {C f : Addr} {n q : Str} {N : Addr} {bs bm : List Value} {sn : List Str} {sub : List Value} {ab : Bool} {col : _} {dd : Option Addr} {k0 k1 k2 k3 k5 : Option Value}
    (g : mg nm = some (.ref C)) (l : K.lookup C = some (excClassObj n q C N bs bm true sn sub ab col dd k0 k1 k2 k3 k5 "ValueError.__new__")) (bm' : PySem.HandSPX.refsVE bm = true) (sa : PySem.W.findIn K (.ref C) "__setattr__" = some (some (.builtin "object.__setattr__")))
    (ex : PySem.W.subIn K (.ref C) (.type "BaseException") = some true) (ty : PySem.W.typeIn K (.ref C) = some (.type "type")) (kp : PySem.W.keepIn K (.ref C) = true) (i : PySem.W.findIn K (.ref C) "__init__" = some (some (.ref f)))
    (t : PySem.W.typeIn K (.ref f) = some (.type "function")) (ga : PySem.W.findIn K (.ref C) "__getattribute__" = some (some (.builtin "BaseException.__getattribute__"))) (gg : PySem.W.findIn K (.ref C) "__getattr__" = some none) (hd : PySem.W.hasDictIn K C = true)
    (ha : PySem.W.findIn K (.ref C) "__class__" = some (some (.builtin "object.__class__"))) (hn : PySem.W.specialIn K (.builtin "object.__class__") "__get__" = some (some (.builtin "getset_descriptor.__get__")))
    (ht : PySem.W.takesIn K (.builtin "object.__class__") = some true) (hm : PySem.W.mroIn K C (.type "object") = some true) : XCls K mg nm C f :=
  ⟨g, ⟨⟨n, q, N, bs, bm, sn, sub, ab, col, dd, k0, k1, k2, k3, k5, l, bm'⟩, sa, ex, ty, kp⟩, i, t, ⟨ga, gg, ex, hd⟩, ⟨ga, gg, ex, hd, ha, hn, ht, hm⟩⟩
/-- __init__ of such a class: one field is stored -/
def sp_xinit (K : PySem.W.Frag) (f : Str) : Sp := fun vs H Q _ => ∃ (a C : Addr) (v : V), vs = [.ref a, v] ∧ OexC K C ∧ PySem.W.findIn K (.ref C) f = some none ∧ H a = some (exo a C none) ∧
  ∀ dx, H dx = none → dx ≠ a → Q .non (upd (upd H dx (exd dx [(f, v)])) a (exo a C (some dx)))
/-- raise C(v): what follows holds wherever the new error's dict is told, all else standing -/
theorem mkO_of {K : PySem.W.Frag} {f : Str} {C : Addr} {v : V} {H : Hp} {E : XK} (O : OexC K C) (hn : PySem.W.findIn K (.ref C) f = some none) (k : ∀ d H', H d = none → Same H H' → H' d = some (.xd [(f, v)]) → E (.ref C) (some d) H') :
    [v].length ≤ 1000 ∧ ∀ a, H a = none → sp_xinit K f (.ref a :: ([v] ++ [])) (upd H a (exo a C none))
      (fun w H2 => w = .non ∧ ∃ (d : Addr) (fs : List (Str × V)), H2 a = some (exo a C (some d)) ∧ H2 d = some (exd d fs) ∧ H d = none ∧ E (.ref C) (some d) (upd (del H2 a) d (.xd fs))) (fun _ _ _ => False) := by
  refine ⟨Nat.succ_le_succ (Nat.zero_le _), fun a ha => ⟨a, C, v, rfl, O, hn, upd_same, fun dx hdx ne => ⟨rfl, dx, [(f, v)], upd_same, ?_, ?_, ?_⟩⟩⟩
  · rw [upd_ne ne]
    exact upd_same
  · rw [upd_ne ne] at hdx
    exact hdx
  · have hdx0 : H dx = none := by
      rw [upd_ne ne] at hdx
      exact hdx
    refine k dx _ hdx0 (fun b o e => ?_) upd_same
    have nb : b ≠ dx := ne_of_none e hdx0
    have na : b ≠ a := ne_of_none e ha
    rw [upd_ne nb, del_ne na, upd_ne na, upd_ne nb, upd_ne na]
    exact e
section
variable {X : Cx} {a : Addr} {oe : Obj} {cls : Value} {d : Option Addr} {pn : List (Addr × Obj)} {n : Str}
/-- e.n in a suite, e of whichever class it is -/
def tXg (K : PySem.W.Frag) (a : Addr) (cls : Value) (d : Option Addr) (f : Str) (te : TE) : TE := fun σ H Q => te σ H fun x H1 => x = .ref a ∧ ∃ (C dd : Addr) (fs : List (Str × V)) (v : V), cls = .ref C ∧ XfC K C ∧ PySem.W.findIn K (.ref C) f = some none ∧ d = some dd ∧ H1 dd = some (.xd fs) ∧ fs.lookup f = some v ∧ Q v H1
theorem pe_xg {e : Expr} {te : TE} {pos : Pos} (hz : Zc cls d oe) (hf : ∃ vs, oe.data = .fields vs) (he : PE (X.suite a ((a, oe) :: pn)) e te)
    (hb : attributeBase e n X.env (eval e X.env) = eval e X.env := by rfl) : PE (X.suite a ((a, oe) :: pn)) (.Attribute e n pos) (tXg X.K a cls d n te) := by
  refine ⟨fun pins s σ H Q I h => ?_⟩
  refine attr_of hb (thn (he.run pins s σ H _ I h) fun u s1 hh => ?_)
  obtain ⟨x, H1, I1, rx, ex, C, dd, fs, v, ec, T, hno, ed, ea, l, q⟩ := hh
  subst ex ec ed
  obtain rfl : u = Value.ref a := rx
  obtain ⟨mA, hns, hr⟩ := (show ObjOk X.prog X.w H1 s1.heap dd (.xd fs) from I1.hok dd _ ea)
  obtain ⟨od, ho, hl⟩ := lookIn_ns hns
  obtain ⟨u, hu, ru⟩ := RelO.some_of (v := v) (o := mA n) (by rw [← l]; exact hr n)
  obtain ⟨vs, hv⟩ := hf
  have J : PySem.W.InstAt s1.heap a oe C (some od) := ⟨(I1.pin (a, oe) (List.mem_append_left _ List.mem_cons_self)).1, hz.1, by unfold PySem.W.notCls; rw [hv] <;> rfl, by rw [hz.2]; exact ho⟩
  exact PySem.HandSPX.exc_get I1.kIn J T.ga T.gg T.exC (PySem.W.findObj_own T.hdC hno rfl (by rw [hl, hu])) (handed_of ru) ⟨v, H1, I1.tok _, ru, q⟩
/-- isinstance(e, c) in a suite -/
def rIsX (K : PySem.W.Frag) (a : Addr) (cls : Value) (d : Option Addr) : List V → Hp → VK → Prop := fun xs H Q => ∃ (c : V) (cv : Value) (b : Bool) (D dd : Addr) (fs : List (Str × V)), xs = [.ref a, c] ∧ (∀ u, RelV c u → u = cv) ∧ cls = .ref D ∧ ExcC K D ∧ d = some dd ∧ H dd = some (.xd fs) ∧
  PySem.W.kitOne K (.ref D) cv = some b ∧ Q (.bl b) H
theorem call_isX (hz : Zc cls d oe) (hf : ∃ vs, oe.data = .fields vs) : CallR (X.suite a ((a, oe) :: pn)) (.builtin "isinstance") (rIsX X.K a cls d) := by
  intro pins s σ H xs us Q I r h
  obtain ⟨c, cv, b, D, dd, fs, rfl, hcv, ec, C, ed, ea, e, q⟩ := h
  subst ec ed
  obtain ⟨u1, u2, rfl, r1, r2⟩ := vals2 r
  cases (show u1 = Value.ref a from r1)
  cases (hcv _ r2)
  obtain ⟨mA, hns, hr⟩ := (show ObjOk X.prog X.w H s.heap dd (.xd fs) from I.hok dd _ ea)
  obtain ⟨od, ho, hl⟩ := lookIn_ns hns
  obtain ⟨vs, hv⟩ := hf
  have J : PySem.W.InstAt s.heap a oe D (some od) := ⟨(I.pin (a, oe) (List.mem_append_left _ List.mem_cons_self)).1, hz.1, by unfold PySem.W.notCls; rw [hv] <;> rfl, by rw [hz.2]; exact ho⟩
  obtain ⟨cd, hc, _⟩ := PySem.W.any_some C.hd
  exact PySem.W.kia_one (PySem.W.kitx_exc (by rw [hc]; rfl) C.hg C.hk C.hs C.ha C.hn C.ht C.hm) I.kIn J e (fun z => nomatch z) fun tk => ⟨.bl b, H, I.tok tk, rfl, q⟩
end
section
variable {X : Cx} {CX' : CXT} {k : Nat} {f C : Addr} {fd : FuncData} {ps : List Str} {sp : Sp} {E : St → XK} {x m : Str} {p pos apos : Pos} {e o : Expr} {es : List Expr} {ta : TE} {t : TA}
/-- o.m(..), what it lets out wished for at the caller's slots -/
def tMethX (C : Addr) (m : Str) (sp : Sp) (E : St → XK) (ta : TE) (t : TA) : TE := fun σ H Q => ta σ H fun x H1 => ∃ a dx fs, x = .ref a ∧ H1 a = some (.ins C dx fs) ∧ fs.lookup m = none ∧ t σ H1 fun vs H2 => sp (x :: vs) H2 Q (E σ)
theorem pe_methX {pl : Sem Bool} (he : PE X o ta) (c : Cls X.K C) (hm : Meth X.K C m f) (F : FnOk X.prog X.w X.K X.mg X.base CX' k f fd ps sp) (hr : Room k X.A) (hb : Binds X.K fd ps []) (hx : ∀ σ, PassesAt CX' X σ (E σ)) (ha : PA X (e :: es) t)
    (hst : starEach (e :: es) X.env = (false, eval e X.env) :: starEach es X.env := by rfl) (hpl : (PySem.backTo pos (starEach es X.env)).any (·.1) = false := by rfl)
    (ht : eval (.Call (.Attribute o m apos) (e :: es) [] pos) X.env = (eval o X.env >>= fun ov => standAt apos.atName >>= fun _ => holding [ov] (getMethod ov m pl) >>= fun fr => callWith pos fr.1 fr.2 (PySem.backTo pos (starEach (e :: es) X.env)) (backToKw pos (keywordEach [] X.env))) := by rfl) :
    PE X (.Call (.Attribute o m apos) (e :: es) [] pos) (tMethX C m sp E ta t) := by
  refine ⟨fun pins s σ H Q I h => ?_⟩
  refine PySem.W.methodCall_KW (pl := pl) (thn (he.run pins s σ H _ I h) fun u s1 ⟨x, H1, I1, rx, a, dx, fs, ex, ea, l, q⟩ => ?_) ht
  subst ex
  obtain rfl : u = Value.ref a := rx
  refine getmeth_ok I1 ea c hm l ?_
  refine PySem.W.callWith_K (h₀ := X.base) I1.ok.mod.kin hm.kp (thn (ha.run pos pins s1 σ H1 _ I1 q) fun us s2 ⟨vs, H2, I2, r, q2⟩ => ⟨I2.kIn, ?_⟩) hst hpl
  exact run_fnS (us := .ref a :: us) (vs := .ref a :: vs) F hr hb (hx σ) I2 (.cons rfl r) q2
end
/-- a class that is only named -/
structure GCls (mg : Str → Option Value) (nm : Str) (C : Addr) : Prop where
  g : mg nm = some (.ref C)
/-- what a callee lets out, whatever the slots hold -/
def anyW (n : Nat) (W : WX) : XK := fun cls d H => ∀ σ : L2.St, σ.length = n → W cls d σ H
theorem passes_any {X : Cx} {W : WX} (n : Nat) (tk : Takes X W) (hn : X.N.length = n := by rfl) : Passes (L2.CX X.prog X.w) X (anyW n W) :=
  fun _ σ _ _ e s' I c => tk e s' (XE.of_call I (fun cls d H' h => h σ (I.len.trans hn)) c)
/-! ### super() -/
section
open PySem.Spec PyProof.Rows
/-- the text's own file -/
class SupP (prog : Program) : Prop where
  file : ((prog.main.file : Str) == ("/claim/cut.py" : Str)) = true
  top : (prog.main.scope.names.lookup ("super" : Str)).isSome = false
instance {CX : CXT} {P : Program} {w : World} {K : PySem.W.Frag} {mg : Str → Option Value} {base : Heap} {N : List Str} {qual : Str} {scope : Scope} {f : Addr} {cd : Value} {A : Around} {outer : List Env} {s : Shared} {H : Hp} {E : XK} [h : SupP P] : SupP (cxOf CX P w K mg base N qual scope f cd A outer s H E).prog := h
instance {CX : CXT} {P : Program} {w : World} {K : PySem.W.Frag} {mg : Str → Option Value} {base : Heap} {N : List Str} {F : NdefX.NF} {f : Addr} {A : Around} {outer : List Env} {s : Shared} {H : Hp} {E : XK} [h : SupP P] : SupP (NdefX.ncx CX P w K mg base N F f A outer s H E).prog := h
/-- what the written part says of a def that says super(): its own record, its code, the cell of its class -/
structure SupK (K : PySem.W.Frag) (f cda cc D : Addr) (me : Str) : Prop where
  fn : ∃ (oc : Value) (od : Option Addr) (fd : FuncData) (osl : Array (Option Value)) (ar : Arg), K.lookup f = some ⟨oc, od, .func fd, osl⟩ ∧ (fd.params.posonlyargs ++ fd.params.args).head? = some ar ∧ ar.arg = me
  code : ∃ (ccl : Value) (cdd : Option Addr) (vs : Array Value) (ccs : Array (Option Value)) (tf : Tok), K.lookup cda = some ⟨ccl, cdd, .fields vs, ccs⟩ ∧ vs[2]? = some (.str "/claim/cut.py" tf)
  cell : ∃ (cl : Value) (cld : Option Addr) (csl : Array (Option Value)), K.lookup cc = some ⟨cl, cld, .cell (some (.ref D)), csl⟩
  cls : ∃ cd, PySem.W.clsIn K D = some cd
/-- .. of the class C whose object asks for m above D -/
structure SupC (K : PySem.W.Frag) (C D : Addr) (m : Str) (g : Addr) : Prop where
  cls : ∃ cd, PySem.W.clsIn K C = some cd
  sub : PySem.W.mroIn K C (.ref D) = some true
  at_ : PySem.W.ks_superIn K C D m = some (some (.ref g))
  ty : PySem.W.typeIn K (.ref g) = some (.type "function")
  fn : PySem.W.fnIn K g = true
  any : PySem.W.nsIn K PySem.cStatics "thirdparty.any" = some none
/-- .. and of the def's frame -/
structure SupE (X : Cx) (f cda cc : Addr) (me : Str) : Prop where
  fu : X.env.func = some f
  co : X.env.code = .ref cda
  ce : X.env.cells.lookup ("__class__" : Str) = some cc
  ks : X.env.scope.names.lookup ("super" : Str) = some .globalImplicit
  kc : X.env.scope.names.lookup ("__class__" : Str) = some .free
  ka : X.env.scope.names.lookup me = some .local
  n0 : X.N[0]? = some me
  mg : X.mg "super" = none
variable {X : Cx} {f cda cc D : Addr} {me : Str} {pins : List (Addr × Obj)} {σ : L2.St} {H : Hp} {s : Shared}
theorem super_get {body : List Stmt} {p0 p1 : Pos} {m : Str} {whole : Sem Value} {A : Around} {E : Value → Shared → Prop} {Q : Value → Shared → Prop} {a C : Addr} {ox : Obj} {odx : Option Obj}
    [SP0 : SupP X.prog] (S : SupK X.K f cda cc D me) (V : SupE X f cda cc me) (I : Inv X pins σ H s) (h0 : σ[0]? = some (some (.ref a))) (J : PySem.W.InstAt s.heap a ox C odx) (hsub : PySem.W.mroIn X.K C (.ref D) = some true) (hat : (m == ("__class__" : Str)) = false)
    (h : ∀ so h', (∀ b o, s.heap.get? b = some o → h'.get? b = some o) → so = s.heap.objs.size → h'.get? so = some (PySem.W.ks_superObj D a C) → Q (.ref so) { s with heap := h' }) :
    _root_.PySem.wpAt (model X.prog X.w) A (.func body X.env) (attributeBase (.Call (.Name "super" p0) [] [] p1) m X.env whole) Q E s := by
  obtain ⟨oc, od, fd, osl, ar, hf, hp, rfl⟩ := S.fn
  obtain ⟨ccl, cdd, vs, ccs, tf, hcode, hvs⟩ := S.code
  obtain ⟨cl, cld, csl, hcell⟩ := S.cell
  obtain ⟨cdD, hD⟩ := S.cls
  have KI : X.K.In s.heap := I.kIn
  obtain ⟨oD, hD1, hD2⟩ : ∃ oD, s.heap.get? D = some oD ∧ oD.data = .cls cdD := by
    unfold PySem.W.clsIn at hD
    split at hD
    · rename_i c d cd' sl ho
      cases hD
      exact ⟨_, KI _ _ ho, rfl⟩
    · cases hD
  obtain ⟨mL, hns, hl⟩ := I.loc
  obtain ⟨u, ru, lk⟩ := hl 0 ar.arg (.ref a) V.n0 h0 (.inl V.ka)
  cases (show u = Value.ref a from ru)
  have hv : mL ar.arg = some (.ref a) := by
    rcases lk with ⟨_, e⟩ | ⟨e, _⟩
    · exact e
    · rcases e with e | e <;> (rw [show X.env.kindOf ar.arg = some .local from V.ka] at e; cases e)
  obtain ⟨mb, h1, h2⟩ := I.mod.blt
  refine PySem.ks_wpAt_super_base (env := X.env) V.ks V.kc hat V.fu (KI _ _ hf) rfl hp V.co (KI _ _ hcode) rfl hvs SP0.file SP0.top ?_
  refine PySem.W.ks_loadName_global I.ok.kind V.ks (PySem.Calls.loadGlobal_builtin (by rw [I.ok.glob]; exact I.mod.glob.keeps I.bk) V.mg (by rw [I.ok.blt]; exact h1.keeps I.bk) ((h2 "super" (by decide)).trans (show bootBuiltins "super" = some (.type "super") by decide +kernel)) ⟨rfl, ?_⟩)
  refine wpAny_loadName_free I.ok.kind V.kc V.ce ⟨_, KI _ _ hcell, rfl⟩ ?_
  refine wpAny_loadName_local I.ok.kind V.ka hns hv ?_
  obtain ⟨hh, g, d, t, os⟩ := s
  refine PySem.ks_wpAny_isType_cls hD1 hD2 ⟨rfl, ?_⟩
  refine PySem.ks_wpAny_call_super hD1 hD2 J.at_ J.cls (fun c e => ?_) (PySem.W.looks_mroIn KI hsub) (fun h' e k => ?_)
  · have := J.no
    unfold PySem.W.notCls at this
    rw [e] at this
    exact Bool.noConfusion this
  · exact h _ _ k rfl e
/-- a statement, statements, run in the code of a def's body -/
structure PSA (X : Cx) (body : List Stmt) (st : Stmt) (t : TS) : Prop where
  run : ∀ (pins : List (Addr × Obj)) (s : Shared) (σ : L2.St) (H : Hp) (D : Ends), Inv X pins σ H s → t D σ H → _root_.PySem.wpAt (model X.prog X.w) X.A (.func body X.env) (exec st X.env) (SP X pins D) X.xe s
structure PSsA (X : Cx) (body : List Stmt) (ss : List Stmt) (t : TS) : Prop where
  run : ∀ (pins : List (Addr × Obj)) (s : Shared) (σ : L2.St) (H : Hp) (D : Ends), Inv X pins σ H s → t D σ H → _root_.PySem.wpAt (model X.prog X.w) X.A (.func body X.env) (execs ss X.env) (SP X pins D) X.xe s
variable {body : List Stmt} {st : Stmt} {ss : List Stmt} {t u : TS}
theorem psa_of (h : PS X st t) : PSA X body st t := ⟨fun pins s σ H D I q => wpAt_of_wpAny (h.run pins s σ H D I q)⟩
theorem pssa_of (h : PSs X ss t) : PSsA X body ss t := ⟨fun pins s σ H D I q => wpAt_of_wpAny (h.run pins s σ H D I q)⟩
theorem pssa_cons (h : PSA X body st t) (r : PSsA X body ss u) : PSsA X body (st :: ss) (tSeq t u) := by
  refine ⟨fun pins s σ H D I q => PySem.ks_wpAt_execs_cons (PySem.ks_wpAt_mono (h.run pins s σ H _ I q) (fun f s' hs => ?_) fun _ _ z => z)⟩
  cases f with
  | next =>
    obtain ⟨σ', H', I', q'⟩ := hs
    exact r.run pins s' σ' H' D I' q'
  | ret v => exact hs
  | brk => exact hs
  | cont => exact hs
theorem pssa_one (h : PSA X body st t) : PSsA X body [st] t := by
  refine ⟨fun pins s σ H D I q => PySem.ks_wpAt_execs_cons (PySem.ks_wpAt_mono (h.run pins s σ H _ I q) (fun f s' hs => ?_) fun _ _ z => z)⟩
  cases f with
  | next =>
    obtain ⟨σ', H', I', q'⟩ := hs
    exact wpAt_of_wpAny (pss_nil.run pins s' σ' H' D I' q')
  | ret v => exact hs
  | brk => exact hs
  | cont => exact hs
theorem psa_if {c : Expr} {a b : List Stmt} {tc : TT} {pos : Pos} (hc : PT X c tc) (ha : PSsA X body a t) (hb : PSsA X body b u) : PSA X body (.If c a b pos) (tIfS tc t u) := by
  refine ⟨fun pins s σ H D I h => ?_⟩
  refine PySem.ks_wpAt_If (PySem.ks_wpAt_mono (wpAt_of_wpAny (hc.run pins s σ H _ I h)) (fun d s1 ⟨H1, I1, q1⟩ => ?_) fun _ _ z => z)
  cases d with
  | true => exact ha.run pins s1 σ H1 D I1 q1
  | false => exact hb.run pins s1 σ H1 D I1 q1
/-- super().m(e, ..), its answer let go -/
def tSup (K : PySem.W.Frag) (D : Addr) (m : Str) (g : Addr) (sp : Sp) (E : XK) (t : TA) : TS := fun Dn σ H => ∃ a C dx fs, σ[0]? = some (some (.ref a)) ∧ H a = some (.ins C dx fs) ∧ SupC K C D m g ∧ t σ H fun vs H1 => sp (.ref a :: vs) H1 (fun _ H2 => Dn.nx σ H2) E
theorem psa_super {p0 p1 apos pos pos' : Pos} {m : Str} {g : Addr} {CX : CXT} {k : Nat} {sp : Sp} {E : XK} {e : Expr} {es : List Expr} {ta : TA} [SP0 : SupP X.prog] (S : SupK X.K f cda cc D me) (V : SupE X f cda cc me) (F : FnR X.prog X.w X.K X.mg X.base CX k g sp) (hr : Room k X.A) (hx : Passes CX X E) (ha : PA X (e :: es) ta)
    (hat : (m == ("__class__" : Str)) = false := by decide)
    (he : eval (.Call (.Attribute (.Call (.Name "super" p0) [] [] p1) m apos) (e :: es) [] pos) X.env = (do
      let ov ← attributeBase (.Call (.Name "super" p0) [] [] p1) m X.env (eval (.Call (.Name "super" p0) [] [] p1) X.env)
      standAt apos.atName
      let (f, first) ← holding [ov] (getMethod ov m (pure false))
      callWith pos f first (backTo pos (starEach (e :: es) X.env)) []) := by rfl)
    (hst : starEach (e :: es) X.env = (false, eval e X.env) :: starEach es X.env := by rfl) (hpl : (backTo pos (starEach es X.env)).any (·.1) = false := by rfl) (hi : interactive X.env = false := by rfl)
    (hs : swapsWith (.Call (.Attribute (.Call (.Name "super" p0) [] [] p1) m apos) (e :: es) [] pos) none pos'.line X.env = pure false := by rfl) :
    PSA X body (.Expr (.Call (.Attribute (.Call (.Name "super" p0) [] [] p1) m apos) (e :: es) [] pos) pos') (tSup X.K D m g sp E ta) := by
  refine ⟨fun pins s σ H Dn I h => ?_⟩
  obtain ⟨a, C, dx, fs, h0, hA, SC, q⟩ := h
  obtain ⟨mA, O, _⟩ := ins_get I.hok hA
  obtain ⟨od, J, _⟩ := O.look
  obtain ⟨cd, hcd⟩ := SC.cls
  refine PySem.ks_wpAt_Expr_any ?_ hi hs
  refine PySem.ks_wpAt_MethodCall ?_ he
  refine super_get S V I h0 J SC.sub hat fun so h' kp hso hobj => ?_
  have I1 : Inv X pins σ H { s with heap := h' } := I.kept (t' := s.toks) kp
  have KI : X.K.In h' := I1.kIn
  obtain ⟨mA', O', _⟩ := ins_get I1.hok hA
  obtain ⟨od', J1, _⟩ := O'.look
  obtain ⟨of, hof, hofc⟩ : ∃ of, h'.get? g = some of ∧ of.cls = .type "function" := by
    have ht' : (X.K.lookup g).map (·.cls) = some (.type "function") := SC.ty
    cases z : X.K.lookup g with
    | none => rw [z] at ht'; cases ht'
    | some of => rw [z] at ht'; exact ⟨of, KI _ _ z, Option.some.inj ht'⟩
  have hal : PySem.W.alongIn X.K m ((cd.mro.dropWhile (· != .ref D)).drop 1) = some (some (.ref g)) := by
    have := SC.at_
    unfold PySem.W.ks_superIn at this
    rw [hcd] at this
    exact this
  obtain ⟨hh, gg, dd, tt, os⟩ := s
  refine PySem.ks_wpAny_getMethod_super hobj (PySem.W.looks_opaque KI SC.any) (l₀ := cd.mro) (fun A Q E s k q => wpAny_bind ((PySem.W.looks_clsIn KI hcd) A _ E s k (wpAny_pure q))) rfl KI hal hof hofc (PySem.W.ks_ne KI J1 hcd) hat ?_
  have I2 := ClX.met_new (g := g) (C := a) I1
  refine wpAny_mono (ClX.callwith_cm I2 (ClX.base_none I1 (Nat.le_refl _)) SC.fn (thn (ha.run pos _ _ σ H _ I2 q) fun us s3 ⟨vs, H1, I3, r, q3⟩ => ⟨⟨ClX.pin_at I3, I3.kIn⟩, ClX.run_cm F hr hx I3 r q3⟩) hst hpl) (fun v s' hv => ?_) fun _ _ z => z
  obtain ⟨_, H', I', _, q'⟩ := hv
  exact ⟨σ, H', I', q'⟩
end
/-! ### a def that says super() -/
section
open PySem.Spec PyProof.Rows
structure FunC (K : PySem.W.Frag) (x qual : Str) (st : Stmt) (f cda cc : Addr) (fd : FuncData) : Prop where
  ex : ∃ (oc : Value) (od : Option Addr) (dV kV doc pm : Value) (an : Option Addr) (ct : Value) (osl : Array (Option Value)),
    fd = PySem.W.fnX x qual (defArgs st) (defBody st) (defScope st) [("__class__", cc)] dV kV doc pm an (.ref cda) ct ∧ K.lookup f = some ⟨oc, od, .func fd, osl⟩ ∧ PySem.W.codeIn K (.ref cda) qual = true
  kp : PySem.W.keepIn K (.ref f) = true
abbrev nfS (x qual : Str) (st : Stmt) (cda cc : Addr) : NdefX.NF := ⟨x, qual, defArgs st, defBody st, defScope st, [("__class__", cc)], cda⟩
theorem FunC.okX {CX : CXT} {P : Program} {w : World} {K : PySem.W.Frag} {mg : Str → Option Value} {base : Heap} {x qual : Str} {st : Stmt} {f cda cc D : Addr} {fd : FuncData} {N ps : List Str} {k : Nat} {sp : Sp} (F : FunC K x qual st f cda cc fd)
    (hc : ∃ (cl : Value) (cld : Option Addr) (csl : Array (Option Value)), K.lookup cc = some ⟨cl, cld, .cell (some (.ref D)), csl⟩) (S : NdefX.NScope N ps ["__class__"] (defScope st)) (len : ∀ vs H Q E, sp vs H Q E → vs.length = ps.length)
    (hbody : ∀ (A : Around) (outer : List Env) (s : Shared) (H : Hp) (vs : List V) (Q : VK) (E : XK), Room k (A.deeper (NdefX.envF (nfS x qual st cda cc) f s.heap.objs.size)) → sp vs H Q E →
      ∃ t, PSsA (NdefX.ncx CX P w K mg base N (nfS x qual st cda cc) f A outer s H E) (defBody st) (defBody st) t ∧ t { nx := fun _ H' => Q .non H', rt := Q } (NdefX.startF N vs [none]) H) : FnOk P w K mg base CX (k + 1) f fd ps sp := by
  obtain ⟨oc, od, dV, kV, doc, pm, an, ct, osl, rfl, lk, hcd⟩ := F.ex
  refine ⟨len, fun A outer s H args us vs Q E hr e0 hb r hsp => ?_⟩
  have hl := len _ _ _ _ hsp
  have KX : K.In s.heap := e0.mod.kin.keeps fun b o e => (e0.bs b o e).1
  have lim : s.heap.NoLimit := e0.mod.nolimit.keeps fun b o e => (e0.bs b o e).1
  obtain ⟨cl, cld, csl, hcell⟩ := hc
  have C : NdefX.CellsAt [("__class__", cc)] ["__class__"] [none] s.heap H := by
    refine ⟨rfl, fun y c e => ?_, fun x y c e1 e2 => ?_, fun i y hi => ?_⟩
    · simp only [List.lookup] at e
      split at e
      · cases e
        exact ⟨(e0.bs _ _ (e0.mod.kin _ _ hcell)).2, some (.ref D), ⟨_, KX _ _ hcell, rfl⟩⟩
      · cases e
    · simp only [List.lookup] at e1 e2
      split at e1
      · split at e2
        · rename_i q1 _ q2
          rw [beq_iff_eq.mp q1, beq_iff_eq.mp q2]
        · cases e2
      · cases e1
    · cases i with
      | zero =>
        cases hi
        exact ⟨cc, rfl, fun v hv => by cases hv⟩
      | succ i => cases hi
  refine PySem.ks_codeAny_call_defAt (body := defBody st) (binds := ps.zip us) hr.depth (KX _ _ lk) rfl lim (PySem.W.codeRec_of KX hcd) rfl hb S.nocell (fun ⟨n, _⟩ hy => S.par n (List.of_mem_zip hy).1) (fun h₁ hns kp => ?_) S.co S.gen S.kind
  obtain ⟨t, ht, hq⟩ := hbody A outer s H vs Q E (hr.deeper _) hsp
  have I : Inv (NdefX.ncx CX P w K mg base N (nfS x qual st cda cc) f A outer s H E) [] (NdefX.startF N vs [none]) H { s with heap := h₁, toks := s.toks + (ps.zip us).length } := NdefX.inv_startN S hr.hd e0 hl r C hns kp
  refine PySem.ks_wpAt_mono (ht.run [] _ (NdefX.startF N vs [none]) H _ I hq) (fun fl s' hs => ?_) fun e s' hs => hs
  have fin : ∀ {σ' : L2.St} {H' : Hp} {v : V} {u : Value}, Inv (NdefX.ncx CX P w K mg base N (nfS x qual st cda cc) f A outer s H E) [] σ' H' s' → L2.RelV v u → Q v H' → CE outer P w H s Q u s' :=
    fun {σ' H' v u} J rv q => ⟨v, H', J.os, J.bare, J.base, J.hok, rv, q⟩
  cases fl with
  | ret u =>
    obtain ⟨v, σ', H', J, rv, q⟩ := hs
    exact fin J rv q
  | next =>
    obtain ⟨σ', H', J, q⟩ := hs
    exact fin (v := V.non) (u := Value.none) J rfl q
  | brk =>
    obtain ⟨_, _, _, q⟩ := hs
    exact False.elim q
  | cont =>
    obtain ⟨_, _, _, q⟩ := hs
    exact False.elim q
end
def top (i : Nat) : Stmt := PySem.Challenge.pw_lossway_k22_curve_law.main.body.getD i (.Pass ⟨0, 0, 0, 0⟩)
abbrev s_InvalidNumber_init_ : Stmt := inClass (top 2) 0
theorem st_InvalidNumber_init_ {t : TS} {D : Ends} {H : Hp} {v0 v1 : V} (h : t D [some v0, some v1] H) : t D (L2.start ["self", "number"] [v0, v1]) H := h
theorem sc_InvalidNumber_init_ : FnScope ["self", "number"] ["self", "number"] (defScope s_InvalidNumber_init_) := ⟨rfl, rfl, rfl, by decide +kernel, rfl, by decide +kernel, by decide +kernel⟩
abbrev s_InvalidSetting_init_ : Stmt := inClass (top 3) 0
theorem st_InvalidSetting_init_ {t : TS} {D : Ends} {H : Hp} {v0 v1 : V} (h : t D [some v0, some v1] H) : t D (L2.start ["self", "setting"] [v0, v1]) H := h
theorem sc_InvalidSetting_init_ : FnScope ["self", "setting"] ["self", "setting"] (defScope s_InvalidSetting_init_) := ⟨rfl, rfl, rfl, by decide +kernel, rfl, by decide +kernel, by decide +kernel⟩
abbrev s_is_integer : Stmt := top 5
theorem st_is_integer {t : TS} {D : Ends} {H : Hp} {v0 : V} (h : t D [some v0] H) : t D (L2.start ["value"] [v0]) H := h
theorem sc_is_integer : FnScope ["value"] ["value"] (defScope s_is_integer) := ⟨rfl, rfl, rfl, by decide +kernel, rfl, by decide +kernel, by decide +kernel⟩
abbrev s_is_between : Stmt := top 6
theorem st_is_between {t : TS} {D : Ends} {H : Hp} {v0 v1 v2 : V} (h : t D [some v0, some v1, some v2] H) : t D (L2.start ["value", "low", "high"] [v0, v1, v2]) H := h
theorem sc_is_between : FnScope ["value", "low", "high"] ["value", "low", "high"] (defScope s_is_between) := ⟨rfl, rfl, rfl, by decide +kernel, rfl, by decide +kernel, by decide +kernel⟩
abbrev s_require_new_bytes : Stmt := top 8
theorem st_require_new_bytes {t : TS} {D : Ends} {H : Hp} {v0 : V} (h : t D [some v0] H) : t D (L2.start ["count"] [v0]) H := h
theorem sc_require_new_bytes : FnScope ["count"] ["count"] (defScope s_require_new_bytes) := ⟨rfl, rfl, rfl, by decide +kernel, rfl, by decide +kernel, by decide +kernel⟩
abbrev s_Control_init_ : Stmt := inClass (top 9) 2
theorem st_Control_init_ {t : TS} {D : Ends} {H : Hp} {v0 v1 : V} (h : t D [some v0, some v1] H) : t D (L2.start ["self", "unit"] [v0, v1]) H := h
theorem sc_Control_init_ : FnScope ["self", "unit"] ["self", "unit"] (defScope s_Control_init_) := ⟨rfl, rfl, rfl, by decide +kernel, rfl, by decide +kernel, by decide +kernel⟩
abbrev s_Control_starting : Stmt := inClass (top 9) 3
theorem st_Control_starting {t : TS} {D : Ends} {H : Hp} {v0 : V} (h : t D [some v0] H) : t D (L2.start ["self"] [v0]) H := h
theorem sc_Control_starting : FnScope ["self"] ["self"] (defScope s_Control_starting) := ⟨rfl, rfl, rfl, by decide +kernel, rfl, by decide +kernel, by decide +kernel⟩
abbrev s_Control_on_ack : Stmt := inClass (top 9) 4
theorem st_Control_on_ack {t : TS} {D : Ends} {H : Hp} {v0 v1 v2 v3 : V} (h : t D [some v0, some v1, some v2, some v3] H) : t D (L2.start ["self", "count", "flight", "now"] [v0, v1, v2, v3]) H := h
theorem sc_Control_on_ack : FnScope ["self", "count", "flight", "now"] ["self", "count", "flight", "now"] (defScope s_Control_on_ack) := ⟨rfl, rfl, rfl, by decide +kernel, rfl, by decide +kernel, by decide +kernel⟩
abbrev s_Control_on_expiry : Stmt := inClass (top 9) 7
theorem st_Control_on_expiry {t : TS} {D : Ends} {H : Hp} {v0 v1 v2 : V} (h : t D [some v0, some v1, some v2] H) : t D (L2.start ["self", "flight", "now"] [v0, v1, v2]) H := h
theorem sc_Control_on_expiry : FnScope ["self", "flight", "now"] ["self", "flight", "now"] (defScope s_Control_on_expiry) := ⟨rfl, rfl, rfl, by decide +kernel, rfl, by decide +kernel, by decide +kernel⟩
abbrev s_Control_on_sample : Stmt := inClass (top 9) 8
theorem st_Control_on_sample {t : TS} {D : Ends} {H : Hp} {v0 v1 : V} (h : t D [some v0, some v1] H) : t D (L2.start ["self", "ticks"] [v0, v1]) H := h
theorem sc_Control_on_sample : FnScope ["self", "ticks"] ["self", "ticks"] (defScope s_Control_on_sample) := ⟨rfl, rfl, rfl, by decide +kernel, rfl, by decide +kernel, by decide +kernel⟩
abbrev s_Control_set_window : Stmt := inClass (top 9) 9
theorem st_Control_set_window {t : TS} {D : Ends} {H : Hp} {v0 v1 : V} (h : t D [some v0, some v1] H) : t D (L2.start ["self", "window"] [v0, v1]) H := h
theorem sc_Control_set_window : FnScope ["self", "window"] ["self", "window"] (defScope s_Control_set_window) := ⟨rfl, rfl, rfl, by decide +kernel, rfl, by decide +kernel, by decide +kernel⟩
abbrev s_Climb_on_ack : Stmt := inClass (top 10) 1
theorem st_Climb_on_ack {t : TS} {D : Ends} {H : Hp} {v0 v1 v2 v3 : V} (h : t D [some v0, some v1, some v2, some v3, none] H) : t D (NdefX.startF ["self", "count", "flight", "now", "__class__"] [v0, v1, v2, v3] [none]) H := h
theorem se_Climb_on_ack : (defScope s_Climb_on_ack).names.lookup ("super" : Str) = some .globalImplicit ∧ (defScope s_Climb_on_ack).names.lookup ("__class__" : Str) = some .free ∧ (defScope s_Climb_on_ack).names.lookup ("self" : Str) = some .local := by decide +kernel
theorem sc_Climb_on_ack : NdefX.NScope ["self", "count", "flight", "now", "__class__"] ["self", "count", "flight", "now"] ["__class__"] (defScope s_Climb_on_ack) := NdefX.nscope_by (by decide +kernel)
abbrev s_Climb_grow : Stmt := inClass (top 10) 2
theorem st_Climb_grow {t : TS} {D : Ends} {H : Hp} {v0 v1 v2 : V} (h : t D [some v0, some v1, some v2] H) : t D (L2.start ["self", "count", "now"] [v0, v1, v2]) H := h
theorem sc_Climb_grow : FnScope ["self", "count", "now"] ["self", "count", "now"] (defScope s_Climb_grow) := ⟨rfl, rfl, rfl, by decide +kernel, rfl, by decide +kernel, by decide +kernel⟩
abbrev s_Climb_step : Stmt := inClass (top 10) 3
theorem st_Climb_step {t : TS} {D : Ends} {H : Hp} {v0 : V} (h : t D [some v0] H) : t D (L2.start ["self"] [v0]) H := h
theorem sc_Climb_step : FnScope ["self"] ["self"] (defScope s_Climb_step) := ⟨rfl, rfl, rfl, by decide +kernel, rfl, by decide +kernel, by decide +kernel⟩
abbrev s_Climb_on_expiry : Stmt := inClass (top 10) 5
theorem st_Climb_on_expiry {t : TS} {D : Ends} {H : Hp} {v0 v1 v2 : V} (h : t D [some v0, some v1, some v2, none] H) : t D (NdefX.startF ["self", "flight", "now", "__class__"] [v0, v1, v2] [none]) H := h
theorem se_Climb_on_expiry : (defScope s_Climb_on_expiry).names.lookup ("super" : Str) = some .globalImplicit ∧ (defScope s_Climb_on_expiry).names.lookup ("__class__" : Str) = some .free ∧ (defScope s_Climb_on_expiry).names.lookup ("self" : Str) = some .local := by decide +kernel
theorem sc_Climb_on_expiry : NdefX.NScope ["self", "flight", "now", "__class__"] ["self", "flight", "now"] ["__class__"] (defScope s_Climb_on_expiry) := NdefX.nscope_by (by decide +kernel)
abbrev s_Climb_on_sample : Stmt := inClass (top 10) 6
theorem st_Climb_on_sample {t : TS} {D : Ends} {H : Hp} {v0 v1 : V} (h : t D [some v0, some v1, none] H) : t D (NdefX.startF ["self", "ticks", "__class__"] [v0, v1] [none]) H := h
theorem se_Climb_on_sample : (defScope s_Climb_on_sample).names.lookup ("super" : Str) = some .globalImplicit ∧ (defScope s_Climb_on_sample).names.lookup ("__class__" : Str) = some .free ∧ (defScope s_Climb_on_sample).names.lookup ("self" : Str) = some .local := by decide +kernel
theorem sc_Climb_on_sample : NdefX.NScope ["self", "ticks", "__class__"] ["self", "ticks"] ["__class__"] (defScope s_Climb_on_sample) := NdefX.nscope_by (by decide +kernel)
abbrev s_Curve_init_ : Stmt := inClass (top 12) 1
theorem st_Curve_init_ {t : TS} {D : Ends} {H : Hp} {v0 v1 : V} (h : t D [some v0, some v1, none] H) : t D (NdefX.startF ["self", "unit", "__class__"] [v0, v1] [none]) H := h
theorem se_Curve_init_ : (defScope s_Curve_init_).names.lookup ("super" : Str) = some .globalImplicit ∧ (defScope s_Curve_init_).names.lookup ("__class__" : Str) = some .free ∧ (defScope s_Curve_init_).names.lookup ("self" : Str) = some .local := by decide +kernel
theorem sc_Curve_init_ : NdefX.NScope ["self", "unit", "__class__"] ["self", "unit"] ["__class__"] (defScope s_Curve_init_) := NdefX.nscope_by (by decide +kernel)
abbrev s_Curve_on_ack : Stmt := inClass (top 12) 2
theorem st_Curve_on_ack {t : TS} {D : Ends} {H : Hp} {v0 v1 v2 v3 : V} (h : t D [some v0, some v1, some v2, some v3, none] H) : t D (NdefX.startF ["self", "count", "flight", "now", "__class__"] [v0, v1, v2, v3] [none]) H := h
theorem se_Curve_on_ack : (defScope s_Curve_on_ack).names.lookup ("super" : Str) = some .globalImplicit ∧ (defScope s_Curve_on_ack).names.lookup ("__class__" : Str) = some .free ∧ (defScope s_Curve_on_ack).names.lookup ("self" : Str) = some .local := by decide +kernel
theorem sc_Curve_on_ack : NdefX.NScope ["self", "count", "flight", "now", "__class__"] ["self", "count", "flight", "now"] ["__class__"] (defScope s_Curve_on_ack) := NdefX.nscope_by (by decide +kernel)
abbrev s_Curve_grow : Stmt := inClass (top 12) 3
theorem st_Curve_grow {t : TS} {D : Ends} {H : Hp} {v0 v1 v2 : V} (h : t D [some v0, some v1, some v2, none, none] H) : t D (NdefX.startF ["self", "count", "now", "__class__", "target"] [v0, v1, v2] [none]) H := h
theorem se_Curve_grow : (defScope s_Curve_grow).names.lookup ("super" : Str) = some .globalImplicit ∧ (defScope s_Curve_grow).names.lookup ("__class__" : Str) = some .free ∧ (defScope s_Curve_grow).names.lookup ("self" : Str) = some .local := by decide +kernel
theorem sc_Curve_grow : NdefX.NScope ["self", "count", "now", "__class__", "target"] ["self", "count", "now"] ["__class__"] (defScope s_Curve_grow) := NdefX.nscope_by (by decide +kernel)
abbrev s_Curve_on_loss : Stmt := inClass (top 12) 4
theorem st_Curve_on_loss {t : TS} {D : Ends} {H : Hp} {v0 v1 v2 : V} (h : t D [some v0, some v1, some v2] H) : t D (L2.start ["self", "flight", "now"] [v0, v1, v2]) H := h
theorem sc_Curve_on_loss : FnScope ["self", "flight", "now"] ["self", "flight", "now"] (defScope s_Curve_on_loss) := ⟨rfl, rfl, rfl, by decide +kernel, rfl, by decide +kernel, by decide +kernel⟩
abbrev s_Curve_span_to : Stmt := inClass (top 12) 5
theorem st_Curve_span_to {t : TS} {D : Ends} {H : Hp} {v0 v1 : V} (h : t D [some v0, some v1, none] H) : t D (L2.start ["self", "peak", "span"] [v0, v1]) H := h
theorem sc_Curve_span_to : FnScope ["self", "peak", "span"] ["self", "peak"] (defScope s_Curve_span_to) := ⟨rfl, rfl, rfl, by decide +kernel, rfl, by decide +kernel, by decide +kernel⟩
abbrev s_Curve_on_expiry : Stmt := inClass (top 12) 6
theorem st_Curve_on_expiry {t : TS} {D : Ends} {H : Hp} {v0 v1 v2 : V} (h : t D [some v0, some v1, some v2, none] H) : t D (NdefX.startF ["self", "flight", "now", "__class__"] [v0, v1, v2] [none]) H := h
theorem se_Curve_on_expiry : (defScope s_Curve_on_expiry).names.lookup ("super" : Str) = some .globalImplicit ∧ (defScope s_Curve_on_expiry).names.lookup ("__class__" : Str) = some .free ∧ (defScope s_Curve_on_expiry).names.lookup ("self" : Str) = some .local := by decide +kernel
theorem sc_Curve_on_expiry : NdefX.NScope ["self", "flight", "now", "__class__"] ["self", "flight", "now"] ["__class__"] (defScope s_Curve_on_expiry) := NdefX.nscope_by (by decide +kernel)
abbrev s_Curve_on_sample : Stmt := inClass (top 12) 7
theorem st_Curve_on_sample {t : TS} {D : Ends} {H : Hp} {v0 v1 : V} (h : t D [some v0, some v1, none] H) : t D (NdefX.startF ["self", "ticks", "__class__"] [v0, v1] [none]) H := h
theorem se_Curve_on_sample : (defScope s_Curve_on_sample).names.lookup ("super" : Str) = some .globalImplicit ∧ (defScope s_Curve_on_sample).names.lookup ("__class__" : Str) = some .free ∧ (defScope s_Curve_on_sample).names.lookup ("self" : Str) = some .local := by decide +kernel
theorem sc_Curve_on_sample : NdefX.NScope ["self", "ticks", "__class__"] ["self", "ticks"] ["__class__"] (defScope s_Curve_on_sample) := NdefX.nscope_by (by decide +kernel)
abbrev s__law_cell : Stmt := top 14
theorem st__law_cell {t : TS} {D : Ends} {H : Hp} {v0 v1 : V} (h : t D [some v0, some v1] H) : t D (L2.start ["script", "k"] [v0, v1]) H := h
theorem sc__law_cell : FnScope ["script", "k"] ["script", "k"] (defScope s__law_cell) := ⟨rfl, rfl, rfl, by decide +kernel, rfl, by decide +kernel, by decide +kernel⟩
abbrev s__law_rounds : Stmt := top 15
theorem st__law_rounds {t : TS} {D : Ends} {H : Hp} {v0 : V} (h : t D [some v0] H) : t D (L2.start ["script"] [v0]) H := h
theorem sc__law_rounds : FnScope ["script"] ["script"] (defScope s__law_rounds) := ⟨rfl, rfl, rfl, by decide +kernel, rfl, by decide +kernel, by decide +kernel⟩
abbrev s__law_box : Stmt := top 16
theorem st__law_box {t : TS} {D : Ends} {H : Hp} {v0 : V} (h : t D [some v0] H) : t D (L2.start ["cell"] [v0]) H := h
theorem sc__law_box : FnScope ["cell"] ["cell"] (defScope s__law_box) := ⟨rfl, rfl, rfl, by decide +kernel, rfl, by decide +kernel, by decide +kernel⟩
abbrev s__law_draw : Stmt := top 17
theorem st__law_draw {t : TS} {D : Ends} {H : Hp} {v0 v1 : V} (h : t D [some v0, some v1, none, none, none] H) : t D (L2.start ["box", "size", "digit", "first", "second"] [v0, v1]) H := h
theorem sc__law_draw : FnScope ["box", "size", "digit", "first", "second"] ["box", "size"] (defScope s__law_draw) := ⟨rfl, rfl, rfl, by decide +kernel, rfl, by decide +kernel, by decide +kernel⟩
abbrev s__law_unit : Stmt := top 18
theorem st__law_unit {t : TS} {D : Ends} {H : Hp} {v0 : V} (h : t D [some v0, none] H) : t D (L2.start ["box", "way"] [v0]) H := h
theorem sc__law_unit : FnScope ["box", "way"] ["box"] (defScope s__law_unit) := ⟨rfl, rfl, rfl, by decide +kernel, rfl, by decide +kernel, by decide +kernel⟩
abbrev s__law_count : Stmt := top 19
theorem st__law_count {t : TS} {D : Ends} {H : Hp} {v0 v1 v2 : V} (h : t D [some v0, some v1, some v2, none] H) : t D (L2.start ["box", "unit", "brink", "way"] [v0, v1, v2]) H := h
theorem sc__law_count : FnScope ["box", "unit", "brink", "way"] ["box", "unit", "brink"] (defScope s__law_count) := ⟨rfl, rfl, rfl, by decide +kernel, rfl, by decide +kernel, by decide +kernel⟩
abbrev s__law_load : Stmt := top 20
theorem st__law_load {t : TS} {D : Ends} {H : Hp} {v0 v1 v2 v3 : V} (h : t D [some v0, some v1, some v2, some v3, none] H) : t D (L2.start ["box", "unit", "window", "count", "way"] [v0, v1, v2, v3]) H := h
theorem sc__law_load : FnScope ["box", "unit", "window", "count", "way"] ["box", "unit", "window", "count"] (defScope s__law_load) := ⟨rfl, rfl, rfl, by decide +kernel, rfl, by decide +kernel, by decide +kernel⟩
abbrev s__law_later : Stmt := top 21
theorem st__law_later {t : TS} {D : Ends} {H : Hp} {v0 v1 v2 : V} (h : t D [some v0, some v1, some v2, none] H) : t D (L2.start ["box", "now", "meet", "way"] [v0, v1, v2]) H := h
theorem sc__law_later : FnScope ["box", "now", "meet", "way"] ["box", "now", "meet"] (defScope s__law_later) := ⟨rfl, rfl, rfl, by decide +kernel, rfl, by decide +kernel, by decide +kernel⟩
abbrev s__law_bad : Stmt := top 22
theorem st__law_bad {t : TS} {D : Ends} {H : Hp} {v0 : V} (h : t D [some v0, none] H) : t D (L2.start ["box", "way"] [v0]) H := h
theorem sc__law_bad : FnScope ["box", "way"] ["box"] (defScope s__law_bad) := ⟨rfl, rfl, rfl, by decide +kernel, rfl, by decide +kernel, by decide +kernel⟩
abbrev s__law_refused : Stmt := top 23
theorem st__law_refused {t : TS} {D : Ends} {H : Hp} {v0 v1 v2 v3 : V} (h : t D [some v0, some v1, some v2, some v3, none, none, none] H) : t D (L2.start ["control", "bad", "load", "now", "refusals", "k", "error"] [v0, v1, v2, v3]) H := h
theorem sc__law_refused : FnScope ["control", "bad", "load", "now", "refusals", "k", "error"] ["control", "bad", "load", "now"] (defScope s__law_refused) := ⟨rfl, rfl, rfl, by decide +kernel, rfl, by decide +kernel, by decide +kernel⟩
abbrev s__law_whole : Stmt := top 24
theorem st__law_whole {t : TS} {D : Ends} {H : Hp} {v0 v1 : V} (h : t D [some v0, some v1] H) : t D (L2.start ["value", "wanted"] [v0, v1]) H := h
theorem sc__law_whole : FnScope ["value", "wanted"] ["value", "wanted"] (defScope s__law_whole) := ⟨rfl, rfl, rfl, by decide +kernel, rfl, by decide +kernel, by decide +kernel⟩
abbrev s__law_truth : Stmt := top 25
theorem st__law_truth {t : TS} {D : Ends} {H : Hp} {v0 v1 : V} (h : t D [some v0, some v1] H) : t D (L2.start ["value", "wanted"] [v0, v1]) H := h
theorem sc__law_truth : FnScope ["value", "wanted"] ["value", "wanted"] (defScope s__law_truth) := ⟨rfl, rfl, rfl, by decide +kernel, rfl, by decide +kernel, by decide +kernel⟩
abbrev s__law_base : Stmt := top 26
theorem st__law_base {t : TS} {D : Ends} {H : Hp} {v0 v1 : V} (h : t D [some v0, some v1] H) : t D (L2.start ["control", "state"] [v0, v1]) H := h
theorem sc__law_base : FnScope ["control", "state"] ["control", "state"] (defScope s__law_base) := ⟨rfl, rfl, rfl, by decide +kernel, rfl, by decide +kernel, by decide +kernel⟩
abbrev s__law_grown : Stmt := top 27
theorem st__law_grown {t : TS} {D : Ends} {H : Hp} {v0 v1 v2 v3 : V} (h : t D [some v0, some v1, some v2, some v3, none, none, none] H) : t D (L2.start ["state", "count", "window", "credit", "paid", "rises", "rest"] [v0, v1, v2, v3]) H := h
theorem sc__law_grown : FnScope ["state", "count", "window", "credit", "paid", "rises", "rest"] ["state", "count", "window", "credit"] (defScope s__law_grown) := ⟨rfl, rfl, rfl, by decide +kernel, rfl, by decide +kernel, by decide +kernel⟩
abbrev s__law_follow : Stmt := top 28
theorem st__law_follow {t : TS} {D : Ends} {H : Hp} {v0 v1 v2 : V} (h : t D [some v0, some v1, some v2, none, none] H) : t D (L2.start ["control", "state", "count", "window", "credit"] [v0, v1, v2]) H := h
theorem sc__law_follow : FnScope ["control", "state", "count", "window", "credit"] ["control", "state", "count"] (defScope s__law_follow) := ⟨rfl, rfl, rfl, by decide +kernel, rfl, by decide +kernel, by decide +kernel⟩
abbrev s__law_holds : Stmt := top 29
theorem st__law_holds {t : TS} {D : Ends} {H : Hp} {v0 v1 v2 : V} (h : t D [some v0, some v1, some v2] H) : t D (L2.start ["control", "state", "shift"] [v0, v1, v2]) H := h
theorem sc__law_holds : FnScope ["control", "state", "shift"] ["control", "state", "shift"] (defScope s__law_holds) := ⟨rfl, rfl, rfl, by decide +kernel, rfl, by decide +kernel, by decide +kernel⟩
abbrev s__law_follows : Stmt := top 30
theorem st__law_follows {t : TS} {D : Ends} {H : Hp} {v0 v1 v2 v3 : V} (h : t D [some v0, some v1, some v2, some v3, none] H) : t D (L2.start ["control", "state", "count", "now", "goal"] [v0, v1, v2, v3]) H := h
theorem sc__law_follows : FnScope ["control", "state", "count", "now", "goal"] ["control", "state", "count", "now"] (defScope s__law_follows) := ⟨rfl, rfl, rfl, by decide +kernel, rfl, by decide +kernel, by decide +kernel⟩
abbrev s__law_acked : Stmt := top 31
theorem st__law_acked {t : TS} {D : Ends} {H : Hp} {v0 v1 v2 v3 v4 : V} (h : t D [some v0, some v1, some v2, some v3, some v4] H) : t D (L2.start ["control", "state", "count", "load", "now"] [v0, v1, v2, v3, v4]) H := h
theorem sc__law_acked : FnScope ["control", "state", "count", "load", "now"] ["control", "state", "count", "load", "now"] (defScope s__law_acked) := ⟨rfl, rfl, rfl, by decide +kernel, rfl, by decide +kernel, by decide +kernel⟩
abbrev s__law_many : Stmt := top 32
theorem st__law_many {t : TS} {D : Ends} {H : Hp} {v0 v1 v2 v3 v4 : V} (h : t D [some v0, some v1, some v2, some v3, some v4, none, none, none, none, none] H) : t D (L2.start ["control", "twin", "state", "box", "clock", "times", "count", "stride", "k", "load"] [v0, v1, v2, v3, v4]) H := h
theorem sc__law_many : FnScope ["control", "twin", "state", "box", "clock", "times", "count", "stride", "k", "load"] ["control", "twin", "state", "box", "clock"] (defScope s__law_many) := ⟨rfl, rfl, rfl, by decide +kernel, rfl, by decide +kernel, by decide +kernel⟩
abbrev s__law_lost : Stmt := top 33
theorem st__law_lost {t : TS} {D : Ends} {H : Hp} {v0 v1 v2 v3 : V} (h : t D [some v0, some v1, some v2, some v3, none, none] H) : t D (L2.start ["control", "state", "load", "now", "span", "need"] [v0, v1, v2, v3]) H := h
theorem sc__law_lost : FnScope ["control", "state", "load", "now", "span", "need"] ["control", "state", "load", "now"] (defScope s__law_lost) := ⟨rfl, rfl, rfl, by decide +kernel, rfl, by decide +kernel, by decide +kernel⟩
abbrev s__law_expired : Stmt := top 34
theorem st__law_expired {t : TS} {D : Ends} {H : Hp} {v0 v1 v2 v3 : V} (h : t D [some v0, some v1, some v2, some v3] H) : t D (L2.start ["control", "state", "load", "now"] [v0, v1, v2, v3]) H := h
theorem sc__law_expired : FnScope ["control", "state", "load", "now"] ["control", "state", "load", "now"] (defScope s__law_expired) := ⟨rfl, rfl, rfl, by decide +kernel, rfl, by decide +kernel, by decide +kernel⟩
abbrev s__law_deed : Stmt := top 35
theorem st__law_deed {t : TS} {D : Ends} {H : Hp} {v0 v1 v2 v3 v4 : V} (h : t D [some v0, some v1, some v2, some v3, some v4, none, none, none, none, none] H) : t D (L2.start ["control", "twin", "state", "box", "clock", "choice", "now", "count", "load", "bad"] [v0, v1, v2, v3, v4]) H := h
theorem sc__law_deed : FnScope ["control", "twin", "state", "box", "clock", "choice", "now", "count", "load", "bad"] ["control", "twin", "state", "box", "clock"] (defScope s__law_deed) := ⟨rfl, rfl, rfl, by decide +kernel, rfl, by decide +kernel, by decide +kernel⟩
abbrev s__law_meet : Stmt := top 36
theorem st__law_meet {t : TS} {D : Ends} {H : Hp} {v0 v1 : V} (h : t D [some v0, some v1] H) : t D (L2.start ["state", "now"] [v0, v1]) H := h
theorem sc__law_meet : FnScope ["state", "now"] ["state", "now"] (defScope s__law_meet) := ⟨rfl, rfl, rfl, by decide +kernel, rfl, by decide +kernel, by decide +kernel⟩
abbrev s__law_all_hold : Stmt := top 37
theorem st__law_all_hold {t : TS} {D : Ends} {H : Hp} {v0 v1 v2 v3 : V} (h : t D [some v0, some v1, some v2, some v3, none] H) : t D (L2.start ["controls", "twins", "states", "shift", "k"] [v0, v1, v2, v3]) H := h
theorem sc__law_all_hold : FnScope ["controls", "twins", "states", "shift", "k"] ["controls", "twins", "states", "shift"] (defScope s__law_all_hold) := ⟨rfl, rfl, rfl, by decide +kernel, rfl, by decide +kernel, by decide +kernel⟩
abbrev s_law : Stmt := top 38
theorem st_law {t : TS} {D : Ends} {H : Hp} {v0 : V} (h : t D [some v0, none, none, none, none, none, none, none, none, none, none] H) : t D (L2.start ["script", "box", "units", "clock", "controls", "twins", "states", "k", "who", "state", "unit"] [v0]) H := h
theorem sc_law : FnScope ["script", "box", "units", "clock", "controls", "twins", "states", "k", "who", "state", "unit"] ["script"] (defScope s_law) := ⟨rfl, rfl, rfl, by decide +kernel, rfl, by decide +kernel, by decide +kernel⟩

set_option maxHeartbeats 0 in
structure Txt (K : PySem.W.Frag) (mg : Str → Option Value) where
  c_Control : Addr
  g_Control : mg "Control" = some (.ref c_Control)
  cl_Control : Cls K c_Control
  n_Control_unit : NoAttr K c_Control "unit"
  n_Control_window : NoAttr K c_Control "window"
  n_Control_threshold : NoAttr K c_Control "threshold"
  n_Control_credit : NoAttr K c_Control "credit"
  n_Control_stalled : NoAttr K c_Control "stalled"
  mc_Control : Value
  R_Control : ClX.CRead K c_Control mc_Control
  V_Control_GREATEST : ∃ u, ClX.CVal K c_Control mc_Control "GREATEST" (.int 4194304) u
  c_Climb : Addr
  g_Climb : mg "Climb" = some (.ref c_Climb)
  cl_Climb : Cls K c_Climb
  n_Climb_unit : NoAttr K c_Climb "unit"
  n_Climb_window : NoAttr K c_Climb "window"
  n_Climb_threshold : NoAttr K c_Climb "threshold"
  n_Climb_credit : NoAttr K c_Climb "credit"
  n_Climb_stalled : NoAttr K c_Climb "stalled"
  c_Curve : Addr
  g_Curve : mg "Curve" = some (.ref c_Curve)
  cl_Curve : Cls K c_Curve
  n_Curve_unit : NoAttr K c_Curve "unit"
  n_Curve_window : NoAttr K c_Curve "window"
  n_Curve_threshold : NoAttr K c_Curve "threshold"
  n_Curve_credit : NoAttr K c_Curve "credit"
  n_Curve_stalled : NoAttr K c_Curve "stalled"
  n_Curve_peak : NoAttr K c_Curve "peak"
  n_Curve_span : NoAttr K c_Curve "span"
  n_Curve_born : NoAttr K c_Curve "born"
  c_LossError : Addr
  c_InvalidNumber : Addr
  c_InvalidSetting : Addr
  a_InvalidNumber_init_ : Addr
  fd_InvalidNumber_init_ : FuncData
  F_InvalidNumber_init_ : Fun K "__init__" "InvalidNumber.__init__" s_InvalidNumber_init_ a_InvalidNumber_init_ fd_InvalidNumber_init_
  B_InvalidNumber_init_ : Binds K fd_InvalidNumber_init_ ["self", "number"] []
  a_InvalidSetting_init_ : Addr
  fd_InvalidSetting_init_ : FuncData
  F_InvalidSetting_init_ : Fun K "__init__" "InvalidSetting.__init__" s_InvalidSetting_init_ a_InvalidSetting_init_ fd_InvalidSetting_init_
  B_InvalidSetting_init_ : Binds K fd_InvalidSetting_init_ ["self", "setting"] []
  a_is_integer : Addr
  fd_is_integer : FuncData
  F_is_integer : Fun K "is_integer" "is_integer" s_is_integer a_is_integer fd_is_integer
  B_is_integer : Binds K fd_is_integer ["value"] []
  g_is_integer : mg "is_integer" = some (.ref a_is_integer)
  a_is_between : Addr
  fd_is_between : FuncData
  F_is_between : Fun K "is_between" "is_between" s_is_between a_is_between fd_is_between
  B_is_between : Binds K fd_is_between ["value", "low", "high"] []
  g_is_between : mg "is_between" = some (.ref a_is_between)
  a_require_new_bytes : Addr
  fd_require_new_bytes : FuncData
  F_require_new_bytes : Fun K "require_new_bytes" "require_new_bytes" s_require_new_bytes a_require_new_bytes fd_require_new_bytes
  B_require_new_bytes : Binds K fd_require_new_bytes ["count"] []
  g_require_new_bytes : mg "require_new_bytes" = some (.ref a_require_new_bytes)
  a_Control_init_ : Addr
  fd_Control_init_ : FuncData
  F_Control_init_ : Fun K "__init__" "Control.__init__" s_Control_init_ a_Control_init_ fd_Control_init_
  B_Control_init_ : Binds K fd_Control_init_ ["self", "unit"] []
  M_Control : Mk K c_Control a_Control_init_
  a_Control_starting : Addr
  fd_Control_starting : FuncData
  F_Control_starting : Fun K "starting" "Control.starting" s_Control_starting a_Control_starting fd_Control_starting
  B_Control_starting : Binds K fd_Control_starting ["self"] []
  p_Control_starting : Addr
  PR_Control_starting : PropOf K c_Control "starting" p_Control_starting a_Control_starting
  a_Control_on_ack : Addr
  fd_Control_on_ack : FuncData
  F_Control_on_ack : Fun K "on_ack" "Control.on_ack" s_Control_on_ack a_Control_on_ack fd_Control_on_ack
  B_Control_on_ack : Binds K fd_Control_on_ack ["self", "count", "flight", "now"] []
  m_Control_on_ack : Meth K c_Control "on_ack" a_Control_on_ack
  a_Control_on_expiry : Addr
  fd_Control_on_expiry : FuncData
  F_Control_on_expiry : Fun K "on_expiry" "Control.on_expiry" s_Control_on_expiry a_Control_on_expiry fd_Control_on_expiry
  B_Control_on_expiry : Binds K fd_Control_on_expiry ["self", "flight", "now"] []
  m_Control_on_expiry : Meth K c_Control "on_expiry" a_Control_on_expiry
  a_Control_on_sample : Addr
  fd_Control_on_sample : FuncData
  F_Control_on_sample : Fun K "on_sample" "Control.on_sample" s_Control_on_sample a_Control_on_sample fd_Control_on_sample
  B_Control_on_sample : Binds K fd_Control_on_sample ["self", "ticks"] []
  m_Control_on_sample : Meth K c_Control "on_sample" a_Control_on_sample
  a_Control_set_window : Addr
  fd_Control_set_window : FuncData
  F_Control_set_window : Fun K "_set_window" "Control._set_window" s_Control_set_window a_Control_set_window fd_Control_set_window
  B_Control_set_window : Binds K fd_Control_set_window ["self", "window"] []
  m_Control_set_window : Meth K c_Control "_set_window" a_Control_set_window
  a_Climb_on_ack : Addr
  fd_Climb_on_ack : FuncData
  cda_Climb_on_ack : Addr
  cc_Climb_on_ack : Addr
  F_Climb_on_ack : FunC K "on_ack" "Climb.on_ack" s_Climb_on_ack a_Climb_on_ack cda_Climb_on_ack cc_Climb_on_ack fd_Climb_on_ack
  SK_Climb_on_ack : SupK K a_Climb_on_ack cda_Climb_on_ack cc_Climb_on_ack c_Climb "self"
  B_Climb_on_ack : Binds K fd_Climb_on_ack ["self", "count", "flight", "now"] []
  m_Climb_on_ack : Meth K c_Climb "on_ack" a_Climb_on_ack
  a_Climb_grow : Addr
  fd_Climb_grow : FuncData
  F_Climb_grow : Fun K "grow" "Climb.grow" s_Climb_grow a_Climb_grow fd_Climb_grow
  B_Climb_grow : Binds K fd_Climb_grow ["self", "count", "now"] []
  m_Climb_grow : Meth K c_Climb "grow" a_Climb_grow
  a_Climb_step : Addr
  fd_Climb_step : FuncData
  F_Climb_step : Fun K "_step" "Climb._step" s_Climb_step a_Climb_step fd_Climb_step
  B_Climb_step : Binds K fd_Climb_step ["self"] []
  m_Climb_step : Meth K c_Climb "_step" a_Climb_step
  a_Climb_on_expiry : Addr
  fd_Climb_on_expiry : FuncData
  cda_Climb_on_expiry : Addr
  cc_Climb_on_expiry : Addr
  F_Climb_on_expiry : FunC K "on_expiry" "Climb.on_expiry" s_Climb_on_expiry a_Climb_on_expiry cda_Climb_on_expiry cc_Climb_on_expiry fd_Climb_on_expiry
  SK_Climb_on_expiry : SupK K a_Climb_on_expiry cda_Climb_on_expiry cc_Climb_on_expiry c_Climb "self"
  B_Climb_on_expiry : Binds K fd_Climb_on_expiry ["self", "flight", "now"] []
  m_Climb_on_expiry : Meth K c_Climb "on_expiry" a_Climb_on_expiry
  a_Climb_on_sample : Addr
  fd_Climb_on_sample : FuncData
  cda_Climb_on_sample : Addr
  cc_Climb_on_sample : Addr
  F_Climb_on_sample : FunC K "on_sample" "Climb.on_sample" s_Climb_on_sample a_Climb_on_sample cda_Climb_on_sample cc_Climb_on_sample fd_Climb_on_sample
  SK_Climb_on_sample : SupK K a_Climb_on_sample cda_Climb_on_sample cc_Climb_on_sample c_Climb "self"
  B_Climb_on_sample : Binds K fd_Climb_on_sample ["self", "ticks"] []
  m_Climb_on_sample : Meth K c_Climb "on_sample" a_Climb_on_sample
  a_Curve_init_ : Addr
  fd_Curve_init_ : FuncData
  cda_Curve_init_ : Addr
  cc_Curve_init_ : Addr
  F_Curve_init_ : FunC K "__init__" "Curve.__init__" s_Curve_init_ a_Curve_init_ cda_Curve_init_ cc_Curve_init_ fd_Curve_init_
  SK_Curve_init_ : SupK K a_Curve_init_ cda_Curve_init_ cc_Curve_init_ c_Curve "self"
  B_Curve_init_ : Binds K fd_Curve_init_ ["self", "unit"] []
  M_Curve : Mk K c_Curve a_Curve_init_
  a_Curve_on_ack : Addr
  fd_Curve_on_ack : FuncData
  cda_Curve_on_ack : Addr
  cc_Curve_on_ack : Addr
  F_Curve_on_ack : FunC K "on_ack" "Curve.on_ack" s_Curve_on_ack a_Curve_on_ack cda_Curve_on_ack cc_Curve_on_ack fd_Curve_on_ack
  SK_Curve_on_ack : SupK K a_Curve_on_ack cda_Curve_on_ack cc_Curve_on_ack c_Curve "self"
  B_Curve_on_ack : Binds K fd_Curve_on_ack ["self", "count", "flight", "now"] []
  m_Curve_on_ack : Meth K c_Curve "on_ack" a_Curve_on_ack
  a_Curve_grow : Addr
  fd_Curve_grow : FuncData
  cda_Curve_grow : Addr
  cc_Curve_grow : Addr
  F_Curve_grow : FunC K "grow" "Curve.grow" s_Curve_grow a_Curve_grow cda_Curve_grow cc_Curve_grow fd_Curve_grow
  SK_Curve_grow : SupK K a_Curve_grow cda_Curve_grow cc_Curve_grow c_Curve "self"
  B_Curve_grow : Binds K fd_Curve_grow ["self", "count", "now"] []
  m_Curve_grow : Meth K c_Curve "grow" a_Curve_grow
  a_Curve_on_loss : Addr
  fd_Curve_on_loss : FuncData
  F_Curve_on_loss : Fun K "on_loss" "Curve.on_loss" s_Curve_on_loss a_Curve_on_loss fd_Curve_on_loss
  B_Curve_on_loss : Binds K fd_Curve_on_loss ["self", "flight", "now"] []
  m_Curve_on_loss : Meth K c_Curve "on_loss" a_Curve_on_loss
  a_Curve_span_to : Addr
  fd_Curve_span_to : FuncData
  F_Curve_span_to : Fun K "_span_to" "Curve._span_to" s_Curve_span_to a_Curve_span_to fd_Curve_span_to
  B_Curve_span_to : Binds K fd_Curve_span_to ["self", "peak"] []
  m_Curve_span_to : Meth K c_Curve "_span_to" a_Curve_span_to
  a_Curve_on_expiry : Addr
  fd_Curve_on_expiry : FuncData
  cda_Curve_on_expiry : Addr
  cc_Curve_on_expiry : Addr
  F_Curve_on_expiry : FunC K "on_expiry" "Curve.on_expiry" s_Curve_on_expiry a_Curve_on_expiry cda_Curve_on_expiry cc_Curve_on_expiry fd_Curve_on_expiry
  SK_Curve_on_expiry : SupK K a_Curve_on_expiry cda_Curve_on_expiry cc_Curve_on_expiry c_Curve "self"
  B_Curve_on_expiry : Binds K fd_Curve_on_expiry ["self", "flight", "now"] []
  m_Curve_on_expiry : Meth K c_Curve "on_expiry" a_Curve_on_expiry
  a_Curve_on_sample : Addr
  fd_Curve_on_sample : FuncData
  cda_Curve_on_sample : Addr
  cc_Curve_on_sample : Addr
  F_Curve_on_sample : FunC K "on_sample" "Curve.on_sample" s_Curve_on_sample a_Curve_on_sample cda_Curve_on_sample cc_Curve_on_sample fd_Curve_on_sample
  SK_Curve_on_sample : SupK K a_Curve_on_sample cda_Curve_on_sample cc_Curve_on_sample c_Curve "self"
  B_Curve_on_sample : Binds K fd_Curve_on_sample ["self", "ticks"] []
  m_Curve_on_sample : Meth K c_Curve "on_sample" a_Curve_on_sample
  a__law_cell : Addr
  fd__law_cell : FuncData
  F__law_cell : Fun K "_law_cell" "_law_cell" s__law_cell a__law_cell fd__law_cell
  B__law_cell : Binds K fd__law_cell ["script", "k"] []
  g__law_cell : mg "_law_cell" = some (.ref a__law_cell)
  a__law_rounds : Addr
  fd__law_rounds : FuncData
  F__law_rounds : Fun K "_law_rounds" "_law_rounds" s__law_rounds a__law_rounds fd__law_rounds
  B__law_rounds : Binds K fd__law_rounds ["script"] []
  g__law_rounds : mg "_law_rounds" = some (.ref a__law_rounds)
  a__law_box : Addr
  fd__law_box : FuncData
  F__law_box : Fun K "_law_box" "_law_box" s__law_box a__law_box fd__law_box
  B__law_box : Binds K fd__law_box ["cell"] []
  g__law_box : mg "_law_box" = some (.ref a__law_box)
  a__law_draw : Addr
  fd__law_draw : FuncData
  F__law_draw : Fun K "_law_draw" "_law_draw" s__law_draw a__law_draw fd__law_draw
  B__law_draw : Binds K fd__law_draw ["box", "size"] []
  g__law_draw : mg "_law_draw" = some (.ref a__law_draw)
  a__law_unit : Addr
  fd__law_unit : FuncData
  F__law_unit : Fun K "_law_unit" "_law_unit" s__law_unit a__law_unit fd__law_unit
  B__law_unit : Binds K fd__law_unit ["box"] []
  g__law_unit : mg "_law_unit" = some (.ref a__law_unit)
  a__law_count : Addr
  fd__law_count : FuncData
  F__law_count : Fun K "_law_count" "_law_count" s__law_count a__law_count fd__law_count
  B__law_count : Binds K fd__law_count ["box", "unit", "brink"] []
  g__law_count : mg "_law_count" = some (.ref a__law_count)
  a__law_load : Addr
  fd__law_load : FuncData
  F__law_load : Fun K "_law_load" "_law_load" s__law_load a__law_load fd__law_load
  B__law_load : Binds K fd__law_load ["box", "unit", "window", "count"] []
  g__law_load : mg "_law_load" = some (.ref a__law_load)
  a__law_later : Addr
  fd__law_later : FuncData
  F__law_later : Fun K "_law_later" "_law_later" s__law_later a__law_later fd__law_later
  B__law_later : Binds K fd__law_later ["box", "now", "meet"] []
  g__law_later : mg "_law_later" = some (.ref a__law_later)
  a__law_bad : Addr
  fd__law_bad : FuncData
  F__law_bad : Fun K "_law_bad" "_law_bad" s__law_bad a__law_bad fd__law_bad
  B__law_bad : Binds K fd__law_bad ["box"] []
  g__law_bad : mg "_law_bad" = some (.ref a__law_bad)
  a__law_refused : Addr
  fd__law_refused : FuncData
  F__law_refused : Fun K "_law_refused" "_law_refused" s__law_refused a__law_refused fd__law_refused
  B__law_refused : Binds K fd__law_refused ["control", "bad", "load", "now"] []
  g__law_refused : mg "_law_refused" = some (.ref a__law_refused)
  a__law_whole : Addr
  fd__law_whole : FuncData
  F__law_whole : Fun K "_law_whole" "_law_whole" s__law_whole a__law_whole fd__law_whole
  B__law_whole : Binds K fd__law_whole ["value", "wanted"] []
  g__law_whole : mg "_law_whole" = some (.ref a__law_whole)
  a__law_truth : Addr
  fd__law_truth : FuncData
  F__law_truth : Fun K "_law_truth" "_law_truth" s__law_truth a__law_truth fd__law_truth
  B__law_truth : Binds K fd__law_truth ["value", "wanted"] []
  g__law_truth : mg "_law_truth" = some (.ref a__law_truth)
  a__law_base : Addr
  fd__law_base : FuncData
  F__law_base : Fun K "_law_base" "_law_base" s__law_base a__law_base fd__law_base
  B__law_base : Binds K fd__law_base ["control", "state"] []
  g__law_base : mg "_law_base" = some (.ref a__law_base)
  a__law_grown : Addr
  fd__law_grown : FuncData
  F__law_grown : Fun K "_law_grown" "_law_grown" s__law_grown a__law_grown fd__law_grown
  B__law_grown : Binds K fd__law_grown ["state", "count", "window", "credit"] []
  g__law_grown : mg "_law_grown" = some (.ref a__law_grown)
  a__law_follow : Addr
  fd__law_follow : FuncData
  F__law_follow : Fun K "_law_follow" "_law_follow" s__law_follow a__law_follow fd__law_follow
  B__law_follow : Binds K fd__law_follow ["control", "state", "count"] []
  g__law_follow : mg "_law_follow" = some (.ref a__law_follow)
  a__law_holds : Addr
  fd__law_holds : FuncData
  F__law_holds : Fun K "_law_holds" "_law_holds" s__law_holds a__law_holds fd__law_holds
  B__law_holds : Binds K fd__law_holds ["control", "state", "shift"] []
  g__law_holds : mg "_law_holds" = some (.ref a__law_holds)
  a__law_follows : Addr
  fd__law_follows : FuncData
  F__law_follows : Fun K "_law_follows" "_law_follows" s__law_follows a__law_follows fd__law_follows
  B__law_follows : Binds K fd__law_follows ["control", "state", "count", "now"] []
  g__law_follows : mg "_law_follows" = some (.ref a__law_follows)
  a__law_acked : Addr
  fd__law_acked : FuncData
  F__law_acked : Fun K "_law_acked" "_law_acked" s__law_acked a__law_acked fd__law_acked
  B__law_acked : Binds K fd__law_acked ["control", "state", "count", "load", "now"] []
  g__law_acked : mg "_law_acked" = some (.ref a__law_acked)
  a__law_many : Addr
  fd__law_many : FuncData
  F__law_many : Fun K "_law_many" "_law_many" s__law_many a__law_many fd__law_many
  B__law_many : Binds K fd__law_many ["control", "twin", "state", "box", "clock"] []
  g__law_many : mg "_law_many" = some (.ref a__law_many)
  a__law_lost : Addr
  fd__law_lost : FuncData
  F__law_lost : Fun K "_law_lost" "_law_lost" s__law_lost a__law_lost fd__law_lost
  B__law_lost : Binds K fd__law_lost ["control", "state", "load", "now"] []
  g__law_lost : mg "_law_lost" = some (.ref a__law_lost)
  a__law_expired : Addr
  fd__law_expired : FuncData
  F__law_expired : Fun K "_law_expired" "_law_expired" s__law_expired a__law_expired fd__law_expired
  B__law_expired : Binds K fd__law_expired ["control", "state", "load", "now"] []
  g__law_expired : mg "_law_expired" = some (.ref a__law_expired)
  a__law_deed : Addr
  fd__law_deed : FuncData
  F__law_deed : Fun K "_law_deed" "_law_deed" s__law_deed a__law_deed fd__law_deed
  B__law_deed : Binds K fd__law_deed ["control", "twin", "state", "box", "clock"] []
  g__law_deed : mg "_law_deed" = some (.ref a__law_deed)
  a__law_meet : Addr
  fd__law_meet : FuncData
  F__law_meet : Fun K "_law_meet" "_law_meet" s__law_meet a__law_meet fd__law_meet
  B__law_meet : Binds K fd__law_meet ["state", "now"] []
  g__law_meet : mg "_law_meet" = some (.ref a__law_meet)
  a__law_all_hold : Addr
  fd__law_all_hold : FuncData
  F__law_all_hold : Fun K "_law_all_hold" "_law_all_hold" s__law_all_hold a__law_all_hold fd__law_all_hold
  B__law_all_hold : Binds K fd__law_all_hold ["controls", "twins", "states", "shift"] []
  g__law_all_hold : mg "_law_all_hold" = some (.ref a__law_all_hold)
  a_law : Addr
  fd_law : FuncData
  F_law : Fun K "law" "law" s_law a_law fd_law
  B_law : Binds K fd_law ["script"] []
  g_law : mg "law" = some (.ref a_law)
  PR_Curve_starting : PropOf K c_Curve "starting" p_Control_starting a_Control_starting
  m_Curve_set_window : Meth K c_Curve "_set_window" a_Control_set_window
  m_Curve_step : Meth K c_Curve "_step" a_Climb_step
  M_Climb : Mk K c_Climb a_Control_init_
  SC_Curve_Climb_on_ack : SupC K c_Curve c_Climb "on_ack" a_Control_on_ack
  SC_Curve_Climb_on_expiry : SupC K c_Curve c_Climb "on_expiry" a_Control_on_expiry
  SC_Curve_Climb_on_sample : SupC K c_Curve c_Climb "on_sample" a_Control_on_sample
  SC_Curve_Curve_init_ : SupC K c_Curve c_Curve "__init__" a_Control_init_
  SC_Curve_Curve_on_ack : SupC K c_Curve c_Curve "on_ack" a_Climb_on_ack
  SC_Curve_Curve_grow : SupC K c_Curve c_Curve "grow" a_Climb_grow
  SC_Curve_Curve_on_expiry : SupC K c_Curve c_Curve "on_expiry" a_Climb_on_expiry
  SC_Curve_Curve_on_sample : SupC K c_Curve c_Curve "on_sample" a_Climb_on_sample
  X_LossError : GCls mg "LossError" c_LossError
  X_InvalidNumber : XCls K mg "InvalidNumber" c_InvalidNumber a_InvalidNumber_init_
  nX_InvalidNumber : PySem.W.findIn K (.ref c_InvalidNumber) "number" = some none
  X_InvalidSetting : XCls K mg "InvalidSetting" c_InvalidSetting a_InvalidSetting_init_
  nX_InvalidSetting : PySem.W.findIn K (.ref c_InvalidSetting) "setting" = some none
  Me_InvalidNumber_InvalidNumber : PySem.W.exmOne K (.ref c_InvalidNumber) (.ref c_InvalidNumber) = some true
  b_bool : mg "bool" = none
  b_int : mg "int" = none
  b_isinstance : mg "isinstance" = none
  b_len : mg "len" = none
  b_max : mg "max" = none
  b_min : mg "min" = none
  b_property : mg "property" = none
  b_range : mg "range" = none
  b_sum : mg "sum" = none
  b_super : mg "super" = none

section
variable {P : Program} {w : World} {K : PySem.W.Frag} {mg : Str → Option Value} {base : Heap}
variable [SP0 : SupP P]
/-! ### kinds of values -/
/-- whether x is an int and no bool, by its kind -/
def IntK (K : PySem.W.Frag) (H : Hp) (x : V) (r : Bool) : Prop := ∃ (t : Value) (i b : Bool), TyX K H x t ∧ PySem.W.kitOne K t (.type "int") = some i ∧ PySem.W.kitOne K t (.type "bool") = some b ∧ r = (i && !b)
theorem intK_int {K : PySem.W.Frag} {H : Hp} (n : Int) : IntK K H (.int n) true := ⟨.type "int", true, false, .base (.int n), kit_ty (by decide +kernel), kit_ty (by decide +kernel), rfl⟩
/-- isinstance(x, int) and not isinstance(x, bool) -/
def sp_is_integer (K : PySem.W.Frag) : Sp := fun vs H Q _ => ∃ (x : V) (r : Bool), vs = [x] ∧ IntK K H x r ∧ Q (.bl r) H
def sp_is_between (K : PySem.W.Frag) : Sp := fun vs H Q _ => ∃ (x : V) (lo hi : Int), vs = [x, .int lo, .int hi] ∧ ((∃ n, x = .int n ∧ Q (.bl (decide (lo ≤ n) && decide (n ≤ hi))) H) ∨ (IntK K H x false ∧ Q (.bl false) H))
theorem ok_is_integer (T : Txt K mg) : FnOk P w K mg base CX0 1 T.a_is_integer T.fd_is_integer ["value"] (sp_is_integer K) := by
  have S := sc_is_integer
  refine T.F_is_integer.ok S (fun vs H Q E h => ?_) (fun cdv A outer s H vs Q E hr h => ?_)
  · obtain ⟨x, r, rfl, _⟩ := h
    rfl
  · obtain ⟨x, r, rfl, ⟨t, i, b, ty, hi, hb, rfl⟩, k⟩ := h
    refine ⟨_, (pss_one (ps_ret (pe_and (pe_callB (id := "isinstance") call_isi (by rfl) T.b_isinstance (by decide +kernel) (pa_cons (pv 0) (pa_cons (pe_bltn (v := .ty "int") (u := .type "int") (by rfl) T.b_int (by decide +kernel) rfl) pa_nil))) (pe_one (pe_not (pe_callB (id := "isinstance") call_isi (by rfl) T.b_isinstance (by decide +kernel) (pa_cons (pv 0) (pa_cons (pe_bltn (v := .ty "bool") (u := .type "bool") (by rfl) T.b_bool (by decide +kernel) rfl) pa_nil)))))))), ?_⟩
    refine ⟨_, rfl, _, _, _, _, i, rfl, .ty _, ty, hi, i, rfl, ?_⟩
    cases i with
    | false => exact iteF k
    | true => exact iteT ⟨_, rfl, _, _, _, _, b, rfl, .ty _, ty, hb, b, rfl, k⟩
theorem ok_is_between (T : Txt K mg) : FnOk P w K mg base CX0 2 T.a_is_between T.fd_is_between ["value", "low", "high"] (sp_is_between K) := by
  have S := sc_is_between
  refine T.F_is_between.ok S (fun vs H Q E h => ?_) (fun cdv A outer s H vs Q E hr h => ?_)
  · obtain ⟨x, lo, hi, rfl, _⟩ := h
    rfl
  · obtain ⟨x, lo, hi, rfl, h⟩ := h
    refine ⟨_, (pss_one (ps_ret (pe_and (pe_call (ok_is_integer T) (hr.mono (by decide)) rfl T.g_is_integer T.F_is_integer.kp T.B_is_integer .nil pass0 (pa_cons (pv 0) pa_nil)) (pe_one (pe_chain op_le op_le (pv 1) (pv 0) (pv 2)))))), ?_⟩
    rcases h with ⟨n, rfl, k⟩ | ⟨hk, k⟩
    · refine ⟨_, rfl, _, true, rfl, intK_int n, true, rfl, iteT ?_⟩
      refine ⟨_, rfl, _, rfl, _, _, rfl, rfl, _, rfl, ?_⟩
      by_cases q : lo ≤ n
      · rw [decide_eq_true q, Bool.true_and] at k
        rw [decide_eq_true q]
        exact iteT ⟨_, rfl, _, _, rfl, rfl, k⟩
      · rw [decide_eq_false q, Bool.false_and] at k
        rw [decide_eq_false q]
        exact iteF k
    · exact ⟨_, rfl, _, false, rfl, hk, false, rfl, iteF k⟩
/-! ### sequences, items by their kinds -/
theorem tyX_same {K : PySem.W.Frag} {H H' : Hp} {x : V} {t : Value} (h : TyX K H x t) (s : Same H H') : TyX K H' x t := by
  cases h with
  | base b =>
    refine .base ?_
    cases b with
    | non => exact .non
    | bl y => exact .bl y
    | int i => exact .int i
    | str y => exact .str y
    | flt y => exact .flt y
    | lst e => exact .lst (s _ _ e)
    | frz e => exact .frz (s _ _ e)
    | tup e => exact .tup (s _ _ e)
    | dK e => exact .dK (s _ _ e)
    | dT e => exact .dT (s _ _ e)
    | ins e cl ha hn ht hm => exact .ins (s _ _ e) cl ha hn ht hm
  | byt b => exact .byt b
  | set e => exact .set (s _ _ e)
  | kList e c => exact .kList e c
  | kTuple e c => exact .kTuple e c
  | kDict e c => exact .kDict e c
  | fTuple e => exact .fTuple (s _ _ e)
  | fDict e => exact .fDict (s _ _ e)
theorem IntK.same {K : PySem.W.Frag} {H H' : Hp} {x : V} {r : Bool} (h : IntK K H x r) (s : Same H H') : IntK K H' x r := by
  obtain ⟨t, i, b, ty, h1, h2, h3⟩ := h
  exact ⟨t, i, b, tyX_same ty s, h1, h2, h3⟩
/-- x is the int n, or no int at all -/
def Kd (K : PySem.W.Frag) (H : Hp) (x : V) : Option Int → Prop
  | some n => x = .int n
  | none => IntK K H x false
theorem Kd.same {K : PySem.W.Frag} {H H' : Hp} {x : V} {o : Option Int} (h : Kd K H x o) (s : Same H H') : Kd K H' x o := by
  cases o with
  | some n => exact h
  | none => exact IntK.same h s
/-- what lies in lo .. hi -/
def inR (lo hi : Int) : Option Int → Bool
  | some n => decide (lo ≤ n) && decide (n ≤ hi)
  | none => false
/-- a list or a tuple -/
def SeqA (K : PySem.W.Frag) (H : Hp) (a : Addr) (xs : List V) : Prop := SqL K H a xs ∨ SqT K H a xs
theorem SeqA.lst {K : PySem.W.Frag} {H : Hp} {a : Addr} {xs : List V} (h : H a = some (.lst xs)) : SeqA K H a xs := .inl (SqL.of h)
theorem SeqA.tup {K : PySem.W.Frag} {H : Hp} {a : Addr} {xs : List V} (h : H a = some (.tup xs)) : SeqA K H a xs := .inr (SqT.of h)
theorem SeqA.sm {K : PySem.W.Frag} {H H' : Hp} {a : Addr} {xs : List V} (h : SeqA K H a xs) (s : Same H H') : SeqA K H' a xs := h.elim (fun h => .inl (s.seq h)) fun h => .inr (sqT_sm h s)
/-- whether x is a sequence, by its kind -/
def SeqK (K : PySem.W.Frag) (H : Hp) (x : V) (r : Bool) : Prop := ∃ t, TyX K H x t ∧ PySem.W.kitAny K t [.type "list", .type "tuple"] = some r
theorem kit2 {K : PySem.W.Frag} {t : Value} {a b : Bool} (h1 : PySem.W.kitOne K t (.type "list") = some a) (h2 : PySem.W.kitOne K t (.type "tuple") = some b) : PySem.W.kitAny K t [.type "list", .type "tuple"] = some (a || b) := by
  unfold PySem.W.kitAny
  rw [h1]
  cases a with
  | true => rfl
  | false =>
    show PySem.W.kitAny K t [.type "tuple"] = some b
    unfold PySem.W.kitAny
    rw [h2]
    cases b <;> rfl
theorem seqK_ty {K : PySem.W.Frag} {H : Hp} {x : V} {n : String} {a b : Bool} (t : TyX K H x (.type n)) (h1 : kitB n "list" = some a) (h2 : kitB n "tuple" = some b) : SeqK K H x (a || b) := ⟨_, t, kit2 (kit_ty h1) (kit_ty h2)⟩
theorem seqK_of {K : PySem.W.Frag} {H : Hp} {a : Addr} {xs : List V} (h : SeqA K H a xs) : SeqK K H (.ref a) true := by
  rcases h with h | h
  · rcases h with (h | ⟨o, h⟩) | ⟨o, its, n, hk, hc, _⟩
    · exact seqK_ty (a := true) (b := false) (.base (.lst h)) (by decide +kernel) (by decide +kernel)
    · exact seqK_ty (a := true) (b := false) (.base (.frz h)) (by decide +kernel) (by decide +kernel)
    · exact seqK_ty (a := true) (b := false) (.kList hk hc) (by decide +kernel) (by decide +kernel)
  · rcases h with (h | ⟨o, h⟩) | ⟨o, its, n, hk, hc, _⟩
    · exact seqK_ty (a := false) (b := true) (.base (.tup h)) (by decide +kernel) (by decide +kernel)
    · exact seqK_ty (a := false) (b := true) (.fTuple h) (by decide +kernel) (by decide +kernel)
    · exact seqK_ty (a := false) (b := true) (.kTuple hk hc) (by decide +kernel) (by decide +kernel)
/-! ### lists stay lists -/
def Typ (H H' : Hp) : Prop := ∀ a o, H a = some o → H' a = some o ∨ ((∃ xs, o = .lst xs) ∧ ∃ ys, H' a = some (.lst ys))
theorem Typ.refl (H : Hp) : Typ H H := fun _ _ h => .inl h
theorem Typ.of {H H' : Hp} (s : Same H H') : Typ H H' := fun _ _ h => .inl (s _ _ h)
theorem Typ.trans {H H1 H2 : Hp} (x : Typ H H1) (y : Typ H1 H2) : Typ H H2 := fun a o h => by
  rcases x a o h with h1 | ⟨hx, ys, h1⟩
  · exact y a o h1
  · rcases y a _ h1 with h2 | ⟨_, zs, h2⟩
    · exact .inr ⟨hx, ys, h2⟩
    · exact .inr ⟨hx, zs, h2⟩
theorem Typ.upd {H : Hp} {a : Addr} {xs ys : List V} (h : H a = some (.lst xs)) : Typ H (L2.upd H a (.lst ys)) := fun b o hb => by
  by_cases q : b = a
  · subst q
    rw [h] at hb
    cases hb
    exact .inr ⟨⟨_, rfl⟩, ys, upd_same⟩
  · exact .inl (by rw [upd_ne q]; exact hb)
theorem Typ.purse {H H' : Hp} {p c : Addr} (P : Purse p c H) (P' : Purse p c H') (s : SameX p H H') : Typ H H' := fun b o hb => by
  by_cases q : b = p
  · subst q
    obtain ⟨⟨xs, h⟩, _⟩ := P.there
    obtain ⟨⟨ys, h'⟩, _⟩ := P'.there
    rw [h] at hb
    cases hb
    exact .inr ⟨⟨_, rfl⟩, ys, h'⟩
  · exact .inl (s b o q hb)
theorem tyX_typ {K : PySem.W.Frag} {H H' : Hp} {x : V} {t : Value} (h : TyX K H x t) (s : Typ H H') : TyX K H' x t := by
  cases h with
  | base b =>
    refine .base ?_
    cases b with
    | non => exact .non
    | bl y => exact .bl y
    | int i => exact .int i
    | str y => exact .str y
    | flt y => exact .flt y
    | lst e => exact (s _ _ e).elim (fun h => .lst h) fun ⟨_, ys, h⟩ => .lst h
    | frz e => exact (s _ _ e).elim (fun h => .frz h) fun ⟨⟨_, z⟩, _⟩ => nomatch z
    | tup e => exact (s _ _ e).elim (fun h => .tup h) fun ⟨⟨_, z⟩, _⟩ => nomatch z
    | dK e => exact (s _ _ e).elim (fun h => .dK h) fun ⟨⟨_, z⟩, _⟩ => nomatch z
    | dT e => exact (s _ _ e).elim (fun h => .dT h) fun ⟨⟨_, z⟩, _⟩ => nomatch z
    | ins e cl ha hn ht hm => exact (s _ _ e).elim (fun h => .ins h cl ha hn ht hm) fun ⟨⟨_, z⟩, _⟩ => nomatch z
  | byt b => exact .byt b
  | set e => exact (s _ _ e).elim (fun h => .set h) fun ⟨⟨_, z⟩, _⟩ => nomatch z
  | kList e c => exact .kList e c
  | kTuple e c => exact .kTuple e c
  | kDict e c => exact .kDict e c
  | fTuple e => exact (s _ _ e).elim (fun h => .fTuple h) fun ⟨⟨_, z⟩, _⟩ => nomatch z
  | fDict e => exact (s _ _ e).elim (fun h => .fDict h) fun ⟨⟨_, z⟩, _⟩ => nomatch z
theorem Kd.typ {K : PySem.W.Frag} {H H' : Hp} {x : V} {o : Option Int} (h : Kd K H x o) (s : Typ H H') : Kd K H' x o := by
  cases o with
  | some n => exact h
  | none =>
    obtain ⟨t, i, b, ty, h1, h2, h3⟩ := (show IntK K H x false from h)
    exact ⟨t, i, b, tyX_typ ty s, h1, h2, h3⟩
theorem intK_no {K : PySem.W.Frag} {H : Hp} {x : V} {n : String} {i b : Bool} (t : TyX K H x (.type n)) (h1 : kitB n "int" = some i) (h2 : kitB n "bool" = some b) (h : (i && !b) = false) : IntK K H x false := ⟨_, i, b, t, kit_ty h1, kit_ty h2, h.symm⟩
theorem ixN_nat {n j : Nat} {z : Int} (e : z = (j : Int)) (h : j < n) : ixN n z = some j := by
  subst e
  unfold ixN
  rw [if_pos (by omega), if_pos (by omega)]
  rfl
/-! ### equality of words -/
theorem dec_int (a b : Int) : decide (V.int a = V.int b) = decide (a = b) := by
  by_cases e : a = b
  · rw [decide_eq_true e, decide_eq_true (congrArg V.int e)]
  · rw [decide_eq_false e, decide_eq_false (fun q => e (V.int.inj q))]
theorem dec_bl (a b : Bool) : decide (V.bl a = V.bl b) = (a == b) := by
  cases a <;> cases b <;> rfl
/-! ### steps: readings by their form -/
section
variable {K : PySem.W.Frag} {σ : L2.St} {H : Hp} {Q : VK} {QL : List V → Hp → Prop} {QB : Bool → Hp → Prop} {QO : Option Int → Hp → Prop} {QS : L2.St → Hp → Prop} {v w : V} {a0 a1 a2 a3 a4 a5 a6 a7 a8 a9 a10 a11 a12 a13 a14 a15 a16 a17 a18 a19 : Option V} {te tb tc : TE} {ta : TA} {t u : TT} {ts us : TS} {D : Ends} {g : TG}
def rTupOf (K : PySem.W.Frag) : List V → Hp → VK → Prop := fun xs H Q => ∃ p ys, xs = [.ref p] ∧ ((SqL K H p ys ∧ ∀ l, H l = none → Q (.ref l) (L2.upd H l (.tup ys))) ∨ SqT K H p ys ∧ Q (.ref p) H)
theorem call_tupK {X : Cx} {K : PySem.W.Frag} (e : X.K = K) : CallR X (.type "tuple") (rTupOf K) := e ▸ call_tuple_of
def rLstOf (K : PySem.W.Frag) : List V → Hp → VK → Prop := fun xs H Q => ∃ p ys, xs = [.ref p] ∧ (SqL K H p ys ∨ SqT K H p ys) ∧ ∀ l, H l = none → Q (.ref l) (L2.upd H l (.lst ys))
theorem call_listK {X : Cx} {K : PySem.W.Frag} (e : X.K = K) : CallR X (.type "list") (rLstOf K) := e ▸ call_list_of
def rLenOf (K : PySem.W.Frag) : List V → Hp → VK → Prop := fun xs H Q => ∃ p ys, xs = [.ref p] ∧ (SqL K H p ys ∨ SqT K H p ys) ∧ Q (.int (ys.length : Int)) H
theorem call_lenK {X : Cx} {K : PySem.W.Frag} (e : X.K = K) : CallR X (.builtin "len") (rLenOf K) := e ▸ call_len_seq
theorem all_cons {α : Type} {p : α → Prop} {a : α} {l : List α} (h : p a) (r : ∀ q ∈ l, p q) : ∀ q ∈ a :: l, p q := fun q hq => by
  rcases List.mem_cons.mp hq with e | e
  · rw [e]; exact h
  · exact r q e
theorem x_v0 (q : Q v H) : tVar 0 (some v :: σ) H Q := ⟨_, rfl, q⟩
theorem x_g0 (q : QS (some v :: σ) H) : gName 0 v (a0 :: σ) H QS := q
theorem x_v1 (q : Q v H) : tVar 1 (a0 :: some v :: σ) H Q := ⟨_, rfl, q⟩
theorem x_g1 (q : QS (a0 :: some v :: σ) H) : gName 1 v (a0 :: a1 :: σ) H QS := q
theorem x_v2 (q : Q v H) : tVar 2 (a0 :: a1 :: some v :: σ) H Q := ⟨_, rfl, q⟩
theorem x_g2 (q : QS (a0 :: a1 :: some v :: σ) H) : gName 2 v (a0 :: a1 :: a2 :: σ) H QS := q
theorem x_v3 (q : Q v H) : tVar 3 (a0 :: a1 :: a2 :: some v :: σ) H Q := ⟨_, rfl, q⟩
theorem x_g3 (q : QS (a0 :: a1 :: a2 :: some v :: σ) H) : gName 3 v (a0 :: a1 :: a2 :: a3 :: σ) H QS := q
theorem x_v4 (q : Q v H) : tVar 4 (a0 :: a1 :: a2 :: a3 :: some v :: σ) H Q := ⟨_, rfl, q⟩
theorem x_g4 (q : QS (a0 :: a1 :: a2 :: a3 :: some v :: σ) H) : gName 4 v (a0 :: a1 :: a2 :: a3 :: a4 :: σ) H QS := q
theorem x_v5 (q : Q v H) : tVar 5 (a0 :: a1 :: a2 :: a3 :: a4 :: some v :: σ) H Q := ⟨_, rfl, q⟩
theorem x_g5 (q : QS (a0 :: a1 :: a2 :: a3 :: a4 :: some v :: σ) H) : gName 5 v (a0 :: a1 :: a2 :: a3 :: a4 :: a5 :: σ) H QS := q
theorem x_v6 (q : Q v H) : tVar 6 (a0 :: a1 :: a2 :: a3 :: a4 :: a5 :: some v :: σ) H Q := ⟨_, rfl, q⟩
theorem x_g6 (q : QS (a0 :: a1 :: a2 :: a3 :: a4 :: a5 :: some v :: σ) H) : gName 6 v (a0 :: a1 :: a2 :: a3 :: a4 :: a5 :: a6 :: σ) H QS := q
theorem x_v7 (q : Q v H) : tVar 7 (a0 :: a1 :: a2 :: a3 :: a4 :: a5 :: a6 :: some v :: σ) H Q := ⟨_, rfl, q⟩
theorem x_g7 (q : QS (a0 :: a1 :: a2 :: a3 :: a4 :: a5 :: a6 :: some v :: σ) H) : gName 7 v (a0 :: a1 :: a2 :: a3 :: a4 :: a5 :: a6 :: a7 :: σ) H QS := q
theorem x_v8 (q : Q v H) : tVar 8 (a0 :: a1 :: a2 :: a3 :: a4 :: a5 :: a6 :: a7 :: some v :: σ) H Q := ⟨_, rfl, q⟩
theorem x_g8 (q : QS (a0 :: a1 :: a2 :: a3 :: a4 :: a5 :: a6 :: a7 :: some v :: σ) H) : gName 8 v (a0 :: a1 :: a2 :: a3 :: a4 :: a5 :: a6 :: a7 :: a8 :: σ) H QS := q
theorem x_v9 (q : Q v H) : tVar 9 (a0 :: a1 :: a2 :: a3 :: a4 :: a5 :: a6 :: a7 :: a8 :: some v :: σ) H Q := ⟨_, rfl, q⟩
theorem x_g9 (q : QS (a0 :: a1 :: a2 :: a3 :: a4 :: a5 :: a6 :: a7 :: a8 :: some v :: σ) H) : gName 9 v (a0 :: a1 :: a2 :: a3 :: a4 :: a5 :: a6 :: a7 :: a8 :: a9 :: σ) H QS := q
theorem x_v10 (q : Q v H) : tVar 10 (a0 :: a1 :: a2 :: a3 :: a4 :: a5 :: a6 :: a7 :: a8 :: a9 :: some v :: σ) H Q := ⟨_, rfl, q⟩
theorem x_g10 (q : QS (a0 :: a1 :: a2 :: a3 :: a4 :: a5 :: a6 :: a7 :: a8 :: a9 :: some v :: σ) H) : gName 10 v (a0 :: a1 :: a2 :: a3 :: a4 :: a5 :: a6 :: a7 :: a8 :: a9 :: a10 :: σ) H QS := q
theorem x_v11 (q : Q v H) : tVar 11 (a0 :: a1 :: a2 :: a3 :: a4 :: a5 :: a6 :: a7 :: a8 :: a9 :: a10 :: some v :: σ) H Q := ⟨_, rfl, q⟩
theorem x_g11 (q : QS (a0 :: a1 :: a2 :: a3 :: a4 :: a5 :: a6 :: a7 :: a8 :: a9 :: a10 :: some v :: σ) H) : gName 11 v (a0 :: a1 :: a2 :: a3 :: a4 :: a5 :: a6 :: a7 :: a8 :: a9 :: a10 :: a11 :: σ) H QS := q
theorem x_v12 (q : Q v H) : tVar 12 (a0 :: a1 :: a2 :: a3 :: a4 :: a5 :: a6 :: a7 :: a8 :: a9 :: a10 :: a11 :: some v :: σ) H Q := ⟨_, rfl, q⟩
theorem x_g12 (q : QS (a0 :: a1 :: a2 :: a3 :: a4 :: a5 :: a6 :: a7 :: a8 :: a9 :: a10 :: a11 :: some v :: σ) H) : gName 12 v (a0 :: a1 :: a2 :: a3 :: a4 :: a5 :: a6 :: a7 :: a8 :: a9 :: a10 :: a11 :: a12 :: σ) H QS := q
theorem x_v13 (q : Q v H) : tVar 13 (a0 :: a1 :: a2 :: a3 :: a4 :: a5 :: a6 :: a7 :: a8 :: a9 :: a10 :: a11 :: a12 :: some v :: σ) H Q := ⟨_, rfl, q⟩
theorem x_g13 (q : QS (a0 :: a1 :: a2 :: a3 :: a4 :: a5 :: a6 :: a7 :: a8 :: a9 :: a10 :: a11 :: a12 :: some v :: σ) H) : gName 13 v (a0 :: a1 :: a2 :: a3 :: a4 :: a5 :: a6 :: a7 :: a8 :: a9 :: a10 :: a11 :: a12 :: a13 :: σ) H QS := q
theorem x_v14 (q : Q v H) : tVar 14 (a0 :: a1 :: a2 :: a3 :: a4 :: a5 :: a6 :: a7 :: a8 :: a9 :: a10 :: a11 :: a12 :: a13 :: some v :: σ) H Q := ⟨_, rfl, q⟩
theorem x_g14 (q : QS (a0 :: a1 :: a2 :: a3 :: a4 :: a5 :: a6 :: a7 :: a8 :: a9 :: a10 :: a11 :: a12 :: a13 :: some v :: σ) H) : gName 14 v (a0 :: a1 :: a2 :: a3 :: a4 :: a5 :: a6 :: a7 :: a8 :: a9 :: a10 :: a11 :: a12 :: a13 :: a14 :: σ) H QS := q
theorem x_v15 (q : Q v H) : tVar 15 (a0 :: a1 :: a2 :: a3 :: a4 :: a5 :: a6 :: a7 :: a8 :: a9 :: a10 :: a11 :: a12 :: a13 :: a14 :: some v :: σ) H Q := ⟨_, rfl, q⟩
theorem x_g15 (q : QS (a0 :: a1 :: a2 :: a3 :: a4 :: a5 :: a6 :: a7 :: a8 :: a9 :: a10 :: a11 :: a12 :: a13 :: a14 :: some v :: σ) H) : gName 15 v (a0 :: a1 :: a2 :: a3 :: a4 :: a5 :: a6 :: a7 :: a8 :: a9 :: a10 :: a11 :: a12 :: a13 :: a14 :: a15 :: σ) H QS := q
theorem x_v16 (q : Q v H) : tVar 16 (a0 :: a1 :: a2 :: a3 :: a4 :: a5 :: a6 :: a7 :: a8 :: a9 :: a10 :: a11 :: a12 :: a13 :: a14 :: a15 :: some v :: σ) H Q := ⟨_, rfl, q⟩
theorem x_g16 (q : QS (a0 :: a1 :: a2 :: a3 :: a4 :: a5 :: a6 :: a7 :: a8 :: a9 :: a10 :: a11 :: a12 :: a13 :: a14 :: a15 :: some v :: σ) H) : gName 16 v (a0 :: a1 :: a2 :: a3 :: a4 :: a5 :: a6 :: a7 :: a8 :: a9 :: a10 :: a11 :: a12 :: a13 :: a14 :: a15 :: a16 :: σ) H QS := q
theorem x_v17 (q : Q v H) : tVar 17 (a0 :: a1 :: a2 :: a3 :: a4 :: a5 :: a6 :: a7 :: a8 :: a9 :: a10 :: a11 :: a12 :: a13 :: a14 :: a15 :: a16 :: some v :: σ) H Q := ⟨_, rfl, q⟩
theorem x_g17 (q : QS (a0 :: a1 :: a2 :: a3 :: a4 :: a5 :: a6 :: a7 :: a8 :: a9 :: a10 :: a11 :: a12 :: a13 :: a14 :: a15 :: a16 :: some v :: σ) H) : gName 17 v (a0 :: a1 :: a2 :: a3 :: a4 :: a5 :: a6 :: a7 :: a8 :: a9 :: a10 :: a11 :: a12 :: a13 :: a14 :: a15 :: a16 :: a17 :: σ) H QS := q
theorem x_v18 (q : Q v H) : tVar 18 (a0 :: a1 :: a2 :: a3 :: a4 :: a5 :: a6 :: a7 :: a8 :: a9 :: a10 :: a11 :: a12 :: a13 :: a14 :: a15 :: a16 :: a17 :: some v :: σ) H Q := ⟨_, rfl, q⟩
theorem x_g18 (q : QS (a0 :: a1 :: a2 :: a3 :: a4 :: a5 :: a6 :: a7 :: a8 :: a9 :: a10 :: a11 :: a12 :: a13 :: a14 :: a15 :: a16 :: a17 :: some v :: σ) H) : gName 18 v (a0 :: a1 :: a2 :: a3 :: a4 :: a5 :: a6 :: a7 :: a8 :: a9 :: a10 :: a11 :: a12 :: a13 :: a14 :: a15 :: a16 :: a17 :: a18 :: σ) H QS := q
theorem x_v19 (q : Q v H) : tVar 19 (a0 :: a1 :: a2 :: a3 :: a4 :: a5 :: a6 :: a7 :: a8 :: a9 :: a10 :: a11 :: a12 :: a13 :: a14 :: a15 :: a16 :: a17 :: a18 :: some v :: σ) H Q := ⟨_, rfl, q⟩
theorem x_g19 (q : QS (a0 :: a1 :: a2 :: a3 :: a4 :: a5 :: a6 :: a7 :: a8 :: a9 :: a10 :: a11 :: a12 :: a13 :: a14 :: a15 :: a16 :: a17 :: a18 :: some v :: σ) H) : gName 19 v (a0 :: a1 :: a2 :: a3 :: a4 :: a5 :: a6 :: a7 :: a8 :: a9 :: a10 :: a11 :: a12 :: a13 :: a14 :: a15 :: a16 :: a17 :: a18 :: a19 :: σ) H QS := q
theorem x_c (q : Q v H) : tC v σ H Q := q
theorem x_op {r : R2} (q : te σ H fun x H1 => tb σ H1 fun y H2 => r x y H2 Q) : tOp r te tb σ H Q := q
theorem x_un {r : V → Hp → VK → Prop} (q : te σ H fun x H1 => r x H1 Q) : tUn r te σ H Q := q
theorem x_test (q : te σ H fun x H1 => ∃ k, x = .bl k ∧ QB k H1) : tTest te σ H QB := q
theorem x_tB (q : te σ H fun x H1 => ∃ k, x = .bl k ∧ QB k H1) : tB te σ H QB := q
theorem x_and (q : t σ H fun c H1 => if c = true then u σ H1 QB else QB false H1) : tAnd t u σ H QB := q
theorem x_or (q : t σ H fun c H1 => if c = true then QB true H1 else u σ H1 QB) : tOr t u σ H QB := q
theorem x_not (q : t σ H fun c H1 => QB (!c) H1) : tNot t σ H QB := q
theorem x_andV (q : te σ H fun x H1 => ∃ c, x = .bl c ∧ if c = true then tb σ H1 Q else Q (.bl false) H1) : tAndV te tb σ H Q := q
theorem x_orV (q : te σ H fun x H1 => ∃ c, x = .bl c ∧ if c = true then Q (.bl true) H1 else tb σ H1 Q) : tOrV te tb σ H Q := q
theorem x_notV (q : te σ H fun x H1 => ∃ c, x = .bl c ∧ Q (.bl (!c)) H1) : tNotV te σ H Q := q
theorem x_if (q : t σ H fun c H1 => if c = true then te σ H1 Q else tb σ H1 Q) : tIf t te tb σ H Q := q
theorem x_ifS (q : t σ H fun b H1 => if b = true then ts D σ H1 else us D σ H1) : tIfS t ts us D σ H := q
theorem x_seq (q : ts ⟨us D, D.rt, D.bk, D.ct⟩ σ H) : tSeq ts us D σ H := q
theorem x_next (q : D.nx σ H) : tNext D σ H := q
theorem x_brk (q : D.bk σ H) : tBreak D σ H := q
theorem x_cont (q : D.ct σ H) : tCont D σ H := q
theorem x_nx {f : L2.St → Hp → Prop} {r : VK} {b c : L2.St → Hp → Prop} (q : f σ H) : Ends.nx ⟨f, r, b, c⟩ σ H := q
theorem x_rt {f : VK} {n b c : L2.St → Hp → Prop} (q : f v H) : Ends.rt ⟨n, f, b, c⟩ v H := q
theorem x_bk {f : L2.St → Hp → Prop} {r : VK} {n c : L2.St → Hp → Prop} (q : f σ H) : Ends.bk ⟨n, r, f, c⟩ σ H := q
theorem x_ct {f : L2.St → Hp → Prop} {r : VK} {n b : L2.St → Hp → Prop} (q : f σ H) : Ends.ct ⟨n, r, b, f⟩ σ H := q
theorem x_drop (q : te σ H fun _ H1 => D.nx σ H1) : tDrop te D σ H := q
theorem x_ret (q : te σ H fun x H1 => D.rt x H1) : tRet te D σ H := q
theorem x_retN (q : D.rt .non H) : tRetN D σ H := q
theorem x_asg (q : te σ H fun x H1 => g x σ H1 D.nx) : tAsg te g D σ H := q
theorem x_nil (q : QL [] H) : tNil σ H QL := q
theorem x_cons (q : te σ H fun x H1 => ta σ H1 fun xs H2 => QL (x :: xs) H2) : tCons te ta σ H QL := q
theorem x_call {sp : Sp} {dvs : List V} {E : XK} (q : ta σ H fun vs H1 => sp (vs ++ dvs) H1 Q E) : tCall sp dvs E ta σ H Q := q
theorem x_cb {r : List V → Hp → VK → Prop} (q : ta σ H fun vs H1 => r vs H1 Q) : tCB r ta σ H Q := q
theorem x_bm {T : String} {r : V → List V → Hp → VK → Prop} (q : te σ H fun x H1 => tyV K T x H1 ∧ ta σ H1 fun xs H2 => r x xs H2 Q) : tBM K T r te ta σ H Q := q
theorem x_sl {r : V → Option Int → Option Int → Hp → VK → Prop} {tl th : TO} (q : te σ H fun x H1 => tl σ H1 fun l H2 => th σ H2 fun u H3 => r x l u H3 Q) : tSl r te tl th σ H Q := q
theorem x_np (q : QO none H) : tNoPart σ H QO := q
theorem x_pt (q : te σ H fun x H1 => ∃ i, x = .int i ∧ QO (some i) H1) : tPart te σ H QO := q
theorem x_exI {P : Int → Prop} {i : Int} (q : P i) : ∃ k, V.int i = V.int k ∧ P k := ⟨_, rfl, q⟩
theorem x_exB {P : Bool → Prop} {b : Bool} (q : P b) : ∃ k, V.bl b = V.bl k ∧ P k := ⟨_, rfl, q⟩
theorem x_I0 {f : Int → Int → V} {i j : Int} (q : Q (f i j) H) : rI0 f (.int i) (.int j) H Q := ⟨_, _, rfl, rfl, q⟩
theorem x_eqI {i j : Int} (q : Q (.bl (decide (i = j))) H) : rEq (.int i) (.int j) H Q := ⟨rfl, by rw [My.dec_int]; exact q⟩
theorem x_neI {i j : Int} (q : Q (.bl (!decide (i = j))) H) : rNe (.int i) (.int j) H Q := ⟨rfl, by rw [My.dec_int]; exact q⟩
theorem x_eqS {i j : Str} (q : Q (.bl (decide (i = j))) H) : rEq (.str i) (.str j) H Q := ⟨rfl, by
  have e : decide (V.str i = V.str j) = decide (i = j) := by
    by_cases h : i = j
    · rw [decide_eq_true h, decide_eq_true (congrArg V.str h)]
    · rw [decide_eq_false h, decide_eq_false (fun z => h (V.str.inj z))]
  rw [e]; exact q⟩
theorem x_neS {i j : Str} (q : Q (.bl (!decide (i = j))) H) : rNe (.str i) (.str j) H Q := ⟨rfl, by
  have e : decide (V.str i = V.str j) = decide (i = j) := by
    by_cases h : i = j
    · rw [decide_eq_true h, decide_eq_true (congrArg V.str h)]
    · rw [decide_eq_false h, decide_eq_false (fun z => h (V.str.inj z))]
  rw [e]; exact q⟩
def brB (b : Bool) (p q : Prop) : Prop := (b = true → p) ∧ (b = false → q)
theorem x_ite {b : Bool} {p q : Prop} (h : brB b p q) : if b = true then p else q := by
  cases b with
  | true => rw [if_pos rfl]; exact h.1 rfl
  | false => rw [if_neg Bool.false_ne_true]; exact h.2 rfl
theorem x_brT {p q : Prop} (h : p) : brB true p q := ⟨fun _ => h, fun z => nomatch z⟩
theorem x_brF {p q : Prop} (h : q) : brB false p q := ⟨fun z => (nomatch z), fun _ => h⟩
theorem x_brN {b : Bool} {p q : Prop} (h : brB b q p) : brB (!b) p q := by
  cases b with
  | true => exact x_brF (h.1 rfl)
  | false => exact x_brT (h.2 rfl)
theorem br2 {b : Bool} {p q : Prop} (h1 : b = true → p) (h2 : b = false → q) : brB b p q := ⟨h1, h2⟩
theorem brD {c : Prop} [Decidable c] {p q : Prop} (h1 : c → p) (h2 : ¬ c → q) : brB (decide c) p q := ⟨fun h => h1 (of_decide_eq_true h), fun h => h2 (of_decide_eq_false h)⟩
theorem brT {b : Bool} {p q : Prop} (e : b = true) (h : p) : brB b p q := ⟨fun _ => h, fun z => by rw [e] at z; cases z⟩
theorem brF {b : Bool} {p q : Prop} (e : b = false) (h : q) : brB b p q := ⟨fun z => (by rw [e] at z; cases z), fun _ => h⟩
theorem brDT {c : Prop} [Decidable c] {p q : Prop} (e : c) (h : p) : brB (decide c) p q := brT (decide_eq_true e) h
theorem brDF {c : Prop} [Decidable c] {p q : Prop} (e : ¬ c) (h : q) : brB (decide c) p q := brF (decide_eq_false e) h
theorem x_ixL {a : Addr} {xs : List V} {i : Int} (h : H a = some (.lst xs)) (hi : atI xs i = some v) (q : Q v H) : rIxL K (.ref a) (.int i) H Q := ⟨_, _, _, _, rfl, rfl, SqL.of h, hi, q⟩
theorem x_ixT {a : Addr} {xs : List V} {i : Int} (h : H a = some (.tup xs)) (hi : atI xs i = some v) (q : Q v H) : rIxT K (.ref a) (.int i) H Q := ⟨_, _, _, _, rfl, rfl, SqT.of h, hi, q⟩
def rNewL (xs : List V) (H : Hp) (Q : VK) : Prop := xs.length ≤ sizeLine ∧ ∀ p, H p = none → Q (.ref p) (L2.upd H p (.lst xs))
def rNewT (xs : List V) (H : Hp) (Q : VK) : Prop := xs.length ≤ sizeLine ∧ ∀ p, H p = none → Q (.ref p) (L2.upd H p (.tup xs))
theorem x_lst (q : ta σ H fun xs H1 => rNewL xs H1 Q) : tLst ta σ H Q := q
theorem x_tup (q : ta σ H fun xs H1 => rNewT xs H1 Q) : tTup ta σ H Q := q
theorem x_new {n : Nat} {P : Prop} (h : n ≤ 100000) (q : P) : n ≤ sizeLine ∧ P := ⟨Nat.le_trans h (by decide), q⟩
theorem x_sFld {f : Str} (q : tb σ H fun y H1 => te σ H1 fun x H2 => ∃ a C dx fs, x = .ref a ∧ H2 a = some (.ins C dx fs) ∧ Cls K C ∧ NoAttr K C f ∧ fs.length < 1000 ∧ D.nx σ (L2.upd H2 a (.ins C dx (putF f y fs)))) : sFld K te tb f D σ H := q
theorem x_fld {f : Str} (q : te σ H fun x H1 => ∃ a C dx fs v, x = .ref a ∧ H1 a = some (.ins C dx fs) ∧ Cls K C ∧ NoAttr K C f ∧ fs.lookup f = some v ∧ Q v H1) : tFld K te f σ H Q := q
/-- a field is stored -/
theorem fstore {f : Str} {y : V} {p C dx : Addr} {fs fs' : List (Str × V)} {P : Hp → Prop} (h : H p = some (.ins C dx fs)) (c : Cls K C) (n : NoAttr K C f) (l : fs.length < 1000) (e : putF f y fs = fs') (q : ∀ H', SameX p H H' → H' p = some (.ins C dx fs') → P H') :
    ∃ a C dx fs, V.ref p = .ref a ∧ H a = some (.ins C dx fs) ∧ Cls K C ∧ NoAttr K C f ∧ fs.length < 1000 ∧ P (L2.upd H a (.ins C dx (putF f y fs))) := ⟨p, C, dx, fs, rfl, h, c, n, l, q _ SameX.upd (by rw [e]; exact upd_same)⟩
/-- a field is read -/
theorem fget {f : Str} {v : V} {p C dx : Addr} {fs : List (Str × V)} {P : V → Prop} (h : H p = some (.ins C dx fs)) (c : Cls K C) (n : NoAttr K C f) (e : fs.lookup f = some v) (q : P v) :
    ∃ a C dx fs v, V.ref p = .ref a ∧ H a = some (.ins C dx fs) ∧ Cls K C ∧ NoAttr K C f ∧ fs.lookup f = some v ∧ P v := ⟨p, C, dx, fs, v, rfl, h, c, n, e, q⟩
/-- tuple(seq) -/
theorem tupleOf {a : Addr} {xs : List V} (h : SeqA K H a xs) (q : ∀ l H', Same H H' → SqT K H' l xs → Q (.ref l) H') :
    rTupOf K [.ref a] H Q :=
  ⟨a, xs, rfl, h.elim (fun h => .inl ⟨h, fun l hl => q l _ (Same.new hl) (SqT.of upd_same)⟩) fun h => .inr ⟨h, q a H (Same.refl H) h⟩⟩
/-- list(seq) -/
theorem listOf {a : Addr} {xs : List V} (h : SeqA K H a xs) (q : ∀ l H', H l = none → Same H H' → H' l = some (.lst xs) → Q (.ref l) H') :
    rLstOf K [.ref a] H Q := ⟨a, xs, rfl, h, fun l hl => q l _ hl (Same.new hl) upd_same⟩
/-- new lists, new tuples, sums of lists, appends, by what stands afterwards -/
theorem newList {xs : List V} (h : xs.length ≤ 100000) (q : ∀ l H', H l = none → Same H H' → H' l = some (.lst xs) → Q (.ref l) H') : rNewL xs H Q := ⟨Nat.le_trans h (by decide), fun l hl => q l _ hl (Same.new hl) upd_same⟩
theorem newTup {xs : List V} (h : xs.length ≤ 100000) (q : ∀ l H', H l = none → Same H H' → H' l = some (.tup xs) → Q (.ref l) H') : rNewT xs H Q := ⟨Nat.le_trans h (by decide), fun l hl => q l _ hl (Same.new hl) upd_same⟩
theorem catList {a b : Addr} {xs zs : List V} (ha : H a = some (.lst xs)) (hb : H b = some (.lst zs)) (h : xs.length + zs.length ≤ 100000) (q : ∀ l H', H l = none → Same H H' → H' l = some (.lst (xs ++ zs)) → Q (.ref l) H') : rCat (.ref a) (.ref b) H Q :=
  ⟨a, b, xs, zs, rfl, rfl, ha, hb, Nat.le_trans h (by decide), fun l hl => q l _ hl (Same.new hl) upd_same⟩
theorem appList {a : Addr} {xs : List V} {y : V} (ha : H a = some (.lst xs)) (h : xs.length < 100000) (q : ∀ H', SameX a H H' → H' a = some (.lst (xs ++ [y])) → Q .non H') : rAppend (.ref a) [y] H Q := ⟨a, xs, y, rfl, rfl, ha, Nat.lt_of_lt_of_le h (by decide), q _ SameX.upd upd_same⟩
theorem isList {a : Addr} {xs : List V} (ha : H a = some (.lst xs)) : tyV K "list" (.ref a) H := .inl ⟨rfl, xs, SqL.of ha⟩
theorem ixL {a : Addr} {xs : List V} {i : Nat} (ha : H a = some (.lst xs)) (hi : xs[i]? = some v) (q : Q v H) : rIxL K (.ref a) (.int (i : Int)) H Q := ⟨a, xs, i, v, rfl, rfl, SqL.of ha, atI_nat hi, q⟩
theorem ixT {a : Addr} {xs : List V} {i : Nat} (ha : SqT K H a xs) (hi : xs[i]? = some v) (q : Q v H) : rIxT K (.ref a) (.int (i : Int)) H Q := ⟨a, xs, i, v, rfl, rfl, ha, atI_nat hi, q⟩
theorem setL {a : Addr} {xs : List V} {i : Nat} {P : Hp → Prop} (ha : H a = some (.lst xs)) (hi : i < xs.length) (q : ∀ H', SameX a H H' → H' a = some (.lst (xs.set i v)) → P H') : rSetL (.ref a) (.int (i : Int)) v H P := ⟨a, xs, i, i, rfl, rfl, ha, ixN_nat rfl hi, q _ SameX.upd upd_same⟩
theorem lenA {a : Addr} {xs : List V} (h : SeqA K H a xs) (q : Q (.int (xs.length : Int)) H) : rLenOf K [.ref a] H Q := ⟨a, xs, rfl, h, q⟩
/-- what a for asks once its turns are known -/
def forK (J : It) (g : TG) (tb : TS) (D : Ends) (σ : L2.St) (H : Hp) : Prop := ∃ W : Nat → Nat → L2.St → Hp → Prop, (∃ m, W 0 m σ H) ∧ ∀ i m σ H, W i m σ H →
  (J.stop i H ∧ D.nx σ H) ∨ (J.go i H ∧ ∃ N : L2.St → Hp → Prop, (∀ σ' H', N σ' H' → ∃ m', m' < m ∧ W (i + 1) m' σ' H') ∧ ∀ x H', J.yld i H x H' → g x σ H' fun σ2 H2 => tb { D with nx := N, ct := N, bk := D.nx } σ2 H2)
def forI (g : TG) (tb : TS) (D : Ends) (σ : L2.St) (n : Int) (H : Hp) : Prop := ∃ j : Int, [V.int n] = [.int j] ∧ -(2 ^ 62) ≤ j ∧ j < 2 ^ 62 ∧ forK (Itr 0 j.toNat) g tb D σ H
theorem x_for1 (q : ta σ H fun vs H1 => ∃ j : Int, vs = [.int j] ∧ -(2 ^ 62) ≤ j ∧ j < 2 ^ 62 ∧ forK (Itr 0 j.toNat) g ts D σ H1) : tFor (iRng1 ta) g ts D σ H := q
theorem x_forL (q : te σ H fun x H1 => ∃ a, x = .ref a ∧ (∃ xs, SqL K H1 a xs) ∧ forK (Itl K a) g ts D σ H1) : tFor (iList K te) g ts D σ H := q
theorem x_forT (q : te σ H fun x H1 => ∃ a, x = .ref a ∧ (∃ xs, SqT K H1 a xs) ∧ forK (Itt K a) g ts D σ H1) : tFor (iTup K te) g ts D σ H := q
theorem rng1 {n : Int} (h0 : -100000 ≤ n) (h1 : n ≤ 100000) (q : forK (Itr 0 n.toNat) g ts D σ H) : ∃ j : Int, [V.int n] = [.int j] ∧ -(2 ^ 62) ≤ j ∧ j < 2 ^ 62 ∧ forK (Itr 0 j.toNat) g ts D σ H := ⟨n, rfl, by omega, by omega, q⟩
theorem overL {a : Addr} {xs : List V} (h : SqL K H a xs) (q : forK (Itl K a) g ts D σ H) : ∃ b, V.ref a = .ref b ∧ (∃ xs, SqL K H b xs) ∧ forK (Itl K b) g ts D σ H := ⟨a, rfl, ⟨_, h⟩, q⟩
theorem overT {a : Addr} {xs : List V} (h : SqT K H a xs) (q : forK (Itt K a) g ts D σ H) : ∃ b, V.ref a = .ref b ∧ (∃ xs, SqT K H b xs) ∧ forK (Itt K b) g ts D σ H := ⟨a, rfl, ⟨_, h⟩, q⟩
end
/-! ### steps: more readings by their form -/
theorem pe_fldK {X : Cx} {K : PySem.W.Frag} {e : Expr} {f : Str} {pos : Pos} {ta : TE} (eK : X.K = K) (he : PE X e ta) (hb : attributeBase e f X.env (eval e X.env) = eval e X.env) : PE X (.Attribute e f pos) (tFld K ta f) := eK ▸ pe_fld he hb
section
variable {K : PySem.W.Frag} {σ : L2.St} {H : Hp} {Q : VK} {QS : L2.St → Hp → Prop} {v : V} {te tb ti : TE} {tt : TT} {D : Ends}
theorem x_gsub {to ti : TE} {t : TSet} (q : to σ H fun o H1 => ti σ H1 fun i H2 => t o i v H2 fun H3 => QS σ H3) : gSub to ti t v σ H QS := q
theorem x_int1 {P : Int → Prop} {R : Prop} {i : Int} (q : P i) : (∃ k, [V.int i] = [V.int k] ∧ P k) ∨ R := .inl ⟨i, rfl, q⟩
theorem x_exL {P : Int → Prop} {i : Int} (q : P i) : ∃ k, [V.int i] = [V.int k] ∧ P k := ⟨i, rfl, q⟩
theorem min_if (i j : Int) : (if j < i then j else i) = min i j := by rw [Int.min_def]; split <;> split <;> omega
theorem max_if (i j : Int) : (if j > i then j else i) = max i j := by rw [Int.max_def]; split <;> split <;> omega
def rMin2 : List V → Hp → VK → Prop := fun xs H Q => ∃ i j, xs = [.int i, .int j] ∧ Q (.int (min i j)) H
def rMax2 : List V → Hp → VK → Prop := fun xs H Q => ∃ i j, xs = [.int i, .int j] ∧ Q (.int (max i j)) H
def ab (x : Int) : Int := if x < 0 then -x else x
def rAbs : List V → Hp → VK → Prop := fun xs H Q => ∃ i, xs = [.int i] ∧ Q (.int (ab i)) H
theorem call_min2K {X : Cx} (hc : X.calm = true) : CallR X (.builtin "min") rMin2 := by
  intro pins s σ H xs us Q I r h
  obtain ⟨i, j, e, q⟩ := h
  exact call_min2 hc pins s σ H xs us Q I r ⟨i, j, e, by rw [min_if]; exact q⟩
theorem call_max2K {X : Cx} (hc : X.calm = true) : CallR X (.builtin "max") rMax2 := by
  intro pins s σ H xs us Q I r h
  obtain ⟨i, j, e, q⟩ := h
  exact call_max2 hc pins s σ H xs us Q I r ⟨i, j, e, by rw [max_if]; exact q⟩
theorem call_absK {X : Cx} : CallR X (.builtin "abs") rAbs := call_abs
theorem x_min2 {i j : Int} (q : Q (.int (min i j)) H) : rMin2 [.int i, .int j] H Q := ⟨i, j, rfl, q⟩
theorem x_max2 {i j : Int} (q : Q (.int (max i j)) H) : rMax2 [.int i, .int j] H Q := ⟨i, j, rfl, q⟩
theorem x_abs {i : Int} (q : Q (.int (ab i)) H) : rAbs [.int i] H Q := ⟨i, rfl, q⟩
theorem x_brTT {p q : Prop} (h : p) : brB (true && true) p q := x_brT h
theorem x_mod {i j : Int} (h : 0 < j) (q : Q (.int (i % j)) H) : rI (fun _ j => 0 < j) (fun i j => .int (i % j)) (.int i) (.int j) H Q := ⟨i, j, rfl, rfl, h, q⟩
theorem x_mulR {i j : Int} (h : -(2 ^ 64) < j ∧ j < 2 ^ 64) (q : Q (.int (i * j)) H) : rI CMul (fun i j => .int (i * j)) (.int i) (.int j) H Q := ⟨i, j, rfl, rfl, .inr h, q⟩
theorem x_mulL {i j : Int} (h : -(2 ^ 64) < i ∧ i < 2 ^ 64) (q : Q (.int (i * j)) H) : rI CMul (fun i j => .int (i * j)) (.int i) (.int j) H Q := ⟨i, j, rfl, rfl, .inl h, q⟩
theorem x_div {i j : Int} (h : 0 < j ∧ j < 1073741824) (q : Q (.int (i / j)) H) : rI CDiv (fun i j => .int (i / j)) (.int i) (.int j) H Q := ⟨i, j, rfl, rfl, h, q⟩
theorem x_divW {i j : Int} (h0 : 0 < j) (h : j < 2 ^ 62) (q : Q (.int (i / j)) H) : rI CDivW (fun i j => .int (i / j)) (.int i) (.int j) H Q := ⟨i, j, rfl, rfl, ⟨h0, Nat.lt_trans (PySem.Flt.log2_lt_of (k := 62) (by decide) (by omega)) (by decide)⟩, q⟩
theorem x_pow {i j : Int} (h : 0 ≤ j ∧ j ≤ 1000000 ∧ i.natAbs < 2 ^ 64) (q : Q (.int (i ^ j.toNat)) H) : rI CPow (fun i j => .int (i ^ j.toNat)) (.int i) (.int j) H Q := ⟨i, j, rfl, rfl, h, q⟩
theorem x_nN {P : Prop} (q : P) : V.non = V.non ∧ P := ⟨rfl, q⟩
theorem x_chain {r r' : R2} {tc : TE} (q : te σ H fun x H1 => tb σ H1 fun y H2 => r x y H2 fun z H3 => ∃ k, z = .bl k ∧ brB k (tc σ H3 fun w' H4 => r' y w' H4 Q) (Q (.bl false) H3)) : tChain r r' te tb tc σ H Q := by
  refine cast (congrArg (fun z => te σ H z) ?_) q
  funext x H1
  refine congrArg (fun z => tb σ H1 z) ?_
  funext y H2
  refine congrArg (fun z => r x y H2 z) ?_
  funext z H3
  refine congrArg Exists ?_
  funext k
  refine congrArg (fun p => z = .bl k ∧ p) ?_
  exact propext ⟨fun h => x_ite h, fun h => by cases k with
    | true => exact x_brT (by rw [if_pos rfl] at h; exact h)
    | false => exact x_brF (by rw [if_neg Bool.false_ne_true] at h; exact h)⟩
theorem x_meth {C : Addr} {m : Str} {sp : Sp} {dvs : List V} {E : XK} {ta : TE} {t : TA} (q : ta σ H fun x H1 => ∃ a dx fs, x = .ref a ∧ H1 a = some (.ins C dx fs) ∧ fs.lookup m = none ∧ t σ H1 fun vs H2 => sp (x :: (vs ++ dvs)) H2 Q E) : tMeth C m sp dvs E ta t σ H Q := q
theorem x_prop {C : Addr} {sp : Sp} {dvs : List V} {E : XK} {ta : TE} (q : ta σ H fun x H1 => ∃ a dx fs, x = .ref a ∧ H1 a = some (.ins C dx fs) ∧ sp (.ref a :: dvs) H1 Q E) : tProp C sp dvs E ta σ H Q := q
theorem x_make {C : Addr} {sp : Sp} {dvs : List V} {E : XK} {t : TA} (q : t σ H fun vs H1 => ∀ x dx, H1 x = none → H1 dx = none → dx ≠ x → sp (.ref x :: (vs ++ dvs)) (upd (upd H1 dx (.own x)) x (.ins C dx [])) (fun v H2 => v = .non ∧ Q (.ref x) H2) E) : tMake C sp dvs E t σ H Q := q
theorem x_fldaug {rd : V → V → Hp → VK → Prop} {f : Str} (q : te σ H fun x H1 => ∃ a C dx fs v, x = .ref a ∧ H1 a = some (.ins C dx fs) ∧ Cls K C ∧ NoAttr K C f ∧ fs.lookup f = some v ∧ tb σ H1 fun y H2 => rd v y H2 fun z H3 => ∃ dx' fs', H3 a = some (.ins C dx' fs') ∧ fs'.length < 1000 ∧ D.nx σ (L2.upd H3 a (.ins C dx' (putF f z fs')))) : sFldAug K te tb rd f D σ H := q
theorem x_rAdd {i j : Int} (q : Q (.int (i + j)) H) : rAdd (.int i) (.int j) H Q := ⟨i, j, rfl, rfl, q⟩
theorem x_ipI {f : Int → Int → Int} {i j : Int} (q : Q (.int (f i j)) H) : ipI f (.int i) (.int j) H Q := ⟨i, j, rfl, rfl, q⟩
theorem x_rSub {i j : Int} (q : Q (.int (i - j)) H) : rSub (.int i) (.int j) H Q := ⟨i, j, rfl, rfl, q⟩
theorem rngF {n : Int} {g : TG} {ts : TS} (h0 : -100000 ≤ n) (h1 : n ≤ 100000) (q : forK (Itr 0 n.toNat) g ts D σ H) : -(2 ^ 62) ≤ n ∧ n < 2 ^ 62 ∧ forK (Itr 0 n.toNat) g ts D σ H := ⟨by omega, by omega, q⟩
/-- a field is raised -/
theorem fraise {f : Str} {p C dx : Addr} {fs : List (Str × V)} {P : Hp → Prop} {T : V → V → Hp → VK → Prop} {tv : TE} {σ : L2.St} (h : H p = some (.ins C dx fs)) (c : Cls K C) (n : NoAttr K C f) (l : fs.length < 1000) (e : fs.lookup f = some v)
    (q : tv σ H fun y H2 => T v y H2 fun z H3 => ∃ dx' fs', H3 p = some (.ins C dx' fs') ∧ fs'.length < 1000 ∧ P (L2.upd H3 p (.ins C dx' (putF f z fs')))) :
    ∃ a C dx fs v, V.ref p = .ref a ∧ H a = some (.ins C dx fs) ∧ Cls K C ∧ NoAttr K C f ∧ fs.lookup f = some v ∧ tv σ H fun y H2 => T v y H2 fun z H3 => ∃ dx' fs', H3 a = some (.ins C dx' fs') ∧ fs'.length < 1000 ∧ P (L2.upd H3 a (.ins C dx' (putF f z fs'))) := ⟨p, C, dx, fs, v, rfl, h, c, n, e, q⟩
theorem fput {f : Str} {z : V} {p C dx : Addr} {fs fs' : List (Str × V)} {P : Hp → Prop} (h : H p = some (.ins C dx fs)) (l : fs.length < 1000) (e : putF f z fs = fs') (q : ∀ H', SameX p H H' → H' p = some (.ins C dx fs') → P H') :
    ∃ dx' fs', H p = some (.ins C dx' fs') ∧ fs'.length < 1000 ∧ P (L2.upd H p (.ins C dx' (putF f z fs'))) := ⟨dx, fs, h, l, q _ SameX.upd (by rw [e]; exact upd_same)⟩
end
/-! ### o[i] op= e, o a list -/
theorem pget_list {X : Cx} : PGet X (rIxL X.K) := by
  intro pins s σ H o i ov iv Q I ro ri h
  obtain ⟨p, xs, k, z, rfl, rfl, hq, he, q⟩ := h
  cases ro
  obtain ⟨t, rfl⟩ := ri
  obtain ⟨its, r, pl, hz⟩ := I.list hq
  obtain ⟨j, h1, h2, h3, h4, h5⟩ := atI_get he
  obtain ⟨w, ew, rw'⟩ := r.get h2
  have hl := r.length
  have hn := line63
  have fin : EP X pins σ Q w s := ⟨z, H, I, rw', q⟩
  by_cases h0 : 0 ≤ k
  · have hj : k.toNat = j := by
      rw [seqIndex_of h0 h5] at h1
      exact Option.some.inj h1
    exact wpAny_getItem_list pl.isList h0 (by omega) (by rw [hj]; simpa using ew) fin
  · have hj : (k + (its.toArray.size : Int)).toNat = j := by
      rw [seqIndex_neg (by omega) h4] at h1
      rw [List.size_toArray, ← hl]
      exact Option.some.inj h1
    exact wpAny_getItem_list_neg pl.isList (by omega) (by rw [List.size_toArray] <;> omega) (by omega) (by rw [hj]; simpa using ew) fin
theorem x_augS {to ti te : TE} {tget : V → V → Hp → VK → Prop} {tip : TIp} {tset : TSet} {D : Ends} {σ : L2.St} {H : Hp} (q : to σ H fun o H1 => ti σ H1 fun i H2 => tget o i H2 fun x H3 => te σ H3 fun y H4 => tip x y H4 fun z H5 => tset o i z H5 fun H6 => D.nx σ H6) : tAugS to ti te tget tip tset D σ H := q
theorem x_negU {i : Int} {H : Hp} {Q : VK} (q : Q (.int (-i)) H) : rU (fun i => .int (-i)) (.int i) H Q := ⟨i, rfl, q⟩
/-- for_range, by its name -/
theorem for_rangeK {lo : Int} {n : Nat} {g : TG} {ts : TS} {D : Ends} {σ : L2.St} {H : Hp} (Pv : Nat → L2.St → Hp → Prop) (h0 : Pv 0 σ H)
    (hs : ∀ i σ H, i < n → Pv i σ H → g (.int (lo + i)) σ H fun σ2 H2 => ts { D with nx := Pv (i + 1), ct := Pv (i + 1), bk := D.nx } σ2 H2) (hd : ∀ σ H, Pv n σ H → D.nx σ H) : forK (Itr lo n) g ts D σ H := for_range Pv h0 hs hd
local macro_rules
  | `(tactic| w_up) => `(tactic| with_reducible first
    | refine x_seq ?_ | refine x_asg ?_ | refine x_op ?_ | refine x_c ?_
    | refine x_v0 ?_ | refine x_v1 ?_ | refine x_v2 ?_ | refine x_v3 ?_ | refine x_v4 ?_ | refine x_v5 ?_ | refine x_v6 ?_ | refine x_v7 ?_ | refine x_v8 ?_ | refine x_v9 ?_ | refine x_v10 ?_ | refine x_v11 ?_ | refine x_v12 ?_ | refine x_v13 ?_ | refine x_v14 ?_ | refine x_v15 ?_ | refine x_v16 ?_ | refine x_v17 ?_ | refine x_v18 ?_ | refine x_v19 ?_
    | refine x_g0 ?_ | refine x_g1 ?_ | refine x_g2 ?_ | refine x_g3 ?_ | refine x_g4 ?_ | refine x_g5 ?_ | refine x_g6 ?_ | refine x_g7 ?_ | refine x_g8 ?_ | refine x_g9 ?_ | refine x_g10 ?_ | refine x_g11 ?_ | refine x_g12 ?_ | refine x_g13 ?_ | refine x_g14 ?_ | refine x_g15 ?_ | refine x_g16 ?_ | refine x_g17 ?_ | refine x_g18 ?_ | refine x_g19 ?_
    | refine x_cons ?_ | refine x_nil ?_ | refine x_I0 ?_ | refine x_exI ?_ | refine x_exB ?_ | refine x_eqI ?_ | refine x_neI ?_ | refine x_eqS ?_ | refine x_neS ?_
    | refine x_test ?_ | refine x_tB ?_ | refine x_ifS ?_ | refine x_if ?_ | refine x_and ?_ | refine x_or ?_ | refine x_not ?_ | refine x_andV ?_ | refine x_orV ?_ | refine x_notV ?_
    | refine x_ite ?_ | refine x_brT ?_ | refine x_brF ?_ | refine x_brN ?_
    | refine x_call ?_ | refine x_for1 ?_ | refine x_forL ?_ | refine x_forT ?_ | refine x_sFld ?_ | refine x_fld ?_ | refine x_cb ?_ | refine x_bm ?_ | refine x_un ?_ | refine x_sl ?_ | refine x_np ?_ | refine x_pt ?_
    | refine x_next ?_ | refine x_ret ?_ | refine x_retN ?_ | refine x_drop ?_ | refine x_brk ?_ | refine x_cont ?_ | refine x_lst ?_ | refine x_tup ?_ | dsimp only | dsimp only [List.set_cons_succ, List.set_cons_zero])
local macro_rules
  | `(tactic| o_args) => `(tactic| repeat w_up)
local macro_rules
  | `(tactic| w_up) => `(tactic| first
    | with_reducible refine x_augS ?_ | with_reducible refine x_negU ?_ | with_reducible refine x_gsub ?_ | with_reducible refine x_int1 ?_ | with_reducible refine x_exL ?_ | with_reducible refine x_min2 ?_ | with_reducible refine x_max2 ?_ | with_reducible refine x_abs ?_ | with_reducible refine x_brTT ?_
    | with_reducible refine x_mod (by decide) ?_ | with_reducible refine x_mulR ⟨by decide, by decide⟩ ?_ | with_reducible refine x_mulL ⟨by decide, by decide⟩ ?_ | with_reducible refine x_div ⟨by decide, by decide⟩ ?_
    | with_reducible refine x_pow ⟨by decide, by decide, by decide⟩ ?_
    | with_reducible refine x_nN ?_ | with_reducible refine x_chain ?_ | with_reducible refine x_meth ?_ | with_reducible refine x_prop ?_ | with_reducible refine x_make ?_ | with_reducible refine x_fldaug ?_ | with_reducible refine x_ipI ?_ | with_reducible refine x_rAdd ?_ | with_reducible refine x_rSub ?_
    | with_reducible refine brDT (by decide) ?_ | with_reducible refine brDF (by decide) ?_
    | with_reducible refine x_ixT (by assumption) (by with_unfolding_all exact rfl) ?_
    | with_reducible refine x_ixL (by assumption) (by with_unfolding_all exact rfl) ?_)
/-! ### general words -/
theorem Same.ofX {D : Addr} {H H' : Hp} (hD : H D = none) (s : SameX D H H') : Same H H' := fun b o e => s b o (ne_of_none e hD) e
theorem getq_lt {α : Type} {xs : List α} {i : Nat} {x : α} (h : xs[i]? = some x) : i < xs.length := (List.getElem?_eq_some_iff.mp h).1
theorem getq_app {α : Type} {vs : List α} {v w : α} {k : Nat} (h : (vs ++ [v])[k]? = some w) : (k < vs.length ∧ vs[k]? = some w) ∨ (k = vs.length ∧ w = v) := by
  have hk := getq_lt h
  rw [List.length_append] at hk
  have hk : k < vs.length + 1 := hk
  by_cases q : k < vs.length
  · rw [List.getElem?_append_left q] at h
    exact .inl ⟨q, h⟩
  · have e : k = vs.length := by omega
    subst e
    rw [List.getElem?_append_right (Nat.le_refl _), Nat.sub_self] at h
    exact .inr ⟨rfl, (Option.some.inj h).symm⟩
theorem none_back {p l : Addr} {H H' : Hp} (s : SameX p H H') (n : l ≠ p) (h : H' l = none) : H l = none := by
  cases q : H l with
  | none => rfl
  | some o => rw [s _ _ n q] at h; cases h
theorem none_of {H H' : Hp} {l : Addr} (s : Same H H') (h : H' l = none) : H l = none := by
  cases q : H l with
  | none => rfl
  | some o => rw [s _ _ q] at h; cases h
/-- only lists change -/
def LS (H H' : Hp) : Prop := ∀ a o, (∀ xs, o ≠ .lst xs) → H a = some o → H' a = some o
theorem LS.refl (H : Hp) : LS H H := fun _ _ _ h => h
theorem LS.trans {H H1 H2 : Hp} (x : LS H H1) (y : LS H1 H2) : LS H H2 := fun a o n h => y a o n (x a o n h)
theorem LS.of {H H' : Hp} (s : Same H H') : LS H H' := fun a o _ h => s a o h
theorem LS.ofX {H H' : Hp} {p : Addr} {xs : List V} (hp : H p = some (.lst xs)) (s : SameX p H H') : LS H H' := fun a o n h => s a o (fun e => by subst e; rw [hp] at h; cases h; exact n _ rfl) h
theorem LS.sqT {K : PySem.W.Frag} {H H' : Hp} {a : Addr} {xs : List V} (s : LS H H') (h : SqT K H a xs) : SqT K H' a xs := by
  rcases h with (h | ⟨o, h⟩) | h
  · exact .inl (.inl (s _ _ (fun _ z => nomatch z) h))
  · exact .inl (.inr ⟨o, s _ _ (fun _ z => nomatch z) h⟩)
  · exact .inr h
theorem sliceL {K : PySem.W.Frag} {H : Hp} {Q : VK} {a : Addr} {xs : List V} {lo hi : Option Int} (h : SqL K H a xs) (q : ∀ l H', H l = none → Same H H' → H' l = some (.lst (cutV xs lo hi)) → Q (.ref l) H') : rSlL K (.ref a) lo hi H Q := ⟨a, xs, rfl, h, fun l hl => q l _ hl (Same.new hl) upd_same⟩
theorem cut_to (xs : List V) (i : Nat) : cutV xs none (some (i : Int)) = xs.take i := by
  have e1 : HT.sIx xs.length 0 none = 0 := rfl
  have e2 : HT.sIx xs.length xs.length (some (i : Int)) = min i xs.length := by
    unfold HT.sIx
    simp
    intro h
    omega
  unfold cutV
  rw [e1, e2, List.drop_zero, Nat.sub_zero, List.take_eq_take_iff]
  omega
theorem cut_from (xs : List V) (i : Nat) : cutV xs (some (i : Int)) none = xs.drop i := by
  have e1 : HT.sIx xs.length xs.length none = xs.length := rfl
  have e2 : HT.sIx xs.length 0 (some (i : Int)) = min i xs.length := HT.sIx_nat _ _ _
  unfold cutV
  rw [e1, e2]
  by_cases h : i ≤ xs.length
  · rw [Nat.min_eq_left h, List.take_of_length_le (by rw [List.length_drop]; exact Nat.le_refl _)]
  · rw [Nat.min_eq_right (by omega), Nat.sub_self, List.take_zero, List.drop_of_length_le (by omega)]
theorem dp_ints {K : PySem.W.Frag} {H : Hp} : ∀ ns : List Int, DpAll K H (ns.map V.int) (ns.map PyData.int)
  | [] => .nil
  | n :: r => .cons (.int n) (dp_ints r)
theorem lay_all : ∀ ns : List Int, PyData.canLayAll0 (ns.map PyData.int) = true ∧ PyData.depthAll (ns.map PyData.int) = 0
  | [] => ⟨by simp only [List.map_nil, PyData.canLayAll0], by simp only [List.map_nil, PyData.depthAll]⟩
  | n :: r => by
    obtain ⟨h1, h2⟩ := lay_all r
    exact ⟨by simp only [List.map_cons, PyData.canLayAll0, PyData.canLay0, h1, Bool.and_self], by simp only [List.map_cons, PyData.depthAll, PyData.depth, h2, Nat.max_self]⟩
theorem lay_ints (ns : List Int) : PySem.SeqAt.shaped (.list (ns.map PyData.int)) = true := by
  obtain ⟨h1, h2⟩ := lay_all ns
  unfold PySem.SeqAt.shaped
  simp only [PyData.canLay0, PyData.depth, h1, h2]
  decide
theorem eqv_all : ∀ xs ys : List Int, PyData.eqvAll (xs.map PyData.int) (ys.map PyData.int) = decide (xs = ys)
  | [], [] => by simp [PyData.eqvAll]
  | [], y :: ys => by simp [PyData.eqvAll]
  | x :: xs, [] => by simp [PyData.eqvAll]
  | x :: xs, y :: ys => by
    have e := eqv_all xs ys
    simp only [List.map_cons, PyData.eqvAll, e, PyData.eqv]
    by_cases h : x = y <;> by_cases g : xs = ys <;> simp [h, g]
theorem eqv_ints (xs ys : List Int) : PyData.eqv (.list (xs.map PyData.int)) (.list (ys.map PyData.int)) = decide (xs = ys) := by
  simp only [PyData.eqv]
  exact eqv_all xs ys
/-- two lists of ints compared -/
theorem eqLL {K : PySem.W.Frag} {H : Hp} {Q : VK} {a b : Addr} {xs ys : List Int} (ha : SqL K H a (xs.map V.int)) (hb : SqL K H b (ys.map V.int)) (q : Q (.bl (decide (xs = ys))) H) : rEqD K (.ref a) (.ref b) H Q :=
  ⟨_, _, .lst ha (dp_ints xs), .lst hb (dp_ints ys), lay_ints xs, lay_ints ys, by rw [eqv_ints]; exact q⟩
theorem neLL {K : PySem.W.Frag} {H : Hp} {Q : VK} {a b : Addr} {xs ys : List Int} (ha : SqL K H a (xs.map V.int)) (hb : SqL K H b (ys.map V.int)) (q : Q (.bl (!decide (xs = ys))) H) : rNeD K (.ref a) (.ref b) H Q :=
  ⟨_, _, .lst ha (dp_ints xs), .lst hb (dp_ints ys), lay_ints xs, lay_ints ys, by rw [eqv_ints]; exact q⟩
/-- a comprehension over a list of ints, filtered, its items ints -/
theorem lc_ints {K : PySem.W.Frag} {a : Addr} {ns : List Int} {te tel : TE} {tt : TT} {σ : L2.St} {H : Hp} {Q : VK} {j : Nat} (p : Int → Bool) (f : Int → Int) (hte : ∀ R' : VK, R' (.ref a) H → te σ H R') (hS : SqL K H a (ns.map V.int)) (hz : ns.length < 100000)
    (ht : ∀ x ∈ ns, ∀ H', Same H H' → ∀ Qt : Bool → Hp → Prop, Qt (p x) H' → tt ((σ.set j none).set j (some (.int x))) H' Qt)
    (he : ∀ x ∈ ns, p x = true → ∀ H', Same H H' → ∀ Qe : VK, Qe (.int (f x)) H' → tel ((σ.set j none).set j (some (.int x))) H' Qe)
    (hd : ∀ D H', H D = none → Same H H' → H' D = some (.lst (((ns.filter p).map f).map V.int)) → Q (.ref D) H') : tLc (iList K te) (gName j) tt tel [j] σ H Q := by
  refine hte _ ⟨a, rfl, ⟨_, hS⟩, fun D hD => lc_list (K := K) (a := a) (xs := ns.map V.int) (fun i H' => H' D = some (.lst ((((ns.take i).filter p).map f).map V.int)) ∧ SameX D H H') ⟨upd_same, SameX.upd⟩ (fun i H' _ h => (Same.ofX hD h.2).seq hS) ?_ ?_⟩
  · rintro i x H' hi ⟨h1, h2⟩
    rw [List.getElem?_map] at hi
    cases e : ns[i]? with
    | none => rw [e] at hi; cases hi
    | some u =>
      rw [e] at hi
      cases hi
      have hil := getq_lt e
      have mem : u ∈ ns := List.mem_of_getElem? e
      refine ⟨?_, ?_⟩
      · show ((((σ.set j none).set j (some (.int u))).set j none) = σ.set j none)
        rw [List.set_set, List.set_set]
      have e2 : ns.take (i + 1) = ns.take i ++ [u] := by
        rw [List.take_succ, e]
        rfl
      refine ht u mem H' (Same.ofX hD h2) _ ?_
      cases hp : p u with
      | false =>
        rw [if_neg Bool.false_ne_true]
        refine ⟨?_, h2⟩
        rw [e2, List.filter_append]
        simp only [List.filter, hp, List.append_nil]
        exact h1
      | true =>
        rw [if_pos rfl]
        refine he u mem hp H' (Same.ofX hD h2) _ ⟨_, h1, ?_, ?_, h2.upd'⟩
        · rw [List.length_map, List.length_map]
          have := List.length_filter_le p (ns.take i)
          rw [List.length_take] at this
          exact Nat.lt_of_lt_of_le (show _ < 100000 by omega) (by decide)
        · rw [e2, List.filter_append]
          simp only [List.filter, hp, List.map_append, List.map_cons, List.map_nil]
          exact upd_same
  · rintro H' ⟨h1, h2⟩
    rw [List.length_map, List.take_length] at h1
    exact hd D H' hD (Same.ofX hD h2) h1
/-- a comprehension over a list, its items new -/
theorem lc_lstN {K : PySem.W.Frag} {a : Addr} {xs : List V} {te tel : TE} {σ : L2.St} {H : Hp} {Q : VK} {j : Nat} (P : Nat → List V → Hp → Prop) (hte : ∀ R' : VK, R' (.ref a) H → te σ H R') (hS : SqL K H a xs) (hz : xs.length < 100000) (h0 : ∀ H', Same H H' → P 0 [] H')
    (hm : ∀ i vs H1 H2, Same H1 H2 → P i vs H1 → P i vs H2) (hw : ∀ D H1 H2 i vs, H D = none → SameX D H1 H2 → Same H H1 → (∃ acc, H1 D = some (.lst acc)) → P i vs H1 → P i vs H2)
    (hs : ∀ D i x vs H', xs[i]? = some x → Same H H' → P i vs H' → vs.length = i → H D = none → (∃ o, H' D = some o) → ∀ Qe : VK, (∀ v H'', Same H' H'' → P (i + 1) (vs ++ [v]) H'' → Qe v H'') → tel ((σ.set j none).set j (some x)) H' Qe)
    (hd : ∀ D vs H', H D = none → vs.length = xs.length → P xs.length vs H' → H' D = some (.lst vs) → Same H H' → Q (.ref D) H') : tLc (iList K te) (gName j) tYes tel [j] σ H Q := by
  refine hte _ ⟨a, rfl, ⟨_, hS⟩, fun D hD => lc_list (K := K) (a := a) (xs := xs) (fun i H' => ∃ vs : List V, vs.length = i ∧ P i vs H' ∧ H' D = some (.lst vs) ∧ SameX D H H') ⟨[], rfl, h0 _ (Same.new hD), upd_same, SameX.upd⟩ (fun i H' _ ⟨_, _, _, _, h⟩ => (Same.ofX hD h).seq hS) ?_ ?_⟩
  · rintro i x H' hi ⟨vs, hl, hr, h1, h2⟩
    refine ⟨?_, ?_⟩
    · show ((((σ.set j none).set j (some x)).set j none) = σ.set j none)
      rw [List.set_set, List.set_set]
    dsimp only [tYes]
    rw [if_pos rfl]
    have S0 := Same.ofX hD h2
    refine hs D i x vs H' hi S0 hr hl hD ⟨_, h1⟩ _ fun v H'' s2 r => ⟨vs, s2 _ _ h1, ?_, vs ++ [v], ?_, hw D H'' _ _ _ hD SameX.upd (S0.trans s2) ⟨vs, s2 _ _ h1⟩ r, upd_same, (h2.trans (SameX.of s2)).upd'⟩
    · have := getq_lt hi
      exact Nat.lt_of_lt_of_le (show vs.length < 100000 by omega) (by decide)
    · rw [List.length_append, hl]; rfl
  · rintro H' ⟨vs, hl, hr, h1, h2⟩
    exact hd D vs H' hD hl hr h1 (Same.ofX hD h2)
theorem all_rep (n : Nat) : (List.replicate n true).all id = true := by simp
theorem Same.ofX2 {H H1 H2 : Hp} {l : Addr} (hl : H l = none) (s1 : Same H H1) (s2 : SameX l H1 H2) : Same H H2 := fun b o e => s2 b o (ne_of_none e hl) (s1 b o e)
/-! ### own errors -/
abbrev sp_InvalidNumber_init_ (K : PySem.W.Frag) : Sp := sp_xinit K "number"
theorem ok_InvalidNumber_init_ (T : Txt K mg) : FnOk P w K mg base CX0 1 T.a_InvalidNumber_init_ T.fd_InvalidNumber_init_ ["self", "number"] (sp_InvalidNumber_init_ K) := by
  have S := sc_InvalidNumber_init_
  refine T.F_InvalidNumber_init_.ok S (fun vs H Q E h => ?_) (fun cdv A outer s H vs Q E hr h => ?_)
  · obtain ⟨a, C, v, rfl, _⟩ := h
    rfl
  · obtain ⟨a, C, v, rfl, O, hn, ha, k⟩ := h
    refine ⟨_, (pss_one (ps_ost (pv 0) (pv 1))), ?_⟩
    exact ⟨_, rfl, _, rfl, a, C, rfl, O, hn, .inl ⟨ha, k⟩⟩
abbrev sp_InvalidSetting_init_ (K : PySem.W.Frag) : Sp := sp_xinit K "setting"
theorem ok_InvalidSetting_init_ (T : Txt K mg) : FnOk P w K mg base CX0 1 T.a_InvalidSetting_init_ T.fd_InvalidSetting_init_ ["self", "setting"] (sp_InvalidSetting_init_ K) := by
  have S := sc_InvalidSetting_init_
  refine T.F_InvalidSetting_init_.ok S (fun vs H Q E h => ?_) (fun cdv A outer s H vs Q E hr h => ?_)
  · obtain ⟨a, C, v, rfl, _⟩ := h
    rfl
  · obtain ⟨a, C, v, rfl, O, hn, ha, k⟩ := h
    refine ⟨_, (pss_one (ps_ost (pv 0) (pv 1))), ?_⟩
    exact ⟨_, rfl, _, rfl, a, C, rfl, O, hn, .inl ⟨ha, k⟩⟩
/-- an error of the class at C with the one field f -/
def Err (C : Addr) (f : Str) (v : V) (H : Hp) (E : XK) : Prop := ∀ d H', Same H H' → H' d = some (.xd [(f, v)]) → E (.ref C) (some d) H'
/-- x lies not in lo .. hi -/
def Out (K : PySem.W.Frag) (H : Hp) (x : V) (lo hi : Int) : Prop := ∃ o, Kd K H x o ∧ inR lo hi o = false
theorem Out.same {K : PySem.W.Frag} {H H' : Hp} {x : V} {lo hi : Int} (h : Out K H x lo hi) (s : Same H H') : Out K H' x lo hi := h.elim fun o h => ⟨o, h.1.same s, h.2⟩
theorem Out.typ {K : PySem.W.Frag} {H H' : Hp} {x : V} {lo hi : Int} (h : Out K H x lo hi) (s : Typ H H') : Out K H' x lo hi := h.elim fun o h => ⟨o, h.1.typ s, h.2⟩
theorem Out.int {K : PySem.W.Frag} {H : Hp} {n lo hi : Int} (h : n < lo ∨ hi < n) : Out K H (.int n) lo hi := ⟨some n, rfl, by
  show (decide (lo ≤ n) && decide (n ≤ hi)) = false
  rcases h with h | h
  · rw [decide_eq_false (show ¬ lo ≤ n by omega)]; rfl
  · rw [decide_eq_false (show ¬ n ≤ hi by omega), Bool.and_false]⟩
theorem Out.odd {K : PySem.W.Frag} {H : Hp} {x : V} {lo hi : Int} (h : IntK K H x false) : Out K H x lo hi := ⟨none, h, rfl⟩
theorem out_between {K : PySem.W.Frag} {H : Hp} {Q : VK} {x : V} {lo hi : Int} {E : XK} (h : Out K H x lo hi) (q : Q (.bl false) H) : sp_is_between K [x, .int lo, .int hi] H Q E := by
  obtain ⟨o, h1, h2⟩ := h
  cases o with
  | none => exact ⟨x, lo, hi, rfl, .inr ⟨h1, q⟩⟩
  | some n => exact ⟨x, lo, hi, rfl, .inl ⟨n, h1, by rw [show (decide (lo ≤ n) && decide (n ≤ hi)) = false from h2]; exact q⟩⟩
theorem in_between {K : PySem.W.Frag} {H : Hp} {Q : VK} {n lo hi : Int} {E : XK} (h1 : lo ≤ n) (h2 : n ≤ hi) (q : Q (.bl true) H) : sp_is_between K [.int n, .int lo, .int hi] H Q E :=
  ⟨.int n, lo, hi, rfl, .inl ⟨n, rfl, by rw [decide_eq_true h1, decide_eq_true h2]; exact q⟩⟩
/-- x is no count -/
def Less (K : PySem.W.Frag) (H : Hp) (x : V) (lo : Int) : Prop := (∃ n, x = .int n ∧ n < lo) ∨ IntK K H x false
theorem Less.same {K : PySem.W.Frag} {H H' : Hp} {x : V} {lo : Int} (h : Less K H x lo) (s : Same H H') : Less K H' x lo := h.elim .inl fun h => .inr (h.same s)
/-- menus of a try: what is caught, and what e is -/
theorem errX {K : PySem.W.Frag} {a D dd : Addr} {fs : List (Str × V)} {c : V} {cv : Value} {b : Bool} {H : Hp} {Q : VK} (hcv : ∀ u, RelV c u → u = cv) (ec : ExcC K D) (hd : H dd = some (.xd fs)) (hk : PySem.W.kitOne K (.ref D) cv = some b) (q : Q (.bl b) H) : rIsX K a (.ref D) (some dd) [.ref a, c] H Q := ⟨c, cv, b, D, dd, fs, rfl, hcv, rfl, ec, rfl, hd, hk, q⟩
theorem errF {K : PySem.W.Frag} {a C dd : Addr} {f : Str} {fs : List (Str × V)} {v : V} {H : Hp} {P : V → Prop} (T : XfC K C) (hn : PySem.W.findIn K (.ref C) f = some none) (hd : H dd = some (.xd fs)) (e : fs.lookup f = some v) (q : P v) :
    V.ref a = V.ref a ∧ ∃ (C' dd' : Addr) (fs : List (Str × V)) (v : V), Value.ref C = .ref C' ∧ XfC K C' ∧ PySem.W.findIn K (.ref C') f = some none ∧ some dd = some dd' ∧ H dd' = some (.xd fs) ∧ fs.lookup f = some v ∧ P v := ⟨rfl, C, dd, fs, v, rfl, T, hn, rfl, hd, e, q⟩
section
variable {K : PySem.W.Frag} {σ : L2.St} {H : Hp} {Q : VK} {v : V} {te : TE} {D : Ends} {i : Nat}
theorem x_xg {a : Addr} {cls : Value} {d : Option Addr} {f : Str} (q : te σ H fun x H1 => x = .ref a ∧ ∃ (C dd : Addr) (fs : List (Str × V)) (v : V), cls = .ref C ∧ XfC K C ∧ PySem.W.findIn K (.ref C) f = some none ∧ d = some dd ∧ H1 dd = some (.xd fs) ∧ fs.lookup f = some v ∧ Q v H1) : tXg K a cls d f te σ H Q := q
theorem x_clgo {a : Addr} {ts : TS} (q : ts (unN D i) (σ.set i (some (.ref a))) H) : clGo D (some i) ts a σ H := q
theorem x_methX {C : Addr} {m : Str} {sp : Sp} {E : L2.St → XK} {ta : TE} {t : TA} (q : ta σ H fun x H1 => ∃ a dx fs, x = .ref a ∧ H1 a = some (.ins C dx fs) ∧ fs.lookup m = none ∧ t σ H1 fun vs H2 => sp (x :: vs) H2 Q (E σ)) : tMethX C m sp E ta t σ H Q := q
theorem x_unrt (q : D.rt v H) : (unN D i).rt v H := q
theorem x_unnx (q : D.nx (σ.set i none) H) : (unN D i).nx σ H := q
end
theorem len2 {α : Type} {l : List α} (h : l.length = 2) : ∃ a b, l = [a, b] := by
  match l, h with
  | [a, b], _ => exact ⟨a, b, rfl⟩
theorem len4 {α : Type} {l : List α} (h : l.length = 4) : ∃ a b c d, l = [a, b, c, d] := by
  match l, h with
  | [a, b, c, d], _ => exact ⟨a, b, c, d, rfl⟩
local macro_rules
  | `(tactic| w_up) => `(tactic| first | with_reducible refine x_clgo ?_ | with_reducible refine x_methX ?_ | with_reducible refine x_xg ?_ | with_reducible refine x_unrt ?_ | with_reducible refine x_unnx ?_)
/-! ### values that are no numbers, by themselves -/
/-- a value that can be told and compared -/
structure Vl (K : PySem.W.Frag) (H : Hp) (x : V) : Prop where
  ex : ∃ (t : Value) (b : Bool) (d : PyData), TyX K H x t ∧ PySem.W.kitOne K t (.type "bool") = some b ∧ Dp K H x d ∧ PySem.SeqAt.shaped d = true
theorem Vl.int {K : PySem.W.Frag} {H : Hp} (n : Int) : Vl K H (.int n) := ⟨.type "int", false, .int n, .base (.int n), kit_ty (by decide +kernel), .int n, by
  unfold PySem.SeqAt.shaped
  simp only [PyData.canLay0, PyData.depth]
  rfl⟩
theorem str_ok : ∀ n : Nat, n < 1500 → PySem.SeqAt.shaped (.str (toString (n : Int))) = true := by decide +kernel
mutual
theorem Dp.sm {K : PySem.W.Frag} {H H' : Hp} (s : Same H H') : ∀ (d : PyData) (x : V), Dp K H x d → Dp K H' x d
  | _, _, .non => .non
  | _, _, .bl b => .bl b
  | _, _, .int i => .int i
  | _, _, .str x => .str x
  | _, _, .lst h hs => .lst (s.seq h) (DpAll.sm s _ _ hs)
  | _, _, .tup h hs => .tup (sqT_sm h s) (DpAll.sm s _ _ hs)
theorem DpAll.sm {K : PySem.W.Frag} {H H' : Hp} (s : Same H H') : ∀ (ds : List PyData) (xs : List V), DpAll K H xs ds → DpAll K H' xs ds
  | _, _, .nil => .nil
  | _, _, .cons h hs => .cons (Dp.sm s _ _ h) (DpAll.sm s _ _ hs)
end
theorem Vl.sm {K : PySem.W.Frag} {H H' : Hp} {x : V} (h : Vl K H x) (s : Same H H') : Vl K H' x := by
  obtain ⟨t, b, d, h1, h2, h3, h4⟩ := h.ex
  exact ⟨t, b, d, tyX_same h1 s, h2, Dp.sm s _ _ h3, h4⟩
/-- a value that is no number -/
def Odd (K : PySem.W.Frag) (H : Hp) (x : V) : Prop := IntK K H x false ∧ Vl K H x
theorem Odd.mk' {K : PySem.W.Frag} {H : Hp} {x : V} {n : String} {i b : Bool} {d : PyData} (t : TyX K H x (.type n)) (h1 : kitB n "int" = some i) (h2 : kitB n "bool" = some b) (h : (i && !b) = false) (hd : Dp K H x d) (sh : PySem.SeqAt.shaped d = true) : Odd K H x :=
  ⟨intK_no t h1 h2 h, _, b, d, t, kit_ty h2, hd, sh⟩
theorem lay_tups (ns : List Int) : PySem.SeqAt.shaped (.tuple (ns.map PyData.int)) = true := by
  obtain ⟨h1, h2⟩ := lay_all ns
  unfold PySem.SeqAt.shaped
  simp only [PyData.canLay0, PyData.depth, h1, h2]
  decide
theorem Odd.tup {K : PySem.W.Frag} {H : Hp} {t : Addr} {ns : List Int} (h : H t = some (.tup (ns.map V.int))) : Odd K H (.ref t) :=
  .mk' (.base (.tup h)) (i := false) (b := false) (by decide +kernel) (by decide +kernel) rfl (.tup (SqT.of h) (dp_ints ns)) (lay_tups ns)
theorem Odd.lst {K : PySem.W.Frag} {H : Hp} {t : Addr} {ns : List Int} (h : H t = some (.lst (ns.map V.int))) : Odd K H (.ref t) :=
  .mk' (.base (.lst h)) (i := false) (b := false) (by decide +kernel) (by decide +kernel) rfl (.lst (SqL.of h) (dp_ints ns)) (lay_ints ns)
theorem odd_str {K : PySem.W.Frag} {H : Hp} {n : Int} (h0 : 0 ≤ n) (h : n < 1500) : n.natAbs.log2 < 1920 ∧ Odd K H (.str (toString n)) := by
  obtain ⟨m, rfl⟩ : ∃ m : Nat, n = m := ⟨n.toNat, by omega⟩
  refine ⟨Nat.lt_trans (PySem.Flt.log2_lt_of (k := 62) (by decide) (by omega)) (by decide), ?_⟩
  exact .mk' (.base (.str _)) (i := false) (b := false) (by decide +kernel) (by decide +kernel) rfl (.str _) (str_ok m (by omega))
/-! ### min of three -/
def rMin3 : List V → Hp → VK → Prop := fun xs H Q => ∃ i j k, xs = [.int i, .int j, .int k] ∧ Q (.int (min (min i j) k)) H
theorem nuMin2_int (i j : Int) : nuMin2 (.int i) (.int j) = some (.int (min i j)) := by
  have e : nuMin2 (.int i) (.int j) = some (if decide (j < i) = true then V.int j else V.int i) := rfl
  rw [e, ← min_if]
  by_cases h : j < i
  · rw [decide_eq_true h, if_pos rfl, if_pos h]
  · rw [decide_eq_false h, if_neg Bool.false_ne_true, if_neg h]
theorem call_min3K {X : Cx} (hc : X.calm = true) : CallR X (.builtin "min") rMin3 := by
  intro pins s σ H xs us Q I r h
  obtain ⟨i, j, k, e, q⟩ := h
  refine call_min3Nu hc pins s σ H xs us Q I r ⟨.int i, .int j, .int k, .int (min (min i j) k), e, ?_, q⟩
  show (nuMin2 (.int i) (.int j)).bind (fun m => nuMin2 m (.int k)) = _
  rw [nuMin2_int]
  exact nuMin2_int _ _
theorem x_min3 {i j k : Int} {H : Hp} {Q : VK} (q : Q (.int (min (min i j) k)) H) : rMin3 [.int i, .int j, .int k] H Q := ⟨i, j, k, rfl, q⟩
local macro_rules
  | `(tactic| w_up) => `(tactic| first | with_reducible refine x_min3 ?_)
/-! ### the state of a curve -/
def bV : Option Int → V
  | none => .non
  | some n => .int n
structure Cs where
  u : Int
  w : Int
  t : Int
  c : Int
  st : Bool
  p : Int
  s : Int
  b : Option Int
def Cs.up (x : Cs) : Int → Int := fun w => min (w + x.u) 4194304
def Cs.Fit (x : Cs) : Prop := 1 ≤ x.u
theorem Cs.up_pos (x : Cs) {w : Int} (h : x.Fit) (hw : 1 ≤ w) : 1 ≤ x.up w := by
  unfold Cs.Fit at h
  show 1 ≤ min (w + x.u) 4194304
  omega
theorem pow3 (i : Int) : i ^ Int.toNat 3 = i * i * i := by
  show i ^ 3 = _
  rw [Int.pow_succ, Int.pow_succ, Int.pow_succ, Int.pow_zero, Int.one_mul]
theorem cube_mono {a b : Int} (h0 : 0 ≤ a) (h : a ≤ b) : a * a * a ≤ b * b * b :=
  Int.mul_le_mul (Int.mul_le_mul h h h0 (by omega)) h h0 (Int.mul_nonneg (by omega) (by omega))
theorem cube_ge {s u : Int} (h : 0 ≤ s) (hu : 1 ≤ u) : s ≤ u * (s * s * s) := by
  by_cases e : s = 0
  · subst e; simp
  · have h1 : 1 ≤ s := by omega
    have h2 : 1 ≤ s * s := Int.mul_le_mul h1 h1 (by decide) h
    have h3 : 1 * s ≤ s * s * s := Int.mul_le_mul_of_nonneg_right h2 h
    have h4 : 1 * (s * s * s) ≤ u * (s * s * s) := Int.mul_le_mul_of_nonneg_right hu (by omega)
    omega
/-- s is the least number whose cube brings u to need -/
structure Span (u need s : Int) : Prop where
  s0 : 0 ≤ s
  hi : need ≤ u * (s * s * s)
  lo : s = 0 ∨ u * ((s - 1) * (s - 1) * (s - 1)) < need
theorem Span.le {u need s : Int} (h : Span u need s) (u1 : 1 ≤ u) : s = 0 ∨ s ≤ need := by
  rcases h.lo with e | e
  · exact .inl e
  · by_cases z : s = 0
    · exact .inl z
    · have := cube_ge (s := s - 1) (u := u) (by have := h.s0; omega) u1
      exact .inr (by omega)
theorem Span.det {u need s s' : Int} (h : Span u need s) (g : Span u need s') (u1 : 1 ≤ u) : s = s' := by
  have key : ∀ {a b : Int}, Span u need a → Span u need b → ¬ a < b := fun {a b} ha hb l => by
    rcases hb.lo with e | e
    · have := ha.s0; omega
    · have h1 := cube_mono (a := a) (b := b - 1) ha.s0 (by omega)
      have h2 : u * (a * a * a) ≤ u * ((b - 1) * (b - 1) * (b - 1)) := Int.mul_le_mul_of_nonneg_left h1 (by omega)
      have := ha.hi
      omega
  have := key h g
  have := key g h
  omega
def Cs.goal (x : Cs) (b m : Int) : Int := x.p + x.u * ((m - b - x.s) * (m - b - x.s) * (m - b - x.s)) / 64
structure Cs.Ready (x : Cs) (now : V) : Prop where
  fit : x.Fit
  w1 : 1 ≤ x.w
  u2 : x.u ≤ 65535
  near : ∀ b, x.b = some b → ∃ m, now = .int m ∧ -(2 ^ 62) < m - b - x.s ∧ m - b - x.s < 2 ^ 62
theorem Cs.Ready.st {x : Cs} {now : V} (h : x.Ready now) : ({ x with st := false } : Cs).Ready now := ⟨h.fit, h.w1, h.u2, h.near⟩
/-! ### a control, of the class Curve -/
theorem cval {K : PySem.W.Frag} {C : Addr} {mc : Value} {f : Str} {v : V} {σ : L2.St} {H : Hp} {Q : VK} (R : ClX.CRead K C mc) (V : ∃ u, ClX.CVal K C mc f v u) (q : Q v H) : ClX.tCVal K (tC (.ref C)) f σ H Q :=
  V.elim fun u h => ⟨C, mc, v, u, rfl, R, h, q⟩
def CtAt (C : Addr) (H : Hp) (e : Addr) (x : Cs) : Prop := ∃ dx, H e = some (.ins C dx [("unit", .int x.u), ("window", .int x.w), ("threshold", .int x.t), ("credit", .int x.c), ("stalled", .bl x.st), ("peak", .int x.p), ("span", .int x.s), ("born", bV x.b)])
theorem CtAt.same {C : Addr} {H H' : Hp} {e : Addr} {x : Cs} (h : CtAt C H e x) (s : Same H H') : CtAt C H' e x := h.elim fun dx h => ⟨dx, s _ _ h⟩
theorem CtAt.on {C : Addr} {H H' : Hp} {e b : Addr} {x : Cs} (h : CtAt C H e x) (s : SameX b H H') (n : e ≠ b) : CtAt C H' e x := h.elim fun dx h => ⟨dx, s _ _ n h⟩
def sp_require_new_bytes (K : PySem.W.Frag) (Ce : Addr) : Sp := fun vs H Q E => ∃ (x : V), vs = [x] ∧ ((∃ n, x = .int n ∧ 1 ≤ n ∧ n ≤ 65535 ∧ Q .non H) ∨ (Out K H x 1 65535 ∧ Err Ce "number" x H E))
theorem ok_require_new_bytes (T : Txt K mg) : FnOk P w K mg base (L2.CX P w) 3 T.a_require_new_bytes T.fd_require_new_bytes ["count"] (sp_require_new_bytes K T.c_InvalidNumber) := by
  have S := sc_require_new_bytes
  refine T.F_require_new_bytes.okX S (fun vs H Q E h => ?_) (fun cdv A outer s H vs Q E hr h => ?_)
  · obtain ⟨x, rfl, _⟩ := h
    rfl
  · obtain ⟨x, rfl, h⟩ := h
    refine ⟨_, (pss_one (ps_if (pt_not (pt_val (pe_call (ok_is_between T) (hr.mono (by decide)) rfl T.g_is_between T.F_is_between.kp T.B_is_between .nil pass0 (pa_cons (pv 0) (pa_cons pe_int (pa_cons pe_int pa_nil)))))) (pss_one (ps_raise rfl (takes_of rfl rfl rfl rfl) (pmk_oex T.X_InvalidNumber.o T.X_InvalidNumber.i T.X_InvalidNumber.t (ok_InvalidNumber_init_ T) (hr.mono (by decide)) T.B_InvalidNumber_init_ .nil pass0 rfl T.X_InvalidNumber.g (pa_cons (pv 0) pa_nil)))) pss_nil)), ?_⟩
    refine st_require_new_bytes ?_
    o_args
    rcases h with ⟨n, rfl, h1, h2, k⟩ | ⟨ho, hE⟩
    · refine in_between h1 h2 ?_
      o_args
      exact k
    · refine out_between ho ?_
      o_args
      exact ⟨_, rfl, mkO_of T.X_InvalidNumber.o T.nX_InvalidNumber fun d H1 nd ss hx => hE d H1 ss hx⟩
def Ct5 (C : Addr) (H : Hp) (e : Addr) (u : Int) : Prop := ∃ dx, H e = some (.ins C dx [("unit", .int u), ("window", .int (2 * u)), ("threshold", .int 4194304), ("credit", .int 0), ("stalled", .bl false)])
def sp_Control_init_ (C : Addr) : Sp := fun vs H Q _ => ∃ (p dx : Addr) (u : Int), vs = [.ref p, .int u] ∧ H p = some (.ins C dx []) ∧ 1 ≤ u ∧ u ≤ 65535 ∧ ∀ H', SameX p H H' → Ct5 C H' p u → Q .non H'
theorem ok_Control_init_ (T : Txt K mg) : FnOk P w K mg base (L2.CX P w) 3 T.a_Control_init_ T.fd_Control_init_ ["self", "unit"] (sp_Control_init_ T.c_Curve) := by
  have S := sc_Control_init_
  refine T.F_Control_init_.okX S (fun vs H Q E h => ?_) (fun cdv A outer s H vs Q E hr h => ?_)
  · obtain ⟨p, dx, u, rfl, _⟩ := h
    rfl
  · obtain ⟨p, dx, u, rfl, hp, h1, h2, k⟩ := h
    refine ⟨_, (pss_cons (ps_if (pt_not (pt_val (pe_call (ok_is_between T) (hr.mono (by decide)) rfl T.g_is_between T.F_is_between.kp T.B_is_between .nil pass0 (pa_cons (pv 1) (pa_cons pe_int (pa_cons pe_int pa_nil)))))) (pss_one (ps_raise rfl (takes_of rfl rfl rfl rfl) (pmk_oex T.X_InvalidSetting.o T.X_InvalidSetting.i T.X_InvalidSetting.t (ok_InvalidSetting_init_ T) (hr.mono (by decide)) T.B_InvalidSetting_init_ .nil pass0 rfl T.X_InvalidSetting.g (pa_cons pe_str pa_nil)))) pss_nil)
      (pss_cons (ps_fld (pv 0) (pv 1) rfl)
      (pss_cons (ps_fld (pv 0) (pe_op op_mul pe_int (pv 1)) rfl)
      (pss_cons (ps_fld (pv 0) (ClX.pe_cval (pe_glob (v := .ref T.c_Control) rfl T.g_Control rfl)) rfl)
      (pss_cons (ps_fld (pv 0) pe_int rfl)
      (pss_one (ps_fld (pv 0) pe_bl rfl))))))), ?_⟩
    refine st_Control_init_ ?_
    o_args
    refine in_between h1 h2 ?_
    o_args
    refine fstore hp T.cl_Curve T.n_Curve_unit (Nat.le_of_ble_eq_true rfl) rfl fun H1 s1 h1 => ?_
    o_args
    refine fstore h1 T.cl_Curve T.n_Curve_window (Nat.le_of_ble_eq_true rfl) rfl fun H2 s2 h2 => ?_
    o_args
    refine cval T.R_Control T.V_Control_GREATEST ?_
    o_args
    refine fstore h2 T.cl_Curve T.n_Curve_threshold (Nat.le_of_ble_eq_true rfl) rfl fun H3 s3 h3 => ?_
    o_args
    refine fstore h3 T.cl_Curve T.n_Curve_credit (Nat.le_of_ble_eq_true rfl) rfl fun H4 s4 h4 => ?_
    o_args
    refine fstore h4 T.cl_Curve T.n_Curve_stalled (Nat.le_of_ble_eq_true rfl) rfl fun H5 s5 h5 => ?_
    o_args
    exact k H5 ((((s1.trans s2).trans s3).trans s4).trans s5) ⟨dx, h5⟩
def sp_Control_starting (C : Addr) : Sp := fun vs H Q _ => ∃ (e : Addr) (x : Cs), vs = [.ref e] ∧ CtAt C H e x ∧ Q (.bl (decide (x.w < x.t))) H
theorem ok_Control_starting (T : Txt K mg) : FnOk P w K mg base CX0 1 T.a_Control_starting T.fd_Control_starting ["self"] (sp_Control_starting T.c_Curve) := by
  have S := sc_Control_starting
  refine T.F_Control_starting.ok S (fun vs H Q E h => ?_) (fun cdv A outer s H vs Q E hr h => ?_)
  · obtain ⟨e, x, rfl, _⟩ := h
    rfl
  · obtain ⟨e, x, rfl, ⟨dx, he⟩, k⟩ := h
    refine ⟨_, (pss_one (ps_ret (pe_cmpR op_lt (pe_fld (pv 0) rfl) (pe_fld (pv 0) rfl) (nomark _)))), ?_⟩
    refine st_Control_starting ?_
    o_args
    refine fget he T.cl_Curve T.n_Curve_window rfl ?_
    o_args
    refine fget he T.cl_Curve T.n_Curve_threshold rfl ?_
    o_args
    exact k
def sp_Control_set_window (C : Addr) : Sp := fun vs H Q _ => ∃ (e : Addr) (x : Cs) (n : Int), vs = [.ref e, .int n] ∧ CtAt C H e x ∧ ∀ H', SameX e H H' → CtAt C H' e { x with w := min n 4194304 } → Q .non H'
theorem ok_Control_set_window (T : Txt K mg) : FnOk P w K mg base CX0 1 T.a_Control_set_window T.fd_Control_set_window ["self", "window"] (sp_Control_set_window T.c_Curve) := by
  have S := sc_Control_set_window
  refine T.F_Control_set_window.ok S (fun vs H Q E h => ?_) (fun cdv A outer s H vs Q E hr h => ?_)
  · obtain ⟨e, x, n, rfl, _⟩ := h
    rfl
  · obtain ⟨e, x, n, rfl, ⟨dx, he⟩, k⟩ := h
    refine ⟨_, (pss_one (ps_fld (pv 0) (pe_callB (id := "min") (call_min2K rfl) (by rfl) T.b_min (by decide +kernel) (pa_cons (pv 1) (pa_cons (ClX.pe_cval (pe_glob (v := .ref T.c_Control) rfl T.g_Control rfl)) pa_nil))) rfl)), ?_⟩
    refine st_Control_set_window ?_
    o_args
    refine cval T.R_Control T.V_Control_GREATEST ?_
    o_args
    refine fstore he T.cl_Curve T.n_Curve_window (Nat.le_of_ble_eq_true rfl) rfl fun H1 s1 h1 => ?_
    o_args
    exact k H1 s1 ⟨dx, h1⟩
def Cs.expired (x : Cs) (f : Int) : Cs := { x with t := if x.st = true then x.t else max (f / 2) (2 * x.u), w := x.u, c := 0, st := true }
def sp_Control_on_expiry (C : Addr) : Sp := fun vs H Q _ => ∃ (e : Addr) (x : Cs) (f : Int) (n : V), vs = [.ref e, .int f, n] ∧ CtAt C H e x ∧ 0 ≤ f ∧ ∀ H', SameX e H H' → CtAt C H' e (x.expired f) → Q .non H'
theorem ok_Control_on_expiry (T : Txt K mg) : FnOk P w K mg base CX0 1 T.a_Control_on_expiry T.fd_Control_on_expiry ["self", "flight", "now"] (sp_Control_on_expiry T.c_Curve) := by
  have S := sc_Control_on_expiry
  refine T.F_Control_on_expiry.ok S (fun vs H Q E h => ?_) (fun cdv A outer s H vs Q E hr h => ?_)
  · obtain ⟨e, x, f, n, rfl, _⟩ := h
    rfl
  · obtain ⟨e, x, f, n, rfl, ⟨dx, he⟩, f0, k⟩ := h
    refine ⟨_, (pss_cons (ps_if (pt_not (pt_val (pe_fld (pv 0) rfl))) (pss_one (ps_fld (pv 0) (pe_callB (id := "max") (call_max2K rfl) (by rfl) T.b_max (by decide +kernel) (pa_cons (pe_op op_fdiv (pv 1) pe_int) (pa_cons (pe_op op_mul pe_int (pe_fld (pv 0) rfl)) pa_nil))) rfl)) pss_nil)
      (pss_cons (ps_fld (pv 0) (pe_fld (pv 0) rfl) rfl)
      (pss_cons (ps_fld (pv 0) pe_int rfl)
      (pss_one (ps_fld (pv 0) pe_bl rfl))))), ?_⟩
    refine st_Control_on_expiry ?_
    o_args
    refine fget he T.cl_Curve T.n_Curve_stalled rfl ?_
    unfold Cs.expired at k
    cases hst : x.st with
    | true =>
      rw [hst, if_pos rfl] at k
      rw [hst] at he
      o_args
      refine fget he T.cl_Curve T.n_Curve_unit rfl ?_
      o_args
      refine fstore he T.cl_Curve T.n_Curve_window (Nat.le_of_ble_eq_true rfl) rfl fun H1 s1 h1 => ?_
      o_args
      refine fstore h1 T.cl_Curve T.n_Curve_credit (Nat.le_of_ble_eq_true rfl) rfl fun H2 s2 h2 => ?_
      o_args
      refine fstore h2 T.cl_Curve T.n_Curve_stalled (Nat.le_of_ble_eq_true rfl) rfl fun H3 s3 h3 => ?_
      o_args
      exact k H3 ((s1.trans s2).trans s3) ⟨dx, h3⟩
    | false =>
      rw [hst, if_neg Bool.false_ne_true] at k
      rw [hst] at he
      o_args
      refine fget he T.cl_Curve T.n_Curve_unit rfl ?_
      o_args
      refine fstore he T.cl_Curve T.n_Curve_threshold (Nat.le_of_ble_eq_true rfl) rfl fun H0 s0 h0 => ?_
      o_args
      refine fget h0 T.cl_Curve T.n_Curve_unit rfl ?_
      o_args
      refine fstore h0 T.cl_Curve T.n_Curve_window (Nat.le_of_ble_eq_true rfl) rfl fun H1 s1 h1 => ?_
      o_args
      refine fstore h1 T.cl_Curve T.n_Curve_credit (Nat.le_of_ble_eq_true rfl) rfl fun H2 s2 h2 => ?_
      o_args
      refine fstore h2 T.cl_Curve T.n_Curve_stalled (Nat.le_of_ble_eq_true rfl) rfl fun H3 s3 h3 => ?_
      o_args
      exact k H3 (((s0.trans s1).trans s2).trans s3) ⟨dx, h3⟩
def sp_Control_on_sample : Sp := fun vs H Q _ => ∃ (e n : V), vs = [e, n] ∧ Q .non H
theorem ok_Control_on_sample (T : Txt K mg) : FnOk P w K mg base CX0 1 T.a_Control_on_sample T.fd_Control_on_sample ["self", "ticks"] (sp_Control_on_sample) := by
  have S := sc_Control_on_sample
  refine T.F_Control_on_sample.ok S (fun vs H Q E h => ?_) (fun cdv A outer s H vs Q E hr h => ?_)
  · obtain ⟨e, n, rfl, _⟩ := h
    rfl
  · obtain ⟨e, n, rfl, k⟩ := h
    refine ⟨_, (pss_one ps_pass), ?_⟩
    refine st_Control_on_sample ?_
    o_args
    exact k
def sp_Climb_step (C : Addr) : Sp := fun vs H Q _ => ∃ (e : Addr) (x : Cs), vs = [.ref e] ∧ CtAt C H e x ∧ x.Fit ∧ ∀ H', SameX e H H' → CtAt C H' e { x with w := min (x.w + x.u) 4194304 } → Q .non H'
theorem ok_Climb_step (T : Txt K mg) : FnOk P w K mg base CX0 2 T.a_Climb_step T.fd_Climb_step ["self"] (sp_Climb_step T.c_Curve) := by
  have S := sc_Climb_step
  refine T.F_Climb_step.ok S (fun vs H Q E h => ?_) (fun cdv A outer s H vs Q E hr h => ?_)
  · obtain ⟨e, x, rfl, _⟩ := h
    rfl
  · obtain ⟨e, x, rfl, hc, _, k⟩ := h
    obtain ⟨dx, he⟩ := id hc
    refine ⟨_, (pss_one (ps_expr (pe_meth (pv 0) T.cl_Curve T.m_Curve_set_window (ok_Control_set_window T) (hr.mono (by decide)) T.B_Control_set_window .nil pass0 (pa_cons (pe_op op_add (pe_fld (pv 0) rfl) (pe_fld (pv 0) rfl)) pa_nil)))), ?_⟩
    refine st_Climb_step ?_
    o_args
    refine ⟨e, dx, _, rfl, he, rfl, ?_⟩
    o_args
    refine fget he T.cl_Curve T.n_Curve_window rfl ?_
    o_args
    refine fget he T.cl_Curve T.n_Curve_unit rfl ?_
    o_args
    refine ⟨e, x, _, rfl, hc, fun H1 s1 h1 => ?_⟩
    o_args
    exact k H1 s1 h1
/-- credit c and window w go on by steps of f -/
inductive Climbs (f : Int → Int) : Int → Int → Int → Int → Prop
  | done {c w : Int} (h : c < w) : Climbs f c w c w
  | step {c w c' w' : Int} (h : w ≤ c) (r : Climbs f (c - w) (f w) c' w') : Climbs f c w c' w'
theorem Climbs.det {f : Int → Int} {c w c1 w1 c2 w2 : Int} (h : Climbs f c w c1 w1) (g : Climbs f c w c2 w2) : c1 = c2 ∧ w1 = w2 := by
  induction h with
  | done h => cases g with
    | done _ => exact ⟨rfl, rfl⟩
    | step h' _ => omega
  | step h r ih => cases g with
    | done h' => omega
    | step _ r' => exact ih r'
theorem Climbs.add {f : Int → Int} {c w c1 w1 c2 w2 b : Int} (b0 : 0 ≤ b) (h : Climbs f c w c1 w1) (g : Climbs f (c1 + b) w1 c2 w2) : Climbs f (c + b) w c2 w2 := by
  induction h with
  | done h => exact g
  | step h r ih =>
    have e : ∀ p q r : Int, p + q - r = p - r + q := fun p q r => by omega
    exact .step (by omega) (by rw [e]; exact ih g)
def sp_Climb_grow (K : PySem.W.Frag) (C Ce : Addr) : Sp := fun vs H Q E => ∃ (e : Addr) (v now : V) (x : Cs), vs = [.ref e, v, now] ∧ CtAt C H e x ∧
  ((∃ n, v = .int n ∧ 1 ≤ n ∧ n ≤ 65535 ∧ x.Fit ∧ 1 ≤ x.w ∧ ∀ H' c' w', SameX e H H' → Climbs x.up (x.c + n) x.w c' w' → CtAt C H' e { x with c := c', w := w' } → Q .non H') ∨ (Out K H v 1 65535 ∧ Err Ce "number" v H E))
theorem ok_Climb_grow (T : Txt K mg) : FnOk P w K mg base (L2.CX P w) 4 T.a_Climb_grow T.fd_Climb_grow ["self", "count", "now"] (sp_Climb_grow K T.c_Curve T.c_InvalidNumber) := by
  have S := sc_Climb_grow
  refine T.F_Climb_grow.okX S (fun vs H Q E h => ?_) (fun cdv A outer s H vs Q E hr h => ?_)
  · obtain ⟨e, v, now, x, rfl, _⟩ := h
    rfl
  · obtain ⟨e, v, now, x, rfl, ⟨dx, he⟩, h⟩ := h
    refine ⟨_, (pss_cons (ps_expr (pe_call (ok_require_new_bytes T) (hr.mono (by decide)) rfl T.g_require_new_bytes T.F_require_new_bytes.kp T.B_require_new_bytes .nil (passes_call (takes_of rfl rfl rfl rfl) (fun _ _ _ _ h => h)) (pa_cons (pv 1) pa_nil)))
      (pss_cons (ps_fldaug (pv 0) (pv 1) ip_add)
      (pss_one (ps_while (passes_of rfl) (pt_cmpR op_ge (pe_fld (pv 0) rfl) (pe_fld (pv 0) rfl) (nomark _)) (pss_cons (ps_fldaug (pv 0) (pe_fld (pv 0) rfl) ip_sub)
      (pss_one (ps_expr (pe_meth0 (pv 0) T.cl_Curve T.m_Curve_step (ok_Climb_step T) (hr.mono (by decide)) T.B_Climb_step .nil pass0)))))))), ?_⟩
    refine st_Climb_grow ?_
    o_args
    rcases h with ⟨n, rfl, n1, n2, u1, w1, k⟩ | ⟨ho, hE⟩
    · refine ⟨_, rfl, .inl ⟨n, rfl, n1, n2, ?_⟩⟩
      o_args
      refine fraise he T.cl_Curve T.n_Curve_credit (Nat.le_of_ble_eq_true rfl) rfl ?_
      o_args
      refine fput he (Nat.le_of_ble_eq_true rfl) rfl fun H1 s1 h1 => ?_
      o_args
      refine ⟨fun m σ H' => ∃ c w, m = c.toNat ∧ σ = [some (.ref e), some (.int n), some now] ∧ SameX e H H' ∧ 1 ≤ w ∧ (∀ c' w', Climbs x.up c w c' w' → Climbs x.up (x.c + n) x.w c' w') ∧
        CtAt T.c_Curve H' e { x with w := w, c := c }, ⟨_, x.c + n, x.w, rfl, rfl, s1, w1, fun _ _ z => z, ⟨dx, h1⟩⟩, ?_⟩
      rintro m σ H2 ⟨c, w, rfl, rfl, s2, w0, up, dy, h2⟩
      o_args
      refine fget h2 T.cl_Curve T.n_Curve_credit rfl ?_
      o_args
      refine fget h2 T.cl_Curve T.n_Curve_window rfl ?_
      o_args
      refine brD (fun q => ?_) (fun q => ?_)
      · refine ⟨fun σ' H' => σ' = [some (.ref e), some (.int n), some now] ∧ SameX e H H' ∧ CtAt T.c_Curve H' e { x with w := x.up w, c := c - w }, fun σ' H' ⟨hσ, sN, hN⟩ => ⟨_, ?_, c - w, x.up w, rfl, hσ, sN, x.up_pos u1 w0, fun c' w' r => up c' w' (.step q r), hN⟩, ?_⟩
        · omega
        o_args
        refine fraise h2 T.cl_Curve T.n_Curve_credit (Nat.le_of_ble_eq_true rfl) rfl ?_
        o_args
        refine fget h2 T.cl_Curve T.n_Curve_window rfl ?_
        o_args
        refine fput h2 (Nat.le_of_ble_eq_true rfl) rfl fun H3 s3 h3 => ?_
        o_args
        refine ⟨e, dy, _, rfl, h3, rfl, ?_⟩
        o_args
        refine ⟨e, { x with w := w, c := c - w }, rfl, ⟨dy, h3⟩, u1, fun H4 s4 h4 => ?_⟩
        o_args
        exact ⟨rfl, (s2.trans s3).trans s4, h4⟩
      · o_args
        exact k H2 _ _ s2 (up _ _ (.done (by omega))) ⟨dy, h2⟩
    · exact ⟨_, rfl, .inr ⟨ho, hE⟩⟩
/-! ### a curve grows -/
inductive Grown (x : Cs) (n : Int) (now : V) : Cs → Prop
  | climb {c' w' : Int} (h : x.b = none) (r : Climbs x.up (x.c + n) x.w c' w') : Grown x n now { x with c := c', w := w' }
  | curve {b m : Int} (h : x.b = some b) (e : now = .int m) : Grown x n now { x with w := min (min (x.w + n) (max x.w (x.goal b m))) 4194304 }
theorem Grown.det {x y z : Cs} {n : Int} {now : V} (a : Grown x n now y) (b : Grown x n now z) : y = z := by
  cases a with
  | climb h r => cases b with
    | climb _ r' =>
      obtain ⟨rfl, rfl⟩ := r.det r'
      rfl
    | curve h' _ => rw [h] at h'; cases h'
  | curve h e => cases b with
    | climb h' _ => rw [h] at h'; cases h'
    | curve h' e' =>
      rw [h] at h'
      cases h'
      rw [e] at e'
      cases e'
      rfl
def sp_Curve_grow (K : PySem.W.Frag) (C Ce : Addr) : Sp := fun vs H Q E => ∃ (e : Addr) (v now : V) (x : Cs), vs = [.ref e, v, now] ∧ CtAt C H e x ∧
  ((∃ n, v = .int n ∧ 1 ≤ n ∧ n ≤ 65535 ∧ x.Ready now ∧ ∀ H' y, SameX e H H' → Grown x n now y → CtAt C H' e y → Q .non H') ∨ (Out K H v 1 65535 ∧ Err Ce "number" v H E))
theorem ok_Curve_grow (T : Txt K mg) : FnOk P w K mg base (L2.CX P w) 5 T.a_Curve_grow T.fd_Curve_grow ["self", "count", "now"] (sp_Curve_grow K T.c_Curve T.c_InvalidNumber) := by
  have S := sc_Curve_grow
  refine T.F_Curve_grow.okX T.SK_Curve_grow.cell S (fun vs H Q E h => ?_) (fun A outer s H vs Q E hr h => ?_)
  · obtain ⟨e, v, now, x, rfl, _⟩ := h
    rfl
  · obtain ⟨e, v, now, x, rfl, hc, h⟩ := h
    obtain ⟨dx, he⟩ := id hc
    refine ⟨_, (pssa_cons (psa_of (ps_expr (pe_call (ok_require_new_bytes T) (hr.mono (by decide)) rfl T.g_require_new_bytes T.F_require_new_bytes.kp T.B_require_new_bytes .nil (passes_call (takes_of rfl rfl rfl rfl) (fun _ _ _ _ h => h)) (pa_cons (pv 1) pa_nil))))
      (pssa_cons (psa_if (pt_cmpR op_isN (pe_fld (pv 0) rfl) pe_non (nomark _)) (pssa_cons (psa_super (D := T.c_Curve) (m := "grow") (g := T.a_Climb_grow) T.SK_Curve_grow ⟨rfl, rfl, rfl, se_Curve_grow.1, se_Curve_grow.2.1, se_Curve_grow.2.2, rfl, T.b_super⟩ ((ok_Climb_grow T).raw T.B_Climb_grow .nil) (hr.mono (by decide)) (passes_call (takes_of rfl rfl rfl rfl) (fun _ _ _ _ h => h)) (pa_cons (pv 1) (pa_cons (pv 2) pa_nil)))
      (pssa_one (psa_of ps_retN))) (pssa_of pss_nil))
      (pssa_cons (psa_of (ps_set (i := 4) S.nd rfl (Or.inl rfl) (pe_op op_add (pe_fld (pv 0) rfl) (pe_op op_fdiv (pe_op op_mul (pe_fld (pv 0) rfl) (pe_op op_pow (pe_op op_sub (pe_op op_sub (pv 2) (pe_fld (pv 0) rfl)) (pe_fld (pv 0) rfl)) pe_int)) pe_int))))
      (pssa_one (psa_of (ps_expr (pe_meth (pv 0) T.cl_Curve T.m_Curve_set_window (ok_Control_set_window T) (hr.mono (by decide)) T.B_Control_set_window .nil pass0 (pa_cons (pe_callB (id := "min") (call_min2K rfl) (by rfl) T.b_min (by decide +kernel) (pa_cons (pe_op op_add (pe_fld (pv 0) rfl) (pv 1)) (pa_cons (pe_callB (id := "max") (call_max2K rfl) (by rfl) T.b_max (by decide +kernel) (pa_cons (pe_fld (pv 0) rfl) (pa_cons (pv 4) pa_nil))) pa_nil))) pa_nil)))))))), ?_⟩
    refine st_Curve_grow ?_
    o_args
    rcases h with ⟨n, rfl, n1, n2, rdy, k⟩ | ⟨ho, hE⟩
    · refine ⟨_, rfl, .inl ⟨n, rfl, n1, n2, ?_⟩⟩
      o_args
      refine fget he T.cl_Curve T.n_Curve_born rfl ?_
      cases hb : x.b with
      | none =>
        o_args
        refine ⟨e, _, dx, _, rfl, he, T.SC_Curve_Curve_grow, ?_⟩
        o_args
        refine ⟨e, .int n, now, x, rfl, hc, .inl ⟨n, rfl, n1, n2, rdy.fit, rdy.w1, fun H' c' w' s1 r h1 => ?_⟩⟩
        o_args
        exact k H' _ s1 (.climb hb r) h1
      | some b =>
        obtain ⟨m, rfl, m1, m2⟩ := rdy.near b hb
        have hf := rdy.fit
        unfold Cs.Fit at hf
        have u2 := rdy.u2
        o_args
        refine brDF (fun z => by cases z) ?_
        o_args
        refine fget he T.cl_Curve T.n_Curve_peak rfl ?_
        o_args
        refine fget he T.cl_Curve T.n_Curve_unit rfl ?_
        o_args
        refine fget he T.cl_Curve T.n_Curve_born rfl ?_
        rw [hb]
        dsimp only [bV]
        o_args
        refine fget he T.cl_Curve T.n_Curve_span rfl ?_
        o_args
        refine x_pow ⟨by decide, by decide, by omega⟩ ?_
        rw [pow3]
        refine x_mulL ⟨by omega, by omega⟩ ?_
        o_args
        refine ⟨e, dx, _, rfl, he, rfl, ?_⟩
        o_args
        refine fget he T.cl_Curve T.n_Curve_window rfl ?_
        o_args
        refine fget he T.cl_Curve T.n_Curve_window rfl ?_
        o_args
        refine ⟨e, x, _, rfl, hc, fun H1 s1 h1 => ?_⟩
        o_args
        exact k H1 _ s1 (.curve hb rfl) h1
    · exact ⟨_, rfl, .inr ⟨ho, hE⟩⟩
inductive Acked (x : Cs) (n f : Int) (now : V) : Cs → Prop
  | idle (h : 2 * (f + n) < x.w) : Acked x n f now { x with st := false }
  | start (h : ¬ 2 * (f + n) < x.w) (g : x.w < x.t) : Acked x n f now { x with st := false, w := min (x.w + min n x.u) 4194304 }
  | grow {y : Cs} (h : ¬ 2 * (f + n) < x.w) (g : ¬ x.w < x.t) (r : Grown { x with st := false } n now y) : Acked x n f now y
theorem Acked.det {x y z : Cs} {n f : Int} {now : V} (a : Acked x n f now y) (b : Acked x n f now z) : y = z := by
  cases a with
  | idle h => cases b with
    | idle _ => rfl
    | start h' _ => exact absurd h h'
    | grow h' _ _ => exact absurd h h'
  | start h g => cases b with
    | idle h' => exact absurd h' h
    | start _ _ => rfl
    | grow _ g' _ => exact absurd g g'
  | grow h g r => cases b with
    | idle h' => exact absurd h' h
    | start _ g' => exact absurd g' g
    | grow _ _ r' => exact r.det r'
theorem Acked.inv {x y : Cs} {n f : Int} {now : V} (a : Acked x n f now y) : (2 * (f + n) < x.w → y = { x with st := false }) ∧ (¬ 2 * (f + n) < x.w → x.w < x.t → y = { x with st := false, w := min (x.w + min n x.u) 4194304 }) ∧
    (¬ 2 * (f + n) < x.w → ¬ x.w < x.t → Grown { x with st := false } n now y) := by
  cases a with
  | idle h => exact ⟨fun _ => rfl, fun q => absurd h q, fun q => absurd h q⟩
  | start h g => exact ⟨fun q => absurd q h, fun _ _ => rfl, fun _ q => absurd g q⟩
  | grow h g r => exact ⟨fun q => absurd q h, fun _ q => absurd q g, fun _ _ => r⟩
def sp_Control_on_ack (K : PySem.W.Frag) (C Ce : Addr) : Sp := fun vs H Q E => ∃ (e : Addr) (v now : V) (f : Int) (x : Cs), vs = [.ref e, v, .int f, now] ∧ CtAt C H e x ∧
  ((∃ n, v = .int n ∧ 1 ≤ n ∧ n ≤ 65535 ∧ x.Ready now ∧ ∀ H' y, SameX e H H' → Acked x n f now y → CtAt C H' e y → Q .non H') ∨ (Out K H v 1 65535 ∧ Err Ce "number" v H E))
theorem ok_Control_on_ack (T : Txt K mg) : FnOk P w K mg base (L2.CX P w) 6 T.a_Control_on_ack T.fd_Control_on_ack ["self", "count", "flight", "now"] (sp_Control_on_ack K T.c_Curve T.c_InvalidNumber) := by
  have S := sc_Control_on_ack
  refine T.F_Control_on_ack.okX S (fun vs H Q E h => ?_) (fun cdv A outer s H vs Q E hr h => ?_)
  · obtain ⟨e, v, now, f, x, rfl, _⟩ := h
    rfl
  · obtain ⟨e, v, now, f, x, rfl, ⟨dx, he⟩, h⟩ := h
    refine ⟨_, (pss_cons (ps_expr (pe_call (ok_require_new_bytes T) (hr.mono (by decide)) rfl T.g_require_new_bytes T.F_require_new_bytes.kp T.B_require_new_bytes .nil (passes_call (takes_of rfl rfl rfl rfl) (fun _ _ _ _ h => h)) (pa_cons (pv 1) pa_nil)))
      (pss_cons (ps_fld (pv 0) pe_bl rfl)
      (pss_cons (ps_if (pt_cmpR op_lt (pe_op op_mul pe_int (pe_op op_add (pv 2) (pv 1))) (pe_fld (pv 0) rfl) (nomark _)) (pss_one ps_retN) pss_nil)
      (pss_one (ps_if (pt_val (pe_prop (pv 0) T.cl_Curve T.PR_Curve_starting (ok_Control_starting T) (hr.mono (by decide)) T.B_Control_starting .nil pass0 rfl)) (pss_one (ps_expr (pe_meth (pv 0) T.cl_Curve T.m_Curve_set_window (ok_Control_set_window T) (hr.mono (by decide)) T.B_Control_set_window .nil pass0 (pa_cons (pe_op op_add (pe_fld (pv 0) rfl) (pe_callB (id := "min") (call_min2K rfl) (by rfl) T.b_min (by decide +kernel) (pa_cons (pv 1) (pa_cons (pe_fld (pv 0) rfl) pa_nil)))) pa_nil)))) (pss_one (ps_expr (pe_meth (pv 0) T.cl_Curve T.m_Curve_grow (ok_Curve_grow T) (hr.mono (by decide)) T.B_Curve_grow .nil (passes_call (takes_of rfl rfl rfl rfl) (fun _ _ _ _ h => h)) (pa_cons (pv 1) (pa_cons (pv 3) pa_nil)))))))))), ?_⟩
    refine st_Control_on_ack ?_
    o_args
    rcases h with ⟨n, rfl, n1, n2, rdy, k⟩ | ⟨ho, hE⟩
    · refine ⟨_, rfl, .inl ⟨n, rfl, n1, n2, ?_⟩⟩
      o_args
      refine fstore he T.cl_Curve T.n_Curve_stalled (Nat.le_of_ble_eq_true rfl) rfl fun H1 s1 h1 => ?_
      o_args
      refine fget h1 T.cl_Curve T.n_Curve_window rfl ?_
      o_args
      refine brD (fun q => ?_) (fun q => ?_)
      · o_args
        exact k H1 _ s1 (.idle q) ⟨dx, h1⟩
      o_args
      refine ⟨e, dx, _, rfl, h1, e, { x with st := false }, rfl, ⟨dx, h1⟩, ?_⟩
      o_args
      refine brD (fun q' => ?_) (fun q' => ?_)
      · o_args
        refine ⟨e, dx, _, rfl, h1, rfl, ?_⟩
        o_args
        refine fget h1 T.cl_Curve T.n_Curve_window rfl ?_
        o_args
        refine fget h1 T.cl_Curve T.n_Curve_unit rfl ?_
        o_args
        refine ⟨e, { x with st := false }, _, rfl, ⟨dx, h1⟩, fun H2 s2 h2 => ?_⟩
        o_args
        exact k H2 _ (s1.trans s2) (.start q q') h2
      · o_args
        refine ⟨e, dx, _, rfl, h1, rfl, ?_⟩
        o_args
        refine ⟨e, _, _, { x with st := false }, rfl, ⟨dx, h1⟩, .inl ⟨n, rfl, n1, n2, rdy.st, fun H2 y s2 r h2 => ?_⟩⟩
        o_args
        exact k H2 _ (s1.trans s2) (.grow q q' r) h2
    · exact ⟨_, rfl, .inr ⟨ho, hE⟩⟩
def sp_Climb_on_ack (K : PySem.W.Frag) (C Ce : Addr) : Sp := sp_Control_on_ack K C Ce
theorem ok_Climb_on_ack (T : Txt K mg) : FnOk P w K mg base (L2.CX P w) 7 T.a_Climb_on_ack T.fd_Climb_on_ack ["self", "count", "flight", "now"] (sp_Climb_on_ack K T.c_Curve T.c_InvalidNumber) := by
  have S := sc_Climb_on_ack
  refine T.F_Climb_on_ack.okX T.SK_Climb_on_ack.cell S (fun vs H Q E h => ?_) (fun A outer s H vs Q E hr h => ?_)
  · obtain ⟨e, v, now, f, x, rfl, _⟩ := h
    rfl
  · obtain ⟨e, v, now, f, x, rfl, hc, h⟩ := h
    obtain ⟨dx, he⟩ := id hc
    refine ⟨_, (pssa_one (psa_super (D := T.c_Climb) (m := "on_ack") (g := T.a_Control_on_ack) T.SK_Climb_on_ack ⟨rfl, rfl, rfl, se_Climb_on_ack.1, se_Climb_on_ack.2.1, se_Climb_on_ack.2.2, rfl, T.b_super⟩ ((ok_Control_on_ack T).raw T.B_Control_on_ack .nil) (hr.mono (by decide)) (passes_call (takes_of rfl rfl rfl rfl) (fun _ _ _ _ h => h)) (pa_cons (pv 1) (pa_cons (pv 2) (pa_cons (pv 3) pa_nil))))), ?_⟩
    refine st_Climb_on_ack ?_
    o_args
    refine ⟨e, _, dx, _, rfl, he, T.SC_Curve_Climb_on_ack, ?_⟩
    o_args
    refine ⟨e, v, now, f, x, rfl, hc, ?_⟩
    rcases h with ⟨n, rfl, n1, n2, rdy, k⟩ | ⟨ho, hE⟩
    · exact .inl ⟨n, rfl, n1, n2, rdy, fun H' y s1 a h1 => k H' y s1 a h1⟩
    · exact .inr ⟨ho, hE⟩
def sp_Climb_on_expiry (C : Addr) : Sp := sp_Control_on_expiry C
theorem ok_Climb_on_expiry (T : Txt K mg) : FnOk P w K mg base (L2.CX P w) 2 T.a_Climb_on_expiry T.fd_Climb_on_expiry ["self", "flight", "now"] (sp_Climb_on_expiry T.c_Curve) := by
  have S := sc_Climb_on_expiry
  refine T.F_Climb_on_expiry.okX T.SK_Climb_on_expiry.cell S (fun vs H Q E h => ?_) (fun A outer s H vs Q E hr h => ?_)
  · obtain ⟨e, x, f, n, rfl, _⟩ := h
    rfl
  · obtain ⟨e, x, f, n, rfl, hc, f0, k⟩ := h
    obtain ⟨dx, he⟩ := id hc
    refine ⟨_, (pssa_one (psa_super (D := T.c_Climb) (m := "on_expiry") (g := T.a_Control_on_expiry) T.SK_Climb_on_expiry ⟨rfl, rfl, rfl, se_Climb_on_expiry.1, se_Climb_on_expiry.2.1, se_Climb_on_expiry.2.2, rfl, T.b_super⟩ ((ok_Control_on_expiry T).raw T.B_Control_on_expiry .nil) (hr.mono (by decide)) pass0 (pa_cons (pv 1) (pa_cons (pv 2) pa_nil)))), ?_⟩
    refine st_Climb_on_expiry ?_
    o_args
    refine ⟨e, _, dx, _, rfl, he, T.SC_Curve_Climb_on_expiry, ?_⟩
    o_args
    exact ⟨e, x, f, n, rfl, hc, f0, k⟩
def sp_Climb_on_sample (C : Addr) : Sp := fun vs H Q _ => ∃ (e : Addr) (n : V) (x : Cs), vs = [.ref e, n] ∧ CtAt C H e x ∧ Q .non H
theorem ok_Climb_on_sample (T : Txt K mg) : FnOk P w K mg base (L2.CX P w) 2 T.a_Climb_on_sample T.fd_Climb_on_sample ["self", "ticks"] (sp_Climb_on_sample T.c_Curve) := by
  have S := sc_Climb_on_sample
  refine T.F_Climb_on_sample.okX T.SK_Climb_on_sample.cell S (fun vs H Q E h => ?_) (fun A outer s H vs Q E hr h => ?_)
  · obtain ⟨e, n, x, rfl, _⟩ := h
    rfl
  · obtain ⟨e, n, x, rfl, hc, k⟩ := h
    obtain ⟨dx, he⟩ := id hc
    refine ⟨_, (pssa_one (psa_super (D := T.c_Climb) (m := "on_sample") (g := T.a_Control_on_sample) T.SK_Climb_on_sample ⟨rfl, rfl, rfl, se_Climb_on_sample.1, se_Climb_on_sample.2.1, se_Climb_on_sample.2.2, rfl, T.b_super⟩ ((ok_Control_on_sample T).raw T.B_Control_on_sample .nil) (hr.mono (by decide)) pass0 (pa_cons (pv 1) pa_nil))), ?_⟩
    refine st_Climb_on_sample ?_
    o_args
    refine ⟨e, _, dx, _, rfl, he, T.SC_Curve_Climb_on_sample, ?_⟩
    o_args
    exact ⟨_, n, rfl, k⟩
/-! ### the other methods of a curve -/
def sp_Curve_on_ack (K : PySem.W.Frag) (C Ce : Addr) : Sp := sp_Control_on_ack K C Ce
theorem ok_Curve_on_ack (T : Txt K mg) : FnOk P w K mg base (L2.CX P w) 8 T.a_Curve_on_ack T.fd_Curve_on_ack ["self", "count", "flight", "now"] (sp_Curve_on_ack K T.c_Curve T.c_InvalidNumber) := by
  have S := sc_Curve_on_ack
  refine T.F_Curve_on_ack.okX T.SK_Curve_on_ack.cell S (fun vs H Q E h => ?_) (fun A outer s H vs Q E hr h => ?_)
  · obtain ⟨e, v, now, f, x, rfl, _⟩ := h
    rfl
  · obtain ⟨e, v, now, f, x, rfl, hc, h⟩ := h
    obtain ⟨dx, he⟩ := id hc
    refine ⟨_, (pssa_one (psa_super (D := T.c_Curve) (m := "on_ack") (g := T.a_Climb_on_ack) T.SK_Curve_on_ack ⟨rfl, rfl, rfl, se_Curve_on_ack.1, se_Curve_on_ack.2.1, se_Curve_on_ack.2.2, rfl, T.b_super⟩ ((ok_Climb_on_ack T).raw T.B_Climb_on_ack .nil) (hr.mono (by decide)) (passes_call (takes_of rfl rfl rfl rfl) (fun _ _ _ _ h => h)) (pa_cons (pv 1) (pa_cons (pv 2) (pa_cons (pv 3) pa_nil))))), ?_⟩
    refine st_Curve_on_ack ?_
    o_args
    refine ⟨e, _, dx, _, rfl, he, T.SC_Curve_Curve_on_ack, ?_⟩
    o_args
    refine ⟨e, v, now, f, x, rfl, hc, ?_⟩
    rcases h with ⟨n, rfl, n1, n2, rdy, k⟩ | ⟨ho, hE⟩
    · exact .inl ⟨n, rfl, n1, n2, rdy, fun H' y s1 a h1 => k H' y s1 a h1⟩
    · exact .inr ⟨ho, hE⟩
def sp_Curve_span_to (C : Addr) : Sp := fun vs H Q _ => ∃ (e : Addr) (x : Cs) (p : Int), vs = [.ref e, .int p] ∧ CtAt C H e x ∧ 1 ≤ x.u ∧ x.u ≤ 65535 ∧ p - x.w ≤ 4194304 ∧ ∀ s, Span x.u (64 * (p - x.w)) s → Q (.int s) H
theorem ok_Curve_span_to (T : Txt K mg) : FnOk P w K mg base CX0 1 T.a_Curve_span_to T.fd_Curve_span_to ["self", "peak"] (sp_Curve_span_to T.c_Curve) := by
  have S := sc_Curve_span_to
  refine T.F_Curve_span_to.ok S (fun vs H Q E h => ?_) (fun cdv A outer s H vs Q E hr h => ?_)
  · obtain ⟨e, x, p, rfl, _⟩ := h
    rfl
  · obtain ⟨e, x, p, rfl, ⟨dx, he⟩, u1, u2, pw, k⟩ := h
    refine ⟨_, (pss_cons (ps_set (i := 2) S.nd rfl (Or.inl rfl) pe_int)
      (pss_cons (ps_while PassesOwn.never (pt_cmpR op_lt (pe_op op_mul (pe_fld (pv 0) rfl) (pe_op op_pow (pv 2) pe_int)) (pe_op op_mul pe_int (pe_op op_sub (pv 1) (pe_fld (pv 0) rfl))) (nomark _)) (pss_one (ps_aug (i := 2) S.nd rfl (.inl rfl) pe_int ip_add)))
      (pss_one (ps_ret (pv 2))))), ?_⟩
    refine st_Curve_span_to ?_
    o_args
    refine ⟨fun m σ H' => ∃ s : Int, m = (64 * (p - x.w) - s).toNat ∧ σ = [some (.ref e), some (.int p), some (.int s)] ∧ H' = H ∧ 0 ≤ s ∧ (s = 0 ∨ x.u * ((s - 1) * (s - 1) * (s - 1)) < 64 * (p - x.w)), ⟨_, 0, rfl, rfl, rfl, by omega, .inl rfl⟩, ?_⟩
    rintro m σ H1 ⟨s, rfl, rfl, rfl, s0, sl⟩
    have sb : s ≤ 2 ^ 30 := by
      rcases sl with z | z
      · omega
      · by_cases q : s = 0
        · omega
        · have := cube_ge (s := s - 1) (u := x.u) (by omega) u1
          omega
    o_args
    refine fget he T.cl_Curve T.n_Curve_unit rfl ?_
    o_args
    refine x_pow ⟨by decide, by decide, by omega⟩ ?_
    rw [pow3]
    refine x_mulL ⟨by omega, by omega⟩ ?_
    o_args
    refine fget he T.cl_Curve T.n_Curve_window rfl ?_
    o_args
    refine brD (fun q => ?_) (fun q => ?_)
    · have := cube_ge (s := s) (u := x.u) s0 u1
      refine ⟨fun σ' H' => σ' = [some (.ref e), some (.int p), some (.int (s + 1))] ∧ H' = H1, fun σ' H' ⟨hσ, hh⟩ => ⟨_, ?_, s + 1, rfl, hσ, hh, by omega, .inr (by rw [show s + 1 - 1 = s by omega]; exact q)⟩, ?_⟩
      · omega
      o_args
      refine ⟨_, rfl, _, _, rfl, rfl, ?_⟩
      exact ⟨rfl, rfl⟩
    · o_args
      exact k s ⟨s0, by omega, sl⟩
def Cs.fell (x : Cs) (m s : Int) : Cs := { x with p := x.w, t := max (x.w * 7 / 10) (2 * x.u), w := max (x.w * 7 / 10) (2 * x.u), c := 0, b := some m, s := s }
def Cs.need (x : Cs) : Int := 64 * (x.w - max (x.w * 7 / 10) (2 * x.u))
def sp_Curve_on_loss (C : Addr) : Sp := fun vs H Q _ => ∃ (e : Addr) (x : Cs) (f : V) (m : Int), vs = [.ref e, f, .int m] ∧ CtAt C H e x ∧ 1 ≤ x.u ∧ x.u ≤ 65535 ∧ 1 ≤ x.w ∧ x.w ≤ 4194304 ∧ ∀ H' s, SameX e H H' → Span x.u x.need s → CtAt C H' e (x.fell m s) → Q .non H'
theorem ok_Curve_on_loss (T : Txt K mg) : FnOk P w K mg base CX0 2 T.a_Curve_on_loss T.fd_Curve_on_loss ["self", "flight", "now"] (sp_Curve_on_loss T.c_Curve) := by
  have S := sc_Curve_on_loss
  refine T.F_Curve_on_loss.ok S (fun vs H Q E h => ?_) (fun cdv A outer s H vs Q E hr h => ?_)
  · obtain ⟨e, x, f, m, rfl, _⟩ := h
    rfl
  · obtain ⟨e, x, f, m, rfl, ⟨dx, he⟩, u1, u2, w1, w2, k⟩ := h
    refine ⟨_, (pss_cons (ps_fld (pv 0) (pe_fld (pv 0) rfl) rfl)
      (pss_cons (ps_fld (pv 0) (pe_callB (id := "max") (call_max2K rfl) (by rfl) T.b_max (by decide +kernel) (pa_cons (pe_op op_fdiv (pe_op op_mul (pe_fld (pv 0) rfl) pe_int) pe_int) (pa_cons (pe_op op_mul pe_int (pe_fld (pv 0) rfl)) pa_nil))) rfl)
      (pss_cons (ps_fld (pv 0) (pe_fld (pv 0) rfl) rfl)
      (pss_cons (ps_fld (pv 0) pe_int rfl)
      (pss_cons (ps_fld (pv 0) (pv 2) rfl)
      (pss_one (ps_fld (pv 0) (pe_meth (pv 0) T.cl_Curve T.m_Curve_span_to (ok_Curve_span_to T) (hr.mono (by decide)) T.B_Curve_span_to .nil pass0 (pa_cons (pe_fld (pv 0) rfl) pa_nil)) rfl))))))), ?_⟩
    refine st_Curve_on_loss ?_
    o_args
    refine fget he T.cl_Curve T.n_Curve_window rfl ?_
    o_args
    refine fstore he T.cl_Curve T.n_Curve_peak (Nat.le_of_ble_eq_true rfl) rfl fun H1 s1 h1 => ?_
    o_args
    refine fget h1 T.cl_Curve T.n_Curve_window rfl ?_
    o_args
    refine fget h1 T.cl_Curve T.n_Curve_unit rfl ?_
    o_args
    refine fstore h1 T.cl_Curve T.n_Curve_threshold (Nat.le_of_ble_eq_true rfl) rfl fun H2 s2 h2 => ?_
    o_args
    refine fget h2 T.cl_Curve T.n_Curve_threshold rfl ?_
    o_args
    refine fstore h2 T.cl_Curve T.n_Curve_window (Nat.le_of_ble_eq_true rfl) rfl fun H3 s3 h3 => ?_
    o_args
    refine fstore h3 T.cl_Curve T.n_Curve_credit (Nat.le_of_ble_eq_true rfl) rfl fun H4 s4 h4 => ?_
    o_args
    refine fstore h4 T.cl_Curve T.n_Curve_born (Nat.le_of_ble_eq_true rfl) rfl fun H5 s5 h5 => ?_
    o_args
    refine ⟨e, dx, _, rfl, h5, rfl, ?_⟩
    o_args
    refine fget h5 T.cl_Curve T.n_Curve_peak rfl ?_
    o_args
    refine ⟨e, x.fell m x.s, x.w, rfl, ⟨dx, h5⟩, u1, u2, ?_, fun s hs => ?_⟩
    · show x.w - max (x.w * 7 / 10) (2 * x.u) ≤ 4194304
      omega
    o_args
    refine fstore h5 T.cl_Curve T.n_Curve_span (Nat.le_of_ble_eq_true rfl) rfl fun H6 s6 h6 => ?_
    o_args
    exact k H6 s (((((s1.trans s2).trans s3).trans s4).trans s5).trans s6) hs ⟨dx, h6⟩
def Cs.gone (x : Cs) (f : Int) : Cs := ({ x with p := x.w, b := none } : Cs).expired f
def sp_Curve_on_expiry (C : Addr) : Sp := fun vs H Q _ => ∃ (e : Addr) (x : Cs) (f : Int) (n : V), vs = [.ref e, .int f, n] ∧ CtAt C H e x ∧ 0 ≤ f ∧ ∀ H', SameX e H H' → CtAt C H' e (x.gone f) → Q .non H'
theorem ok_Curve_on_expiry (T : Txt K mg) : FnOk P w K mg base (L2.CX P w) 3 T.a_Curve_on_expiry T.fd_Curve_on_expiry ["self", "flight", "now"] (sp_Curve_on_expiry T.c_Curve) := by
  have S := sc_Curve_on_expiry
  refine T.F_Curve_on_expiry.okX T.SK_Curve_on_expiry.cell S (fun vs H Q E h => ?_) (fun A outer s H vs Q E hr h => ?_)
  · obtain ⟨e, x, f, n, rfl, _⟩ := h
    rfl
  · obtain ⟨e, x, f, n, rfl, hc, f0, k⟩ := h
    obtain ⟨dx, he⟩ := id hc
    refine ⟨_, (pssa_cons (psa_of (ps_fld (pv 0) (pe_fld (pv 0) rfl) rfl))
      (pssa_cons (psa_of (ps_fld (pv 0) pe_non rfl))
      (pssa_one (psa_super (D := T.c_Curve) (m := "on_expiry") (g := T.a_Climb_on_expiry) T.SK_Curve_on_expiry ⟨rfl, rfl, rfl, se_Curve_on_expiry.1, se_Curve_on_expiry.2.1, se_Curve_on_expiry.2.2, rfl, T.b_super⟩ ((ok_Climb_on_expiry T).raw T.B_Climb_on_expiry .nil) (hr.mono (by decide)) (passes_call (takes_of rfl rfl rfl rfl) (fun _ _ _ _ h => h)) (pa_cons (pv 1) (pa_cons (pv 2) pa_nil)))))), ?_⟩
    refine st_Curve_on_expiry ?_
    o_args
    refine fget he T.cl_Curve T.n_Curve_window rfl ?_
    o_args
    refine fstore he T.cl_Curve T.n_Curve_peak (Nat.le_of_ble_eq_true rfl) rfl fun H1 s1 h1 => ?_
    o_args
    refine fstore h1 T.cl_Curve T.n_Curve_born (Nat.le_of_ble_eq_true rfl) rfl fun H2 s2 h2 => ?_
    o_args
    refine ⟨e, _, dx, _, rfl, h2, T.SC_Curve_Curve_on_expiry, ?_⟩
    o_args
    exact ⟨e, { x with p := x.w, b := none }, f, n, rfl, ⟨dx, h2⟩, f0, fun H3 s3 h3 => k H3 ((s1.trans s2).trans s3) h3⟩
def sp_Curve_on_sample (C : Addr) : Sp := fun vs H Q _ => ∃ (e : Addr) (n : V) (x : Cs), vs = [.ref e, n] ∧ CtAt C H e x ∧ Q .non H
theorem ok_Curve_on_sample (T : Txt K mg) : FnOk P w K mg base (L2.CX P w) 3 T.a_Curve_on_sample T.fd_Curve_on_sample ["self", "ticks"] (sp_Curve_on_sample T.c_Curve) := by
  have S := sc_Curve_on_sample
  refine T.F_Curve_on_sample.okX T.SK_Curve_on_sample.cell S (fun vs H Q E h => ?_) (fun A outer s H vs Q E hr h => ?_)
  · obtain ⟨e, n, x, rfl, _⟩ := h
    rfl
  · obtain ⟨e, n, x, rfl, hc, k⟩ := h
    obtain ⟨dx, he⟩ := id hc
    refine ⟨_, (pssa_one (psa_super (D := T.c_Curve) (m := "on_sample") (g := T.a_Climb_on_sample) T.SK_Curve_on_sample ⟨rfl, rfl, rfl, se_Curve_on_sample.1, se_Curve_on_sample.2.1, se_Curve_on_sample.2.2, rfl, T.b_super⟩ ((ok_Climb_on_sample T).raw T.B_Climb_on_sample .nil) (hr.mono (by decide)) (passes_call (takes_of rfl rfl rfl rfl) (fun _ _ _ _ h => h)) (pa_cons (pv 1) pa_nil))), ?_⟩
    refine st_Curve_on_sample ?_
    o_args
    refine ⟨e, _, dx, _, rfl, he, T.SC_Curve_Curve_on_sample, ?_⟩
    o_args
    exact ⟨e, n, x, rfl, hc, k⟩
def sp_Curve_init_ (C : Addr) : Sp := fun vs H Q _ => ∃ (p dx : Addr) (u : Int), vs = [.ref p, .int u] ∧ H p = some (.ins C dx []) ∧ 1 ≤ u ∧ u ≤ 65535 ∧ ∀ H', SameX p H H' → CtAt C H' p ⟨u, 2 * u, 4194304, 0, false, 0, 0, none⟩ → Q .non H'
theorem ok_Curve_init_ (T : Txt K mg) : FnOk P w K mg base (L2.CX P w) 4 T.a_Curve_init_ T.fd_Curve_init_ ["self", "unit"] (sp_Curve_init_ T.c_Curve) := by
  have S := sc_Curve_init_
  refine T.F_Curve_init_.okX T.SK_Curve_init_.cell S (fun vs H Q E h => ?_) (fun A outer s H vs Q E hr h => ?_)
  · obtain ⟨p, dx, u, rfl, _⟩ := h
    rfl
  · obtain ⟨p, dx, u, rfl, hp, h1, h2, k⟩ := h
    refine ⟨_, (pssa_cons (psa_super (D := T.c_Curve) (m := "__init__") (g := T.a_Control_init_) T.SK_Curve_init_ ⟨rfl, rfl, rfl, se_Curve_init_.1, se_Curve_init_.2.1, se_Curve_init_.2.2, rfl, T.b_super⟩ ((ok_Control_init_ T).raw T.B_Control_init_ .nil) (hr.mono (by decide)) (passes_call (takes_of rfl rfl rfl rfl) (fun _ _ _ _ h => h)) (pa_cons (pv 1) pa_nil))
      (pssa_cons (psa_of (ps_fld (pv 0) pe_int rfl))
      (pssa_cons (psa_of (ps_fld (pv 0) pe_int rfl))
      (pssa_one (psa_of (ps_fld (pv 0) pe_non rfl)))))), ?_⟩
    refine st_Curve_init_ ?_
    o_args
    refine ⟨p, _, dx, _, rfl, hp, T.SC_Curve_Curve_init_, ?_⟩
    o_args
    refine ⟨p, dx, u, rfl, hp, h1, h2, fun H0 s0 ⟨d0, h0⟩ => ?_⟩
    o_args
    refine fstore h0 T.cl_Curve T.n_Curve_peak (Nat.le_of_ble_eq_true rfl) rfl fun H1 s1 h1 => ?_
    o_args
    refine fstore h1 T.cl_Curve T.n_Curve_span (Nat.le_of_ble_eq_true rfl) rfl fun H2 s2 h2 => ?_
    o_args
    refine fstore h2 T.cl_Curve T.n_Curve_born (Nat.le_of_ble_eq_true rfl) rfl fun H3 s3 h3 => ?_
    o_args
    exact k H3 (((s0.trans s1).trans s2).trans s3) ⟨d0, h3⟩
/-! ### a box of three, drawn from -/
def Bx (a : Addr) (H : Hp) : Prop := ∃ x y z : Int, H a = some (.lst [.int x, .int y, .int z]) ∧ 0 ≤ x
theorem Bx.same {a : Addr} {H H' : Hp} (B : Bx a H) (s : Same H H') : Bx a H' := B.elim fun x h => h.elim fun y h => h.elim fun z h => ⟨x, y, z, s _ _ h.1, h.2⟩
theorem Bx.on {a b : Addr} {H H' : Hp} (B : Bx a H) (s : SameX b H H') (n : a ≠ b) : Bx a H' := B.elim fun x h => h.elim fun y h => h.elim fun z h => ⟨x, y, z, s _ _ n h.1, h.2⟩
theorem Bx.ne {a b : Addr} {o : HO} {H : Hp} (B : Bx a H) (h : H b = some o) (ho : ∀ x y z, o ≠ .lst [x, y, z] := by intro _ _ _ e; cases e) : b ≠ a := fun e => by
  subst e
  obtain ⟨x, y, z, h', _⟩ := B
  rw [h'] at h
  exact ho _ _ _ (Option.some.inj h).symm
def sp__law_cell (K : PySem.W.Frag) : Sp := fun vs H Q _ => ∃ (a : Addr) (ns : List Int) (k : Int), vs = [.ref a, .int k] ∧ SqL K H a (ns.map V.int) ∧ 0 ≤ k ∧ ∀ n H', Same H H' → Q (.int n) H'
theorem ok__law_cell (T : Txt K mg) : FnOk P w K mg base CX0 1 T.a__law_cell T.fd__law_cell ["script", "k"] (sp__law_cell K) := by
  have S := sc__law_cell
  refine T.F__law_cell.ok S (fun vs H Q E h => ?_) (fun cdv A outer s H vs Q E hr h => ?_)
  · obtain ⟨a, ns, k, rfl, _⟩ := h
    rfl
  · obtain ⟨a, ns, j, rfl, hS, j0, k⟩ := h
    refine ⟨_, (pss_cons (ps_if (pt_cmpR op_lt (pv 1) (pe_callB (id := "len") (call_lenK (K := K) rfl) (by rfl) T.b_len (by decide +kernel) (pa_cons (pv 0) pa_nil)) (nomark _)) (pss_one (ps_ret (pe_ix ix_list (pv 0) (pv 1) (fun _ _ => rfl)))) pss_nil)
      (pss_one (ps_ret (pe_op op_add (pe_op op_add (pe_op op_mul pe_int (pv 1)) pe_int) (pe_op op_mod (pe_callTy (T := "int") call_int1 (by rfl) T.b_int (by decide +kernel) (pa_cons (pe_callB (id := "sum") (cr_sum rfl) (by rfl) T.b_sum (by decide +kernel) (pa_cons (pe_slice sl_list (pv 0) po_none (po_some pe_int)) pa_nil)) pa_nil)) pe_int))))), ?_⟩
    refine st__law_cell ?_
    o_args
    refine lenA (.inl hS) ?_
    o_args
    refine brD (fun q => ?_) (fun q => ?_)
    · o_args
      obtain ⟨j, rfl⟩ : ∃ i : Nat, j = i := ⟨j.toNat, by omega⟩
      have q' : j < (ns.map V.int).length := by omega
      rw [List.length_map] at q'
      refine ⟨_, _, _, _, rfl, rfl, hS, atI_nat (v := .int ns[j]) (by rw [List.getElem?_map, List.getElem?_eq_getElem q']; rfl), ?_⟩
      o_args
      exact k _ _ (Same.refl _)
    · o_args
      refine sliceL hS fun l H1 hl s1 h1 => ?_
      o_args
      have h1 : H1 l = some (.lst (cutV (ns.map V.int) none (some ((1 : Nat) : Int)))) := h1
      rw [cut_to, ← List.map_take] at h1
      refine ⟨_, _, rfl, SqL.of h1, ?_⟩
      o_args
      exact k _ _ s1
def sp__law_rounds (K : PySem.W.Frag) : Sp := fun vs H Q _ => ∃ (a : Addr) (xs : List V), vs = [.ref a] ∧ SqL K H a xs ∧ ∀ n, 4 ≤ n → n ≤ 62 → Q (.int n) H
theorem ok__law_rounds (T : Txt K mg) : FnOk P w K mg base CX0 1 T.a__law_rounds T.fd__law_rounds ["script"] (sp__law_rounds K) := by
  have S := sc__law_rounds
  refine T.F__law_rounds.ok S (fun vs H Q E h => ?_) (fun cdv A outer s H vs Q E hr h => ?_)
  · obtain ⟨a, xs, rfl, _⟩ := h
    rfl
  · obtain ⟨a, xs, rfl, hS, k⟩ := h
    refine ⟨_, (pss_one (ps_ret (pe_callB (id := "min") (call_min2K rfl) (by rfl) T.b_min (by decide +kernel) (pa_cons pe_int (pa_cons (pe_callB (id := "max") (call_max2K rfl) (by rfl) T.b_max (by decide +kernel) (pa_cons (pe_op op_add pe_int (pe_op op_mul pe_int (pe_callB (id := "min") (call_min2K rfl) (by rfl) T.b_min (by decide +kernel) (pa_cons pe_int (pa_cons (pe_callB (id := "len") (call_lenK (K := K) rfl) (by rfl) T.b_len (by decide +kernel) (pa_cons (pv 0) pa_nil)) pa_nil))))) (pa_cons (pe_op op_sub (pe_callB (id := "len") (call_lenK (K := K) rfl) (by rfl) T.b_len (by decide +kernel) (pa_cons (pv 0) pa_nil)) pe_int) pa_nil))) pa_nil))))), ?_⟩
    refine st__law_rounds ?_
    o_args
    refine lenA (.inl hS) ?_
    o_args
    refine lenA (.inl hS) ?_
    o_args
    exact k _ (by omega) (by omega)
def sp__law_box : Sp := fun vs H Q _ => ∃ (n : Int), vs = [.int n] ∧ ∀ b H', H b = none → Same H H' → Bx b H' → Q (.ref b) H'
theorem ok__law_box (T : Txt K mg) : FnOk P w K mg base CX0 1 T.a__law_box T.fd__law_box ["cell"] (sp__law_box) := by
  have S := sc__law_box
  refine T.F__law_box.ok S (fun vs H Q E h => ?_) (fun cdv A outer s H vs Q E hr h => ?_)
  · obtain ⟨n, rfl, _⟩ := h
    rfl
  · obtain ⟨n, rfl, k⟩ := h
    refine ⟨_, (pss_cons (ps_if (pt_cmpR op_ge (pv 0) (pe_op op_pow pe_int pe_int) (nomark _)) (pss_one (ps_ret (pe_lst (pa_cons (pv 0) (pa_cons (pv 0) (pa_cons pe_int pa_nil)))))) pss_nil)
      (pss_one (ps_ret (pe_lst (pa_cons pe_int (pa_cons (pv 0) (pa_cons pe_int pa_nil))))))), ?_⟩
    refine st__law_box ?_
    o_args
    have e18 : (10 : Int) ^ Int.toNat 18 = 1000000000000000000 := rfl
    refine brD (fun q => ?_) (fun q => ?_)
    · rw [e18] at q
      o_args
      refine newList (by simp) fun b H3 hb s3 h3 => ?_
      o_args
      exact k b H3 hb s3 ⟨_, _, _, h3, by omega⟩
    · o_args
      refine newList (by simp) fun b H3 hb s3 h3 => ?_
      o_args
      exact k b H3 hb s3 ⟨_, _, _, h3, by omega⟩
def sp__law_draw : Sp := fun vs H Q _ => ∃ (a : Addr) (m : Int), vs = [.ref a, .int m] ∧ Bx a H ∧ 0 < m ∧ m < 2 ^ 62 ∧ ∀ d H', 0 ≤ d → d < m → Bx a H' → SameX a H H' → Q (.int d) H'
theorem ok__law_draw (T : Txt K mg) : FnOk P w K mg base CX0 1 T.a__law_draw T.fd__law_draw ["box", "size"] (sp__law_draw) := by
  have S := sc__law_draw
  refine T.F__law_draw.ok S (fun vs H Q E h => ?_) (fun cdv A outer s H vs Q E hr h => ?_)
  · obtain ⟨a, m, rfl, _⟩ := h
    rfl
  · obtain ⟨a, m, rfl, ⟨x, y, z, hA, x0⟩, m0, m1, k⟩ := h
    have m0' : m ≠ 0 := by omega
    refine ⟨_, (pss_cons (ps_augS (pv 0) pe_int (show PGet _ (rIxL K) from pget_list) pe_int ip_add set_list)
      (pss_cons (ps_if (pt_cmpR op_gt (pe_ix ix_list (pv 0) pe_int (fun _ _ => rfl)) pe_int (nomark _)) (pss_cons (ps_set (i := 2) S.nd rfl (Or.inl rfl) (pe_op op_mod (pe_callTy (T := "int") call_int1 (by rfl) T.b_int (by decide +kernel) (pa_cons (pe_ix ix_list (pv 0) pe_int (fun _ _ => rfl)) pa_nil)) (pv 1)))
      (pss_cons (ps_asg (pe_op op_fdivW (pe_ix ix_list (pv 0) pe_int (fun _ _ => rfl)) (pv 1)) (pg_sub (pv 0) pe_int set_list))
      (pss_one (ps_ret (pv 2))))) pss_nil)
      (pss_cons (ps_set (i := 3) S.nd rfl (Or.inl rfl) (pe_op op_mod (pe_callTy (T := "int") call_int1 (by rfl) T.b_int (by decide +kernel) (pa_cons (pe_op op_add (pe_op op_add (pe_op op_mul (pe_ix ix_list (pv 0) pe_int (fun _ _ => rfl)) pe_int) (pe_op op_mul (pe_ix ix_list (pv 0) pe_int (fun _ _ => rfl)) pe_int)) pe_int) pa_nil)) pe_int))
      (pss_cons (ps_set (i := 4) S.nd rfl (Or.inl rfl) (pe_op op_mod (pe_callTy (T := "int") call_int1 (by rfl) T.b_int (by decide +kernel) (pa_cons (pe_op op_add (pe_op op_add (pe_op op_mul (pv 3) (pv 3)) (pe_op op_mul (pe_ix ix_list (pv 0) pe_int (fun _ _ => rfl)) pe_int)) (pe_op op_mul (pe_ix ix_list (pv 0) pe_int (fun _ _ => rfl)) pe_int)) pa_nil)) pe_int))
      (pss_one (ps_ret (pe_op op_mod (pe_callTy (T := "int") call_int1 (by rfl) T.b_int (by decide +kernel) (pa_cons (pe_op op_add (pe_op op_mul (pv 4) pe_int) (pv 3)) pa_nil)) (pv 1)))))))), ?_⟩
    refine st__law_draw ?_
    o_args
    refine setL (i := 2) hA (by simp) fun H1 s1 h1 => ?_
    have h1 : H1 a = some (.lst [.int x, .int y, .int (z + 1)]) := h1
    o_args
    refine brD (fun q => ?_) (fun q => ?_)
    · o_args
      refine ⟨_, _, rfl, rfl, m0, ?_⟩
      o_args
      refine x_divW m0 m1 ?_
      o_args
      refine setL (i := 0) h1 (by simp) fun H2 s2 h2 => ?_
      o_args
      exact k _ _ (Int.emod_nonneg _ m0') (Int.emod_lt_of_pos _ m0) ⟨_, _, _, h2, Int.ediv_nonneg x0 (by omega)⟩ (s1.trans s2)
    · o_args
      refine x_mulL ?_ ?_
      · have a0 := Int.emod_nonneg (y * 271 + (z + 1) * 97 + 5) (show (10007 : Int) ≠ 0 by decide)
        have a1 := Int.emod_lt_of_pos (y * 271 + (z + 1) * 97 + 5) (show (0 : Int) < 10007 by decide)
        constructor <;> omega
      o_args
      refine ⟨_, _, rfl, rfl, m0, ?_⟩
      o_args
      exact k _ _ (Int.emod_nonneg _ m0') (Int.emod_lt_of_pos _ m0) ⟨_, _, _, h1, x0⟩ s1
/-! ### what is drawn -/
def sp__law_unit : Sp := fun vs H Q _ => ∃ (a : Addr), vs = [.ref a] ∧ Bx a H ∧ ∀ n H', 1 ≤ n → n ≤ 65535 → Bx a H' → SameX a H H' → Q (.int n) H'
theorem ok__law_unit (T : Txt K mg) : FnOk P w K mg base CX0 2 T.a__law_unit T.fd__law_unit ["box"] (sp__law_unit) := by
  have S := sc__law_unit
  refine T.F__law_unit.ok S (fun vs H Q E h => ?_) (fun cdv A outer s H vs Q E hr h => ?_)
  · obtain ⟨a, rfl, _⟩ := h
    rfl
  · obtain ⟨a, rfl, B0, k⟩ := h
    refine ⟨_, (pss_cons (ps_set (i := 1) S.nd rfl (Or.inl rfl) (pe_call (ok__law_draw T) (hr.mono (by decide)) rfl T.g__law_draw T.F__law_draw.kp T.B__law_draw .nil pass0 (pa_cons (pv 0) (pa_cons pe_int pa_nil))))
      (pss_cons (ps_if (pt_cmpR op_eq (pv 1) pe_int (nomark _)) (pss_one (ps_ret (pe_op op_add pe_int (pe_call (ok__law_draw T) (hr.mono (by decide)) rfl T.g__law_draw T.F__law_draw.kp T.B__law_draw .nil pass0 (pa_cons (pv 0) (pa_cons pe_int pa_nil)))))) pss_nil)
      (pss_cons (ps_if (pt_cmpR op_eq (pv 1) pe_int (nomark _)) (pss_one (ps_ret (pe_op op_add pe_int (pe_call (ok__law_draw T) (hr.mono (by decide)) rfl T.g__law_draw T.F__law_draw.kp T.B__law_draw .nil pass0 (pa_cons (pv 0) (pa_cons pe_int pa_nil)))))) pss_nil)
      (pss_cons (ps_if (pt_cmpR op_eq (pv 1) pe_int (nomark _)) (pss_one (ps_ret (pe_op op_add pe_int (pe_call (ok__law_draw T) (hr.mono (by decide)) rfl T.g__law_draw T.F__law_draw.kp T.B__law_draw .nil pass0 (pa_cons (pv 0) (pa_cons pe_int pa_nil)))))) pss_nil)
      (pss_one (ps_ret (pe_op op_sub pe_int (pe_op op_mul pe_int (pe_call (ok__law_draw T) (hr.mono (by decide)) rfl T.g__law_draw T.F__law_draw.kp T.B__law_draw .nil pass0 (pa_cons (pv 0) (pa_cons pe_int pa_nil))))))))))), ?_⟩
    refine st__law_unit ?_
    o_args
    refine ⟨a, 4, rfl, B0, by decide, by decide, fun way H1 a1 b1 B1 s1 => ?_⟩
    o_args
    refine brD (fun q => ?_) (fun q => ?_)
    · o_args
      refine ⟨a, _, rfl, B1, by decide, by decide, fun d H2 a2 b2 B2 s2 => ?_⟩
      o_args
      exact k _ _ (by omega) (by omega) B2 (s1.trans s2)
    o_args
    refine brD (fun q => ?_) (fun q => ?_)
    · o_args
      refine ⟨a, _, rfl, B1, by decide, by decide, fun d H2 a2 b2 B2 s2 => ?_⟩
      o_args
      exact k _ _ (by omega) (by omega) B2 (s1.trans s2)
    o_args
    refine brD (fun q => ?_) (fun q => ?_)
    · o_args
      refine ⟨a, _, rfl, B1, by decide, by decide, fun d H2 a2 b2 B2 s2 => ?_⟩
      o_args
      exact k _ _ (by omega) (by omega) B2 (s1.trans s2)
    o_args
    refine ⟨a, _, rfl, B1, by decide, by decide, fun d H2 a2 b2 B2 s2 => ?_⟩
    o_args
    exact k _ _ (by omega) (by omega) B2 (s1.trans s2)
def sp__law_count : Sp := fun vs H Q _ => ∃ (a : Addr) (u b : Int), vs = [.ref a, .int u, .int b] ∧ Bx a H ∧ ∀ n H', 1 ≤ n → n ≤ 65535 → Bx a H' → SameX a H H' → Q (.int n) H'
theorem ok__law_count (T : Txt K mg) : FnOk P w K mg base CX0 2 T.a__law_count T.fd__law_count ["box", "unit", "brink"] (sp__law_count) := by
  have S := sc__law_count
  refine T.F__law_count.ok S (fun vs H Q E h => ?_) (fun cdv A outer s H vs Q E hr h => ?_)
  · obtain ⟨a, u, b, rfl, _⟩ := h
    rfl
  · obtain ⟨a, u, b, rfl, B0, k⟩ := h
    refine ⟨_, (pss_cons (ps_set (i := 3) S.nd rfl (Or.inl rfl) (pe_call (ok__law_draw T) (hr.mono (by decide)) rfl T.g__law_draw T.F__law_draw.kp T.B__law_draw .nil pass0 (pa_cons (pv 0) (pa_cons pe_int pa_nil))))
      (pss_cons (ps_if (pt_cmpR op_eq (pv 3) pe_int (nomark _)) (pss_one (ps_ret (pe_op op_add pe_int (pe_call (ok__law_draw T) (hr.mono (by decide)) rfl T.g__law_draw T.F__law_draw.kp T.B__law_draw .nil pass0 (pa_cons (pv 0) (pa_cons pe_int pa_nil)))))) pss_nil)
      (pss_cons (ps_if (pt_cmpR op_eq (pv 3) pe_int (nomark _)) (pss_one (ps_ret (pe_op op_add pe_int (pe_call (ok__law_draw T) (hr.mono (by decide)) rfl T.g__law_draw T.F__law_draw.kp T.B__law_draw .nil pass0 (pa_cons (pv 0) (pa_cons pe_int pa_nil)))))) pss_nil)
      (pss_cons (ps_if (pt_cmpR op_eq (pv 3) pe_int (nomark _)) (pss_one (ps_ret (pe_callB (id := "max") (call_max2K rfl) (by rfl) T.b_max (by decide +kernel) (pa_cons pe_int (pa_cons (pe_callB (id := "min") (call_min2K rfl) (by rfl) T.b_min (by decide +kernel) (pa_cons pe_int (pa_cons (pe_op op_add (pe_op op_sub (pv 1) pe_int) (pe_call (ok__law_draw T) (hr.mono (by decide)) rfl T.g__law_draw T.F__law_draw.kp T.B__law_draw .nil pass0 (pa_cons (pv 0) (pa_cons pe_int pa_nil)))) pa_nil))) pa_nil))))) pss_nil)
      (pss_cons (ps_if (pt_cmpR op_eq (pv 3) pe_int (nomark _)) (pss_one (ps_ret (pe_callB (id := "max") (call_max2K rfl) (by rfl) T.b_max (by decide +kernel) (pa_cons pe_int (pa_cons (pe_callB (id := "min") (call_min2K rfl) (by rfl) T.b_min (by decide +kernel) (pa_cons pe_int (pa_cons (pe_op op_add (pe_op op_sub (pv 2) pe_int) (pe_call (ok__law_draw T) (hr.mono (by decide)) rfl T.g__law_draw T.F__law_draw.kp T.B__law_draw .nil pass0 (pa_cons (pv 0) (pa_cons pe_int pa_nil)))) pa_nil))) pa_nil))))) pss_nil)
      (pss_one (ps_ret (pe_op op_sub pe_int (pe_op op_mul pe_int (pe_call (ok__law_draw T) (hr.mono (by decide)) rfl T.g__law_draw T.F__law_draw.kp T.B__law_draw .nil pass0 (pa_cons (pv 0) (pa_cons pe_int pa_nil)))))))))))), ?_⟩
    refine st__law_count ?_
    o_args
    refine ⟨a, 5, rfl, B0, by decide, by decide, fun way H1 a1 b1 B1 s1 => ?_⟩
    o_args
    refine brD (fun q => ?_) (fun q => ?_)
    · o_args
      refine ⟨a, _, rfl, B1, by decide, by decide, fun d H2 a2 b2 B2 s2 => ?_⟩
      o_args
      exact k _ _ (by omega) (by omega) B2 (s1.trans s2)
    o_args
    refine brD (fun q => ?_) (fun q => ?_)
    · o_args
      refine ⟨a, _, rfl, B1, by decide, by decide, fun d H2 a2 b2 B2 s2 => ?_⟩
      o_args
      exact k _ _ (by omega) (by omega) B2 (s1.trans s2)
    o_args
    refine brD (fun q => ?_) (fun q => ?_)
    · o_args
      refine ⟨a, _, rfl, B1, by decide, by decide, fun d H2 a2 b2 B2 s2 => ?_⟩
      o_args
      exact k _ _ (by omega) (by omega) B2 (s1.trans s2)
    o_args
    refine brD (fun q => ?_) (fun q => ?_)
    · o_args
      refine ⟨a, _, rfl, B1, by decide, by decide, fun d H2 a2 b2 B2 s2 => ?_⟩
      o_args
      exact k _ _ (by omega) (by omega) B2 (s1.trans s2)
    o_args
    refine ⟨a, _, rfl, B1, by decide, by decide, fun d H2 a2 b2 B2 s2 => ?_⟩
    o_args
    exact k _ _ (by omega) (by omega) B2 (s1.trans s2)
def sp__law_load : Sp := fun vs H Q _ => ∃ (a : Addr) (u w c : Int), vs = [.ref a, .int u, .int w, .int c] ∧ Bx a H ∧ 1 ≤ u ∧ u ≤ 65535 ∧ ∀ n H', 0 ≤ n → Bx a H' → SameX a H H' → Q (.int n) H'
theorem ok__law_load (T : Txt K mg) : FnOk P w K mg base CX0 2 T.a__law_load T.fd__law_load ["box", "unit", "window", "count"] (sp__law_load) := by
  have S := sc__law_load
  refine T.F__law_load.ok S (fun vs H Q E h => ?_) (fun cdv A outer s H vs Q E hr h => ?_)
  · obtain ⟨a, u, w, c, rfl, _⟩ := h
    rfl
  · obtain ⟨a, u, w, c, rfl, B0, u1, u2, k⟩ := h
    refine ⟨_, (pss_cons (ps_set (i := 4) S.nd rfl (Or.inl rfl) (pe_call (ok__law_draw T) (hr.mono (by decide)) rfl T.g__law_draw T.F__law_draw.kp T.B__law_draw .nil pass0 (pa_cons (pv 0) (pa_cons pe_int pa_nil))))
      (pss_cons (ps_if (pt_cmpR op_eq (pv 4) pe_int (nomark _)) (pss_one (ps_ret (pe_call (ok__law_draw T) (hr.mono (by decide)) rfl T.g__law_draw T.F__law_draw.kp T.B__law_draw .nil pass0 (pa_cons (pv 0) (pa_cons (pe_op op_pow pe_int pe_int) pa_nil))))) pss_nil)
      (pss_cons (ps_if (pt_cmpR op_eq (pv 4) pe_int (nomark _)) (pss_one (ps_ret (pe_call (ok__law_draw T) (hr.mono (by decide)) rfl T.g__law_draw T.F__law_draw.kp T.B__law_draw .nil pass0 (pa_cons (pv 0) (pa_cons (pe_op op_mul pe_int (pv 1)) pa_nil))))) pss_nil)
      (pss_cons (ps_if (pt_cmpR op_eq (pv 4) pe_int (nomark _)) (pss_one (ps_ret (pe_callB (id := "max") (call_max2K rfl) (by rfl) T.b_max (by decide +kernel) (pa_cons pe_int (pa_cons (pe_op op_add (pe_op op_sub (pe_op op_sub (pe_op op_fdiv (pe_op op_add (pv 2) pe_int) pe_int) (pv 3)) pe_int) (pe_call (ok__law_draw T) (hr.mono (by decide)) rfl T.g__law_draw T.F__law_draw.kp T.B__law_draw .nil pass0 (pa_cons (pv 0) (pa_cons pe_int pa_nil)))) pa_nil))))) pss_nil)
      (pss_cons (ps_if (pt_cmpR op_eq (pv 4) pe_int (nomark _)) (pss_one (ps_ret (pe_callB (id := "max") (call_max2K rfl) (by rfl) T.b_max (by decide +kernel) (pa_cons pe_int (pa_cons (pe_op op_sub (pv 2) (pe_call (ok__law_draw T) (hr.mono (by decide)) rfl T.g__law_draw T.F__law_draw.kp T.B__law_draw .nil pass0 (pa_cons (pv 0) (pa_cons pe_int pa_nil)))) pa_nil))))) pss_nil)
      (pss_cons (ps_if (pt_cmpR op_eq (pv 4) pe_int (nomark _)) (pss_one (ps_ret (pe_op op_add (pe_op op_sub (pe_op op_mul pe_int (pv 1)) pe_int) (pe_call (ok__law_draw T) (hr.mono (by decide)) rfl T.g__law_draw T.F__law_draw.kp T.B__law_draw .nil pass0 (pa_cons (pv 0) (pa_cons pe_int pa_nil)))))) pss_nil)
      (pss_cons (ps_if (pt_cmpR op_eq (pv 4) pe_int (nomark _)) (pss_one (ps_ret (pe_op op_add pe_int (pe_call (ok__law_draw T) (hr.mono (by decide)) rfl T.g__law_draw T.F__law_draw.kp T.B__law_draw .nil pass0 (pa_cons (pv 0) (pa_cons pe_int pa_nil)))))) pss_nil)
      (pss_cons (ps_if (pt_cmpR op_eq (pv 4) pe_int (nomark _)) (pss_one (ps_ret (pe_op op_mul (pe_op op_mul pe_int (pv 1)) (pe_call (ok__law_draw T) (hr.mono (by decide)) rfl T.g__law_draw T.F__law_draw.kp T.B__law_draw .nil pass0 (pa_cons (pv 0) (pa_cons pe_int pa_nil)))))) pss_nil)
      (pss_one (ps_ret (pe_call (ok__law_draw T) (hr.mono (by decide)) rfl T.g__law_draw T.F__law_draw.kp T.B__law_draw .nil pass0 (pa_cons (pv 0) (pa_cons pe_int pa_nil))))))))))))), ?_⟩
    refine st__law_load ?_
    o_args
    refine ⟨a, 8, rfl, B0, by decide, by decide, fun way H1 a1 b1 B1 s1 => ?_⟩
    o_args
    refine brD (fun q => ?_) (fun q => ?_)
    · o_args
      refine ⟨a, _, rfl, B1, by decide, by decide, fun d H2 a2 b2 B2 s2 => ?_⟩
      exact k _ _ (by omega) B2 (s1.trans s2)
    o_args
    refine brD (fun q => ?_) (fun q => ?_)
    · o_args
      refine ⟨a, _, rfl, B1, by omega, by omega, fun d H2 a2 b2 B2 s2 => ?_⟩
      exact k _ _ (by omega) B2 (s1.trans s2)
    o_args
    refine brD (fun q => ?_) (fun q => ?_)
    · o_args
      refine ⟨a, _, rfl, B1, by decide, by decide, fun d H2 a2 b2 B2 s2 => ?_⟩
      o_args
      exact k _ _ (by omega) B2 (s1.trans s2)
    o_args
    refine brD (fun q => ?_) (fun q => ?_)
    · o_args
      refine ⟨a, _, rfl, B1, by decide, by decide, fun d H2 a2 b2 B2 s2 => ?_⟩
      o_args
      exact k _ _ (by omega) B2 (s1.trans s2)
    o_args
    refine brD (fun q => ?_) (fun q => ?_)
    · o_args
      refine ⟨a, _, rfl, B1, by decide, by decide, fun d H2 a2 b2 B2 s2 => ?_⟩
      o_args
      exact k _ _ (by omega) B2 (s1.trans s2)
    o_args
    refine brD (fun q => ?_) (fun q => ?_)
    · o_args
      refine ⟨a, _, rfl, B1, by decide, by decide, fun d H2 a2 b2 B2 s2 => ?_⟩
      o_args
      exact k _ _ (by omega) B2 (s1.trans s2)
    o_args
    refine brD (fun q => ?_) (fun q => ?_)
    · o_args
      refine ⟨a, _, rfl, B1, by decide, by decide, fun d H2 a2 b2 B2 s2 => ?_⟩
      refine x_mulR ⟨by omega, by omega⟩ ?_
      o_args
      exact k _ _ (Int.mul_nonneg (by omega) a2) B2 (s1.trans s2)
    o_args
    refine ⟨a, _, rfl, B1, by decide, by decide, fun d H2 a2 b2 B2 s2 => ?_⟩
    o_args
    exact k _ _ (by omega) B2 (s1.trans s2)
/-! ### a later time -/
def sp__law_later : Sp := fun vs H Q _ => ∃ (a : Addr) (n m : Int), vs = [.ref a, .int n, .int m] ∧ Bx a H ∧ ∀ t H', n ≤ t → (t ≤ n + 10000000000 ∨ t ≤ m + 1) → Bx a H' → SameX a H H' → Q (.int t) H'
theorem ok__law_later (T : Txt K mg) : FnOk P w K mg base CX0 2 T.a__law_later T.fd__law_later ["box", "now", "meet"] (sp__law_later) := by
  have S := sc__law_later
  refine T.F__law_later.ok S (fun vs H Q E h => ?_) (fun cdv A outer s H vs Q E hr h => ?_)
  · obtain ⟨a, n, m, rfl, _⟩ := h
    rfl
  · obtain ⟨a, n, m, rfl, B0, k⟩ := h
    refine ⟨_, (pss_cons (ps_set (i := 3) S.nd rfl (Or.inl rfl) (pe_call (ok__law_draw T) (hr.mono (by decide)) rfl T.g__law_draw T.F__law_draw.kp T.B__law_draw .nil pass0 (pa_cons (pv 0) (pa_cons pe_int pa_nil))))
      (pss_cons (ps_if (pt_cmpR op_eq (pv 3) pe_int (nomark _)) (pss_one (ps_ret (pe_op op_add (pv 1) (pe_call (ok__law_draw T) (hr.mono (by decide)) rfl T.g__law_draw T.F__law_draw.kp T.B__law_draw .nil pass0 (pa_cons (pv 0) (pa_cons pe_int pa_nil)))))) pss_nil)
      (pss_cons (ps_if (pt_cmpR op_eq (pv 3) pe_int (nomark _)) (pss_one (ps_ret (pe_op op_add (pv 1) (pe_call (ok__law_draw T) (hr.mono (by decide)) rfl T.g__law_draw T.F__law_draw.kp T.B__law_draw .nil pass0 (pa_cons (pv 0) (pa_cons pe_int pa_nil)))))) pss_nil)
      (pss_cons (ps_if (pt_cmpR op_eq (pv 3) pe_int (nomark _)) (pss_one (ps_ret (pe_callB (id := "max") (call_max2K rfl) (by rfl) T.b_max (by decide +kernel) (pa_cons (pv 1) (pa_cons (pe_op op_add (pe_op op_sub (pv 2) pe_int) (pe_call (ok__law_draw T) (hr.mono (by decide)) rfl T.g__law_draw T.F__law_draw.kp T.B__law_draw .nil pass0 (pa_cons (pv 0) (pa_cons pe_int pa_nil)))) pa_nil))))) pss_nil)
      (pss_one (ps_ret (pe_op op_add (pv 1) (pe_call (ok__law_draw T) (hr.mono (by decide)) rfl T.g__law_draw T.F__law_draw.kp T.B__law_draw .nil pass0 (pa_cons (pv 0) (pa_cons (pe_op op_pow pe_int pe_int) pa_nil)))))))))), ?_⟩
    refine st__law_later ?_
    o_args
    refine ⟨a, 4, rfl, B0, by decide, by decide, fun way H1 a1 b1 B1 s1 => ?_⟩
    o_args
    refine brD (fun q => ?_) (fun q => ?_)
    · o_args
      refine ⟨a, _, rfl, B1, by decide, by decide, fun d H2 a2 b2 B2 s2 => ?_⟩
      o_args
      exact k _ _ (by omega) (by omega) B2 (s1.trans s2)
    o_args
    refine brD (fun q => ?_) (fun q => ?_)
    · o_args
      refine ⟨a, _, rfl, B1, by decide, by decide, fun d H2 a2 b2 B2 s2 => ?_⟩
      o_args
      exact k _ _ (by omega) (by omega) B2 (s1.trans s2)
    o_args
    refine brD (fun q => ?_) (fun q => ?_)
    · o_args
      refine ⟨a, _, rfl, B1, by decide, by decide, fun d H2 a2 b2 B2 s2 => ?_⟩
      o_args
      exact k _ _ (by omega) (by omega) B2 (s1.trans s2)
    o_args
    refine ⟨a, _, rfl, B1, by decide, by decide, fun d H2 a2 b2 B2 s2 => ?_⟩
    have b2 : d < 10000000000 := b2
    o_args
    exact k _ _ (by omega) (by omega) B2 (s1.trans s2)
/-! ### a bad count -/
/-- no count of new bytes; it can be told and compared -/
def Bad (K : PySem.W.Frag) (H : Hp) (x : V) : Prop := Out K H x 1 65535 ∧ Vl K H x
theorem Bad.same {K : PySem.W.Frag} {H H' : Hp} {x : V} (h : Bad K H x) (s : Same H H') : Bad K H' x := ⟨h.1.same s, h.2.sm s⟩
theorem Bad.odd {K : PySem.W.Frag} {H : Hp} {x : V} (h : Odd K H x) : Bad K H x := ⟨.odd h.1, h.2⟩
def sp__law_bad (K : PySem.W.Frag) : Sp := fun vs H Q _ => ∃ (a : Addr), vs = [.ref a] ∧ Bx a H ∧ ∀ v H', Bad K H' v → Bx a H' → SameX a H H' → Q v H'
theorem ok__law_bad (T : Txt K mg) : FnOk P w K mg base CX0 2 T.a__law_bad T.fd__law_bad ["box"] (sp__law_bad K) := by
  have S := sc__law_bad
  refine T.F__law_bad.ok S (fun vs H Q E h => ?_) (fun cdv A outer s H vs Q E hr h => ?_)
  · obtain ⟨a, rfl, _⟩ := h
    rfl
  · obtain ⟨a, rfl, B0, k⟩ := h
    refine ⟨_, (pss_cons (ps_set (i := 1) S.nd rfl (Or.inl rfl) (pe_call (ok__law_draw T) (hr.mono (by decide)) rfl T.g__law_draw T.F__law_draw.kp T.B__law_draw .nil pass0 (pa_cons (pv 0) (pa_cons pe_int pa_nil))))
      (pss_cons (ps_if (pt_cmpR op_eq (pv 1) pe_int (nomark _)) (pss_one (ps_ret pe_int)) pss_nil)
      (pss_cons (ps_if (pt_cmpR op_eq (pv 1) pe_int (nomark _)) (pss_one (ps_ret (pe_op op_sub (pe_un un_neg pe_int) (pe_call (ok__law_draw T) (hr.mono (by decide)) rfl T.g__law_draw T.F__law_draw.kp T.B__law_draw .nil pass0 (pa_cons (pv 0) (pa_cons (pe_op op_pow pe_int pe_int) pa_nil)))))) pss_nil)
      (pss_cons (ps_if (pt_cmpR op_eq (pv 1) pe_int (nomark _)) (pss_one (ps_ret (pe_op op_add pe_int (pe_call (ok__law_draw T) (hr.mono (by decide)) rfl T.g__law_draw T.F__law_draw.kp T.B__law_draw .nil pass0 (pa_cons (pv 0) (pa_cons (pe_op op_pow pe_int pe_int) pa_nil)))))) pss_nil)
      (pss_one (ps_ret (pe_ix ix_list (pe_lst (pa_cons pe_bl (pa_cons pe_non (pa_cons pe_str (pa_cons (pe_lst (pa_cons pe_int pa_nil)) (pa_cons (pe_tup (pa_cons pe_int pa_nil)) pa_nil)))))) (pe_op op_sub (pv 1) pe_int) (fun _ _ => rfl)))))))), ?_⟩
    refine st__law_bad ?_
    o_args
    refine ⟨a, 8, rfl, B0, by decide, by decide, fun way H1 a1 b1 B1 s1 => ?_⟩
    o_args
    refine brD (fun q => ?_) (fun q => ?_)
    · o_args
      exact k _ _ ⟨.int (by omega), .int _⟩ B1 s1
    o_args
    refine brD (fun q => ?_) (fun q => ?_)
    · o_args
      refine ⟨a, _, rfl, B1, by decide, by decide, fun d H2 a2 b2 B2 s2 => ?_⟩
      o_args
      exact k _ _ ⟨.int (by omega), .int _⟩ B2 (s1.trans s2)
    o_args
    refine brD (fun q => ?_) (fun q => ?_)
    · o_args
      refine ⟨a, _, rfl, B1, by decide, by decide, fun d H2 a2 b2 B2 s2 => ?_⟩
      o_args
      exact k _ _ ⟨.int (by omega), .int _⟩ B2 (s1.trans s2)
    o_args
    refine newList (by simp) fun l H2 hl s2 h2 => ?_
    o_args
    refine newTup (by simp) fun t H3 ht s3 h3 => ?_
    o_args
    refine newList (by simp) fun m H4 hm s4 h4 => ?_
    o_args
    have S4 : SameX a H H4 := s1.trans (SameX.of ((s2.trans s3).trans s4))
    have B4 : Bx a H4 := B1.same ((s2.trans s3).trans s4)
    obtain ⟨j, hj, jl⟩ : ∃ j : Nat, way - 3 = j ∧ j < 5 := ⟨(way - 3).toNat, by omega, by omega⟩
    rw [hj]
    have hx : ∃ v, [V.bl true, .non, .str "5", .ref l, .ref t][j]? = some v ∧ Bad K H4 v := by
      match j, jl with
      | 0, _ => exact ⟨_, rfl, .odd (.mk' (.base (.bl true)) (i := true) (b := true) (by decide +kernel) (by decide +kernel) rfl (.bl true) (by decide +kernel))⟩
      | 1, _ => exact ⟨_, rfl, .odd (.mk' (.base .non) (i := false) (b := false) (by decide +kernel) (by decide +kernel) rfl .non (by decide +kernel))⟩
      | 2, _ => exact ⟨_, rfl, .odd (.mk' (.base (.str _)) (i := false) (b := false) (by decide +kernel) (by decide +kernel) rfl (.str _) (by decide +kernel))⟩
      | 3, _ => exact ⟨_, rfl, .odd (Odd.lst (ns := [5]) (s4 _ _ (s3 _ _ h2)))⟩
      | 4, _ => exact ⟨_, rfl, .odd (Odd.tup (ns := [5]) (s4 _ _ h3))⟩
    obtain ⟨v, e, hb⟩ := hx
    refine ixL h4 e ?_
    exact k _ _ hb B4 S4
/-! ### all but a list's stands -/
def Off (l : List Addr) (H H' : Hp) : Prop := ∀ b o, b ∉ l → H b = some o → H' b = some o
theorem Off.refl {l : List Addr} {H : Hp} : Off l H H := fun _ _ _ h => h
theorem Off.trans {l : List Addr} {H H1 H2 : Hp} (x : Off l H H1) (y : Off l H1 H2) : Off l H H2 := fun b o n h => y b o n (x b o n h)
theorem Off.of {l : List Addr} {H H' : Hp} (s : Same H H') : Off l H H' := fun b o _ h => s b o h
theorem Off.ofX {l : List Addr} {a : Addr} {H H' : Hp} (h : a ∈ l) (s : SameX a H H') : Off l H H' := fun b o n e => s b o (fun q => n (q ▸ h)) e
theorem Off.more {l m : List Addr} {H H' : Hp} (x : Off l H H') (h : ∀ b ∈ l, b ∈ m) : Off m H H' := fun b o n e => x b o (fun q => n (h b q)) e
/-! ### what a climb adds up to -/
def tri (n : Int) : Int := n * (n - 1) / 2
theorem tri_succ (n : Int) : tri (n + 1) = tri n + n := by
  unfold tri
  have e : (n + 1) * (n + 1 - 1) = n * (n - 1) + n * 2 := by
    rw [show n + 1 - 1 = n by omega, Int.add_mul, Int.mul_sub, Int.mul_one, Int.one_mul]
    omega
  rw [e, Int.add_mul_ediv_right _ _ (by decide)]
theorem tri_zero : tri 0 = 0 := by decide
theorem tri_one : tri 1 = 0 := by decide
structure Rise (u c w c' w' : Int) : Prop where
  lo : w ≤ w'
  hi : w' ≤ 4194304
  c0 : 0 ≤ c'
  c1 : c' < w'
  low : w' < 4194304 → ∃ n, w' = w + n * u ∧ c - c' = n * w + u * tri n
  top : w' = 4194304 → ∃ m, 0 ≤ m ∧ c - c' - (4194304 - w + u - 1) / u * w - u * tri ((4194304 - w + u - 1) / u) = m * 4194304
theorem add_up {u c w c' n t : Int} (h : c - w - c' = n * (w + u) + u * t) : c - c' = (n + 1) * w + u * (t + n) := by
  rw [Int.mul_add] at h
  rw [Int.add_mul, Int.mul_add, Int.one_mul, Int.mul_comm u n]
  omega
theorem up_add {u c w c' n t z : Int} (h : c - w - c' - n * (w + u) - u * t = z) : c - c' - (n + 1) * w - u * (t + n) = z := by
  rw [Int.mul_add] at h
  rw [Int.add_mul, Int.mul_add, Int.one_mul, Int.mul_comm u n]
  omega
theorem Climbs.rise {u c w c' w' : Int} (h : Climbs (fun w => min (w + u) 4194304) c w c' w') (u1 : 1 ≤ u) (w1 : 1 ≤ w) (w2 : w ≤ 4194304) (c0 : 0 ≤ c) : Rise u c w c' w' := by
  induction h with
  | @done c w h =>
    refine ⟨Int.le_refl _, w2, c0, h, fun _ => ⟨0, by omega, by rw [tri_zero]; omega⟩, fun e => ⟨0, by omega, ?_⟩⟩
    have : (4194304 - w + u - 1) / u = 0 := Int.ediv_eq_zero_of_lt (by omega) (by omega)
    rw [this, tri_zero]
    omega
  | @step c w c' w' h r ih =>
    have R : Rise u (c - w) (min (w + u) 4194304) c' w' := ih (by omega) (by omega) (by omega)
    by_cases q : w + u ≤ 4194304
    · rw [show min (w + u) 4194304 = w + u by omega] at R
      refine ⟨by have := R.lo; omega, R.hi, R.c0, R.c1, fun l => ?_, fun e => ?_⟩
      · obtain ⟨n, e1, e2⟩ := R.low l
        refine ⟨n + 1, ?_, ?_⟩
        · rw [Int.add_mul, Int.one_mul]; omega
        · rw [tri_succ]; exact add_up e2
      · obtain ⟨m, m0, e2⟩ := R.top e
        refine ⟨m, m0, ?_⟩
        have : (4194304 - w + u - 1) / u = (4194304 - (w + u) + u - 1) / u + 1 := by
          rw [show 4194304 - w + u - 1 = (4194304 - (w + u) + u - 1) + 1 * u by omega, Int.add_mul_ediv_right _ _ (by omega)]
        rw [this, tri_succ]
        exact up_add e2
    · rw [show min (w + u) 4194304 = 4194304 by omega] at R
      have e4 : (4194304 - 4194304 + u - 1) / u = 0 := Int.ediv_eq_zero_of_lt (by omega) (by omega)
      refine ⟨by have := R.lo; omega, R.hi, R.c0, R.c1, fun l => by have := R.lo; omega, fun e => ?_⟩
      obtain ⟨m, m0, e2⟩ := R.top e
      rw [e4, tri_zero] at e2
      by_cases g : w = 4194304
      · subst g
        refine ⟨m + 1, by omega, ?_⟩
        rw [e4, tri_zero]
        omega
      · have e5 : (4194304 - w + u - 1) / u = 1 := by
          rw [show 4194304 - w + u - 1 = (4194304 - w - 1) + 1 * u by omega, Int.add_mul_ediv_right _ _ (by omega), Int.ediv_eq_zero_of_lt (by omega) (by omega)]
          rfl
        refine ⟨m, m0, ?_⟩
        rw [e5, tri_one]
        omega
/-! ### whole numbers, truths -/
def sp__law_whole : Sp := fun vs H Q _ => ∃ (i j : Int), vs = [.int i, .int j] ∧ Q (.bl (decide (i = j))) H
theorem ok__law_whole (T : Txt K mg) : FnOk P w K mg base CX0 1 T.a__law_whole T.fd__law_whole ["value", "wanted"] (sp__law_whole) := by
  have S := sc__law_whole
  refine T.F__law_whole.ok S (fun vs H Q E h => ?_) (fun cdv A outer s H vs Q E hr h => ?_)
  · obtain ⟨i, j, rfl, _⟩ := h
    rfl
  · obtain ⟨i, j, rfl, k⟩ := h
    refine ⟨_, (pss_one (ps_ret (pe_and (pe_callB (id := "isinstance") call_isi (by rfl) T.b_isinstance (by decide +kernel) (pa_cons (pv 0) (pa_cons (pe_bltn (v := .ty "int") (u := .type "int") (by rfl) T.b_int (by decide +kernel) rfl) pa_nil))) (pe_and (pe_not (pe_callB (id := "isinstance") call_isi (by rfl) T.b_isinstance (by decide +kernel) (pa_cons (pv 0) (pa_cons (pe_bltn (v := .ty "bool") (u := .type "bool") (by rfl) T.b_bool (by decide +kernel) rfl) pa_nil)))) (pe_one (pe_cmpR op_eq (pv 0) (pv 1) (nomark _))))))), ?_⟩
    refine st__law_whole ?_
    o_args
    refine ⟨_, _, _, _, true, rfl, .ty _, .base (.int i), kit_ty (by decide +kernel), ?_⟩
    o_args
    refine ⟨_, _, _, _, false, rfl, .ty _, .base (.int i), kit_ty (by decide +kernel), ?_⟩
    o_args
    exact k
def sp__law_truth : Sp := fun vs H Q _ => ∃ (i j : Bool), vs = [.bl i, .bl j] ∧ Q (.bl (decide (i = j))) H
theorem ok__law_truth (T : Txt K mg) : FnOk P w K mg base CX0 1 T.a__law_truth T.fd__law_truth ["value", "wanted"] (sp__law_truth) := by
  have S := sc__law_truth
  refine T.F__law_truth.ok S (fun vs H Q E h => ?_) (fun cdv A outer s H vs Q E hr h => ?_)
  · obtain ⟨i, j, rfl, _⟩ := h
    rfl
  · obtain ⟨i, j, rfl, k⟩ := h
    refine ⟨_, (pss_one (ps_ret (pe_and (pe_callB (id := "isinstance") call_isi (by rfl) T.b_isinstance (by decide +kernel) (pa_cons (pv 0) (pa_cons (pe_bltn (v := .ty "bool") (u := .type "bool") (by rfl) T.b_bool (by decide +kernel) rfl) pa_nil))) (pe_one (pe_cmpR (op_eqD hr.units) (pv 0) (pv 1) (nomark _)))))), ?_⟩
    refine st__law_truth ?_
    o_args
    refine ⟨_, _, _, _, true, rfl, .ty _, .base (.bl i), kit_ty (by decide +kernel), ?_⟩
    o_args
    refine ⟨.bool i, .bool j, .bl i, .bl j, by cases i <;> decide +kernel, by cases j <;> decide +kernel, ?_⟩
    rw [show PyData.eqv (.bool i) (.bool j) = decide (i = j) by cases i <;> cases j <;> decide +kernel]
    exact k
/-! ### the law's looks -/
def Cs.row (x : Cs) : List V := [.int x.u, .int x.w, .int x.t, .int x.c, .bl x.st, .int x.p, .int x.s, bV x.b]
structure Cs.Good (x : Cs) (N : Int) : Prop where
  u1 : 1 ≤ x.u
  u2 : x.u ≤ 65535
  w1 : 1 ≤ x.w
  w2 : x.w ≤ 4194304
  c0 : 0 ≤ x.c
  s0 : 0 ≤ x.s
  s1 : x.s ≤ 536870912
  bb : ∀ b, x.b = some b → 0 ≤ b ∧ b ≤ N
theorem Cs.Good.mono {x : Cs} {N M : Int} (G : x.Good N) (h : N ≤ M) : x.Good M := ⟨G.u1, G.u2, G.w1, G.w2, G.c0, G.s0, G.s1, fun b e => by have := G.bb b e; omega⟩
/-- the twin: its times are later by k -/
def Cs.sh (x : Cs) (k : Int) : Cs := { x with b := x.b.map (· + k) }
theorem Cs.sh_zero (x : Cs) : x.sh 0 = x := by
  unfold Cs.sh
  cases hb : x.b with
  | none => cases x; simp_all
  | some b => cases x; simp_all
theorem Cs.Good.ready {x : Cs} {N m k : Int} (G : x.Good N) (h : N ≤ m) (hm : m ≤ 10 ^ 14) : (x.sh k).Ready (.int (m + k)) := ⟨G.u1, G.w1, G.u2, fun b e => by
  refine ⟨m + k, rfl, ?_⟩
  have e : x.b.map (· + k) = some b := e
  cases hb : x.b with
  | none => rw [hb] at e; cases e
  | some c =>
    rw [hb] at e
    cases e
    have := G.bb c hb
    have h1 := G.s0
    have h2 := G.s1
    show -(2 ^ 62) < m + k - (c + k) - x.s ∧ m + k - (c + k) - x.s < 2 ^ 62
    omega⟩
theorem Cs.Good.ready0 {x : Cs} {N m : Int} (G : x.Good N) (h : N ≤ m) (hm : m ≤ 10 ^ 14) : x.Ready (.int m) := by
  have := G.ready (k := 0) h hm
  rw [Cs.sh_zero, Int.add_zero] at this
  exact this
theorem Grown.sh {x y : Cs} {n m k : Int} (g : Grown x n (.int m) y) : Grown (x.sh k) n (.int (m + k)) (y.sh k) := by
  cases g with
  | climb h r => exact .climb (by show x.b.map _ = none; rw [h]; rfl) r
  | @curve b m' h e =>
    cases e
    have := Grown.curve (x := x.sh k) (n := n) (now := .int (m + k)) (b := b + k) (m := m + k) (by show x.b.map _ = some (b + k); rw [h]; rfl) rfl
    have e : (x.sh k).goal (b + k) (m + k) = x.goal b m := by
      unfold Cs.goal
      rw [show m + k - (b + k) - (x.sh k).s = m - b - x.s by show m + k - (b + k) - x.s = m - b - x.s; omega]
      rfl
    rw [e] at this
    exact this
theorem Acked.sh {x y : Cs} {n f m k : Int} (a : Acked x n f (.int m) y) : Acked (x.sh k) n f (.int (m + k)) (y.sh k) := by
  cases a with
  | idle h => exact .idle h
  | start h g => exact .start h g
  | grow h g r => exact .grow (y := y.sh k) h g (Grown.sh r)
theorem Climbs.good {x : Cs} {n c' w' : Int} {N : Int} (r : Climbs x.up (x.c + n) x.w c' w') (G : x.Good N) (n0 : 0 ≤ n) (st : Bool) : ({ x with c := c', w := w', st := st } : Cs).Good N := by
  have R := Climbs.rise (u := x.u) r G.u1 G.w1 G.w2 (by have := G.c0; omega)
  exact ⟨G.u1, G.u2, by have := R.lo; have := G.w1; show 1 ≤ w'; omega, R.hi, R.c0, G.s0, G.s1, G.bb⟩
theorem Grown.good {x y : Cs} {n : Int} {now : V} {N : Int} (g : Grown x n now y) (G : x.Good N) (n0 : 0 ≤ n) : y.Good N := by
  cases g with
  | climb h r => exact r.good G n0 x.st
  | curve h e =>
    refine ⟨G.u1, G.u2, ?_, ?_, G.c0, G.s0, G.s1, G.bb⟩
    · have := G.w1
      show 1 ≤ min (min (x.w + n) (max x.w _)) 4194304
      omega
    · show min (min (x.w + n) (max x.w _)) 4194304 ≤ 4194304
      omega
theorem Cs.Good.st {x : Cs} {N : Int} (G : x.Good N) (b : Bool) : ({ x with st := b } : Cs).Good N := ⟨G.u1, G.u2, G.w1, G.w2, G.c0, G.s0, G.s1, G.bb⟩
theorem Acked.good {x y : Cs} {n f : Int} {now : V} {N : Int} (a : Acked x n f now y) (G : x.Good N) (n0 : 0 ≤ n) : y.Good N := by
  cases a with
  | idle h => exact G.st false
  | start h g =>
    refine ⟨G.u1, G.u2, ?_, ?_, G.c0, G.s0, G.s1, G.bb⟩
    · have := G.w1
      have := G.u1
      show 1 ≤ min (x.w + min n x.u) 4194304
      omega
    · show min (x.w + min n x.u) 4194304 ≤ 4194304
      omega
  | grow h g r => exact r.good (G.st false) n0
def sp__law_base (C : Addr) : Sp := fun vs H Q _ => ∃ (e r : Addr) (x : Cs) (b' : Option Int), vs = [.ref e, .ref r] ∧ CtAt C H e { x with b := b' } ∧ H r = some (.lst x.row) ∧ Q (.bl true) H
theorem ok__law_base (T : Txt K mg) : FnOk P w K mg base CX0 3 T.a__law_base T.fd__law_base ["control", "state"] (sp__law_base T.c_Curve) := by
  have S := sc__law_base
  refine T.F__law_base.ok S (fun vs H Q E h => ?_) (fun cdv A outer s H vs Q E hr h => ?_)
  · obtain ⟨e, r, x, b', rfl, _⟩ := h
    rfl
  · obtain ⟨e, r, x, b', rfl, hE, hr', k⟩ := h
    obtain ⟨dx, he⟩ := id hE
    unfold Cs.row at hr'
    refine ⟨_, (pss_cons (ps_if (PW.pt (pw_or (pt_not (pt_val (pe_call (ok__law_whole T) (hr.mono (by decide)) rfl T.g__law_whole T.F__law_whole.kp T.B__law_whole .nil pass0 (pa_cons (pe_fld (pv 0) rfl) (pa_cons (pe_ix ix_list (pv 1) pe_int (fun _ _ => rfl)) pa_nil))))) (pw_or1 (pt_not (pt_val (pe_call (ok__law_whole T) (hr.mono (by decide)) rfl T.g__law_whole T.F__law_whole.kp T.B__law_whole .nil pass0 (pa_cons (pe_fld (pv 0) rfl) (pa_cons (pe_ix ix_list (pv 1) pe_int (fun _ _ => rfl)) pa_nil)))))))) (pss_one (ps_ret pe_bl)) pss_nil)
      (pss_cons (ps_if (PW.pt (pw_or (pt_not (pt_val (pe_call (ok__law_whole T) (hr.mono (by decide)) rfl T.g__law_whole T.F__law_whole.kp T.B__law_whole .nil pass0 (pa_cons (pe_fld (pv 0) rfl) (pa_cons (pe_ix ix_list (pv 1) pe_int (fun _ _ => rfl)) pa_nil))))) (pw_or1 (pt_not (pt_val (pe_call (ok__law_whole T) (hr.mono (by decide)) rfl T.g__law_whole T.F__law_whole.kp T.B__law_whole .nil pass0 (pa_cons (pe_fld (pv 0) rfl) (pa_cons (pe_ix ix_list (pv 1) pe_int (fun _ _ => rfl)) pa_nil)))))))) (pss_one (ps_ret pe_bl)) pss_nil)
      (pss_one (ps_ret (pe_and (pe_call (ok__law_truth T) (hr.mono (by decide)) rfl T.g__law_truth T.F__law_truth.kp T.B__law_truth .nil pass0 (pa_cons (pe_fld (pv 0) rfl) (pa_cons (pe_ix ix_list (pv 1) pe_int (fun _ _ => rfl)) pa_nil))) (pe_one (pe_call (ok__law_truth T) (hr.mono (by decide)) rfl T.g__law_truth T.F__law_truth.kp T.B__law_truth .nil pass0 (pa_cons (pe_prop (pv 0) T.cl_Curve T.PR_Curve_starting (ok_Control_starting T) (hr.mono (by decide)) T.B_Control_starting .nil pass0 rfl) (pa_cons (pe_cmpR op_lt (pe_ix ix_list (pv 1) pe_int (fun _ _ => rfl)) (pe_ix ix_list (pv 1) pe_int (fun _ _ => rfl)) (nomark _)) pa_nil))))))))), ?_⟩
    refine st__law_base ?_
    o_args
    refine fget he T.cl_Curve T.n_Curve_unit rfl ?_
    o_args
    refine ⟨_, _, rfl, ?_⟩
    rw [decide_eq_true rfl]
    o_args
    refine fget he T.cl_Curve T.n_Curve_window rfl ?_
    o_args
    refine ⟨_, _, rfl, ?_⟩
    rw [decide_eq_true rfl]
    o_args
    refine fget he T.cl_Curve T.n_Curve_threshold rfl ?_
    o_args
    refine ⟨_, _, rfl, ?_⟩
    rw [decide_eq_true rfl]
    o_args
    refine fget he T.cl_Curve T.n_Curve_credit rfl ?_
    o_args
    refine ⟨_, _, rfl, ?_⟩
    rw [decide_eq_true rfl]
    o_args
    refine fget he T.cl_Curve T.n_Curve_stalled rfl ?_
    o_args
    refine ⟨_, _, rfl, ?_⟩
    rw [decide_eq_true rfl]
    o_args
    refine ⟨e, dx, _, rfl, he, e, { x with b := b' }, rfl, hE, ?_⟩
    o_args
    refine ⟨_, _, rfl, ?_⟩
    rw [decide_eq_true rfl]
    exact k
def sp__law_grown : Sp := fun vs H Q _ => ∃ (r : Addr) (x : Cs) (n w' c' : Int), vs = [.ref r, .int n, .int w', .int c'] ∧ H r = some (.lst x.row) ∧ 1 ≤ x.u ∧ x.u ≤ 65535 ∧ 1 ≤ x.w ∧ x.w ≤ 4194304 ∧ 0 ≤ x.c ∧ 0 ≤ n ∧ Climbs x.up (x.c + n) x.w c' w' ∧ Q (.bl true) H
theorem ok__law_grown (T : Txt K mg) : FnOk P w K mg base CX0 2 T.a__law_grown T.fd__law_grown ["state", "count", "window", "credit"] (sp__law_grown) := by
  have S := sc__law_grown
  refine T.F__law_grown.ok S (fun vs H Q E h => ?_) (fun cdv A outer s H vs Q E hr h => ?_)
  · obtain ⟨r, x, n, w', c', rfl, _⟩ := h
    rfl
  · obtain ⟨r, x, n, w', c', rfl, hr', u1, u2, w1, w2, c0, n0, cl, k⟩ := h
    have R := Climbs.rise (u := x.u) cl u1 w1 w2 (by omega)
    obtain ⟨r1, r2, r3, r4, r5, r6⟩ := R
    unfold Cs.row at hr'
    refine ⟨_, (pss_cons (ps_if (PW.pt (pw_or (pt_not (pt_val (pe_call (ok__law_whole T) (hr.mono (by decide)) rfl T.g__law_whole T.F__law_whole.kp T.B__law_whole .nil pass0 (pa_cons (pv 2) (pa_cons (pv 2) pa_nil))))) (pw_or1 (pt_not (pt_val (pe_call (ok__law_whole T) (hr.mono (by decide)) rfl T.g__law_whole T.F__law_whole.kp T.B__law_whole .nil pass0 (pa_cons (pv 3) (pa_cons (pv 3) pa_nil)))))))) (pss_one (ps_ret pe_bl)) pss_nil)
      (pss_cons (ps_if (PW.pt (pw_or (pt_cmpR op_lt (pv 2) (pe_ix ix_list (pv 0) pe_int (fun _ _ => rfl)) (nomark _)) (pw_or (pt_cmpR op_gt (pv 2) pe_int (nomark _)) (pw_or (pt_cmpR op_lt (pv 3) pe_int (nomark _)) (pw_or1 (pt_cmpR op_ge (pv 3) (pv 2) (nomark _))))))) (pss_one (ps_ret pe_bl)) pss_nil)
      (pss_cons (ps_set (i := 4) S.nd rfl (Or.inl rfl) (pe_op op_sub (pe_op op_add (pe_ix ix_list (pv 0) pe_int (fun _ _ => rfl)) (pv 1)) (pv 3)))
      (pss_cons (ps_if (pt_cmpR op_lt (pv 2) pe_int (nomark _)) (pss_cons (ps_set (i := 5) S.nd rfl (Or.inl rfl) (pe_op op_fdiv (pe_op op_sub (pv 2) (pe_ix ix_list (pv 0) pe_int (fun _ _ => rfl))) (pe_ix ix_list (pv 0) pe_int (fun _ _ => rfl))))
      (pss_cons (ps_if (pt_cmpR op_ne (pe_op op_add (pe_ix ix_list (pv 0) pe_int (fun _ _ => rfl)) (pe_op op_mul (pv 5) (pe_ix ix_list (pv 0) pe_int (fun _ _ => rfl)))) (pv 2) (nomark _)) (pss_one (ps_ret pe_bl)) pss_nil)
      (pss_one (ps_ret (pe_cmpR op_eq (pv 4) (pe_op op_add (pe_op op_mul (pv 5) (pe_ix ix_list (pv 0) pe_int (fun _ _ => rfl))) (pe_op op_mul (pe_ix ix_list (pv 0) pe_int (fun _ _ => rfl)) (pe_op op_fdiv (pe_op op_mul (pv 5) (pe_op op_sub (pv 5) pe_int)) pe_int))) (nomark _)))))) pss_nil)
      (pss_cons (ps_set (i := 5) S.nd rfl (Or.inl rfl) (pe_op op_fdiv (pe_op op_sub (pe_op op_add (pe_op op_sub pe_int (pe_ix ix_list (pv 0) pe_int (fun _ _ => rfl))) (pe_ix ix_list (pv 0) pe_int (fun _ _ => rfl))) pe_int) (pe_ix ix_list (pv 0) pe_int (fun _ _ => rfl))))
      (pss_cons (ps_set (i := 6) S.nd rfl (Or.inl rfl) (pe_op op_sub (pe_op op_sub (pv 4) (pe_op op_mul (pv 5) (pe_ix ix_list (pv 0) pe_int (fun _ _ => rfl)))) (pe_op op_mul (pe_ix ix_list (pv 0) pe_int (fun _ _ => rfl)) (pe_op op_fdiv (pe_op op_mul (pv 5) (pe_op op_sub (pv 5) pe_int)) pe_int))))
      (pss_one (ps_ret (pe_and (pe_cmpR op_ge (pv 6) pe_int (nomark _)) (pe_one (pe_cmpR op_eq (pe_op op_mod (pe_callTy (T := "int") call_int1 (by rfl) T.b_int (by decide +kernel) (pa_cons (pv 6) pa_nil)) pe_int) pe_int (nomark _)))))))))))), ?_⟩
    refine st__law_grown ?_
    o_args
    refine ⟨_, _, rfl, ?_⟩
    rw [decide_eq_true rfl]
    o_args
    refine ⟨_, _, rfl, ?_⟩
    rw [decide_eq_true rfl]
    o_args
    refine brDF (by omega) ?_
    o_args
    refine brDF (by omega) ?_
    o_args
    refine brDF (by omega) ?_
    o_args
    refine brDF (by omega) ?_
    o_args
    refine brD (fun q => ?_) (fun q => ?_)
    · obtain ⟨m, e1, e2⟩ := r5 q
      have e3 : (w' - x.w) / x.u = m := by
        rw [show w' - x.w = m * x.u by omega]
        exact Int.mul_ediv_cancel _ (by omega)
      have m0 : 0 ≤ m := by rw [← e3]; exact Int.ediv_nonneg (by omega) (by omega)
      have mG : m ≤ 4194304 := by
        have := Int.ediv_le_self (a := w' - x.w) x.u (by omega)
        omega
      o_args
      refine x_div ⟨by omega, by omega⟩ ?_
      rw [e3]
      o_args
      refine x_mulR ⟨by omega, by omega⟩ ?_
      o_args
      refine brDT e1.symm ?_
      o_args
      refine x_mulR ⟨by omega, by omega⟩ ?_
      o_args
      refine x_mulL ⟨by omega, by omega⟩ ?_
      o_args
      refine x_mulL ⟨by omega, by omega⟩ ?_
      o_args
      unfold tri at e2
      rw [decide_eq_true e2]
      exact k
    · obtain ⟨m, m0, e2⟩ := r6 (by omega)
      have z0 : 0 ≤ (4194304 - x.w + x.u - 1) / x.u := Int.ediv_nonneg (by omega) (by omega)
      have zG : (4194304 - x.w + x.u - 1) / x.u ≤ 8388608 := by
        have := Int.ediv_le_self (a := 4194304 - x.w + x.u - 1) x.u (by omega)
        omega
      unfold tri at e2
      o_args
      refine x_div ⟨by omega, by omega⟩ ?_
      generalize (4194304 - x.w + x.u - 1) / x.u = z at z0 zG e2
      o_args
      refine x_mulR ⟨by omega, by omega⟩ ?_
      o_args
      refine x_mulL ⟨by omega, by omega⟩ ?_
      o_args
      refine x_mulL ⟨by omega, by omega⟩ ?_
      o_args
      rw [e2]
      refine brDT (by omega) ?_
      o_args
      rw [decide_eq_true (Int.mul_emod_left m 4194304)]
      exact k
def sp__law_follow (C : Addr) : Sp := fun vs H Q _ => ∃ (e r : Addr) (x y : Cs) (n : Int), vs = [.ref e, .ref r, .int n] ∧ H r = some (.lst x.row) ∧ 1 ≤ x.u ∧ x.u ≤ 65535 ∧ 1 ≤ x.w ∧ x.w ≤ 4194304 ∧ 0 ≤ x.c ∧ 0 ≤ n ∧ y = { x with c := y.c, w := y.w } ∧ Climbs x.up (x.c + n) x.w y.c y.w ∧ (∃ b', CtAt C H e { y with b := b' }) ∧ ∀ H', SameX r H H' → H' r = some (.lst y.row) → Q (.bl true) H'
theorem ok__law_follow (T : Txt K mg) : FnOk P w K mg base CX0 3 T.a__law_follow T.fd__law_follow ["control", "state", "count"] (sp__law_follow T.c_Curve) := by
  have S := sc__law_follow
  refine T.F__law_follow.ok S (fun vs H Q E h => ?_) (fun cdv A outer s H vs Q E hr h => ?_)
  · obtain ⟨e, r, x, y, n, rfl, _⟩ := h
    rfl
  · obtain ⟨e, r, x, y, n, rfl, hr', u1, u2, w1, w2, c0, n0, ey, cl, ⟨b', dx, he⟩, k⟩ := h
    refine ⟨_, (pss_cons (ps_set (i := 3) S.nd rfl (Or.inl rfl) (pe_fld (pv 0) rfl))
      (pss_cons (ps_set (i := 4) S.nd rfl (Or.inl rfl) (pe_fld (pv 0) rfl))
      (pss_cons (ps_if (pt_not (pt_val (pe_call (ok__law_grown T) (hr.mono (by decide)) rfl T.g__law_grown T.F__law_grown.kp T.B__law_grown .nil pass0 (pa_cons (pv 1) (pa_cons (pv 2) (pa_cons (pv 3) (pa_cons (pv 4) pa_nil))))))) (pss_one (ps_ret pe_bl)) pss_nil)
      (pss_cons (ps_asg (pv 3) (pg_sub (pv 1) pe_int set_list))
      (pss_cons (ps_asg (pv 4) (pg_sub (pv 1) pe_int set_list))
      (pss_one (ps_ret pe_bl))))))), ?_⟩
    refine st__law_follow ?_
    o_args
    refine fget he T.cl_Curve T.n_Curve_window rfl ?_
    o_args
    refine fget he T.cl_Curve T.n_Curve_credit rfl ?_
    o_args
    refine ⟨r, x, n, y.w, y.c, rfl, hr', u1, u2, w1, w2, c0, n0, cl, ?_⟩
    unfold Cs.row at hr'
    o_args
    refine setL (i := 1) hr' (by simp) fun H1 s1 h1 => ?_
    o_args
    refine setL (i := 3) h1 (by simp) fun H2 s2 h2 => ?_
    o_args
    exact k H2 (s1.trans s2) (by rw [h2, ey]; rfl)
def sp__law_holds (C : Addr) : Sp := fun vs H Q _ => ∃ (e r : Addr) (x : Cs) (k : Int), vs = [.ref e, .ref r, .int k] ∧ CtAt C H e (x.sh k) ∧ H r = some (.lst x.row) ∧ Q (.bl true) H
theorem ok__law_holds (T : Txt K mg) : FnOk P w K mg base CX0 4 T.a__law_holds T.fd__law_holds ["control", "state", "shift"] (sp__law_holds T.c_Curve) := by
  have S := sc__law_holds
  refine T.F__law_holds.ok S (fun vs H Q E h => ?_) (fun cdv A outer s H vs Q E hr h => ?_)
  · obtain ⟨e, r, x, k, rfl, _⟩ := h
    rfl
  · obtain ⟨e, r, x, k, rfl, hE, hr0, kk⟩ := h
    obtain ⟨dx, he⟩ := id hE
    have hr' := hr0
    unfold Cs.row at hr'
    refine ⟨_, (pss_cons (ps_if (pt_not (pt_val (pe_call (ok__law_base T) (hr.mono (by decide)) rfl T.g__law_base T.F__law_base.kp T.B__law_base .nil pass0 (pa_cons (pv 0) (pa_cons (pv 1) pa_nil))))) (pss_one (ps_ret pe_bl)) pss_nil)
      (pss_cons (ps_if (PW.pt (pw_or (pt_not (pt_val (pe_call (ok__law_whole T) (hr.mono (by decide)) rfl T.g__law_whole T.F__law_whole.kp T.B__law_whole .nil pass0 (pa_cons (pe_fld (pv 0) rfl) (pa_cons (pe_ix ix_list (pv 1) pe_int (fun _ _ => rfl)) pa_nil))))) (pw_or1 (pt_not (pt_val (pe_call (ok__law_whole T) (hr.mono (by decide)) rfl T.g__law_whole T.F__law_whole.kp T.B__law_whole .nil pass0 (pa_cons (pe_fld (pv 0) rfl) (pa_cons (pe_ix ix_list (pv 1) pe_int (fun _ _ => rfl)) pa_nil)))))))) (pss_one (ps_ret pe_bl)) pss_nil)
      (pss_cons (ps_if (pt_cmpR op_isN (pe_ix ix_list (pv 1) pe_int (fun _ _ => rfl)) pe_non (nomark _)) (pss_one (ps_ret (pe_cmpR op_isN (pe_fld (pv 0) rfl) pe_non (nomark _)))) pss_nil)
      (pss_one (ps_ret (pe_call (ok__law_whole T) (hr.mono (by decide)) rfl T.g__law_whole T.F__law_whole.kp T.B__law_whole .nil pass0 (pa_cons (pe_fld (pv 0) rfl) (pa_cons (pe_op op_add (pe_ix ix_list (pv 1) pe_int (fun _ _ => rfl)) (pv 2)) pa_nil)))))))), ?_⟩
    refine st__law_holds ?_
    o_args
    refine ⟨e, r, x, _, rfl, hE, hr0, ?_⟩
    o_args
    refine fget he T.cl_Curve T.n_Curve_peak rfl ?_
    o_args
    refine ⟨_, _, rfl, ?_⟩
    rw [show decide ((x.sh k).p = x.p) = true from decide_eq_true rfl]
    o_args
    refine fget he T.cl_Curve T.n_Curve_span rfl ?_
    o_args
    refine ⟨_, _, rfl, ?_⟩
    rw [show decide ((x.sh k).s = x.s) = true from decide_eq_true rfl]
    o_args
    cases hb : x.b with
    | none =>
      o_args
      refine fget he T.cl_Curve T.n_Curve_born rfl ?_
      have e0 : (x.sh k).b = none := by unfold Cs.sh; rw [hb]; rfl
      rw [e0]
      o_args
      exact kk
    | some b =>
      o_args
      refine brDF (fun z => by cases z) ?_
      o_args
      refine fget he T.cl_Curve T.n_Curve_born rfl ?_
      have e0 : (x.sh k).b = some (b + k) := by unfold Cs.sh; rw [hb]; rfl
      rw [e0]
      dsimp only [bV]
      rw [hb] at hr'
      dsimp only [bV] at hr'
      o_args
      refine ⟨_, _, rfl, ?_⟩
      rw [decide_eq_true rfl]
      exact kk
def sp__law_follows (C : Addr) : Sp := fun vs H Q _ => ∃ (e r : Addr) (x y : Cs) (n m N : Int), vs = [.ref e, .ref r, .int n, .int m] ∧ H r = some (.lst x.row) ∧ x.Good N ∧ N ≤ m ∧ m ≤ 10 ^ 14 ∧ 0 ≤ n ∧ Grown x n (.int m) y ∧ CtAt C H e y ∧ ∀ H', SameX r H H' → H' r = some (.lst y.row) → Q (.bl true) H'
theorem ok__law_follows (T : Txt K mg) : FnOk P w K mg base CX0 4 T.a__law_follows T.fd__law_follows ["control", "state", "count", "now"] (sp__law_follows T.c_Curve) := by
  have S := sc__law_follows
  refine T.F__law_follows.ok S (fun vs H Q E h => ?_) (fun cdv A outer s H vs Q E hr h => ?_)
  · obtain ⟨e, r, x, y, n, m, N, rfl, _⟩ := h
    rfl
  · obtain ⟨e, r, x, y, n, m, N, rfl, hr0, G, Nm, mm, n0, g, hE, k⟩ := h
    have hr' := hr0
    unfold Cs.row at hr'
    refine ⟨_, (pss_cons (ps_if (pt_cmpR op_isN (pe_ix ix_list (pv 1) pe_int (fun _ _ => rfl)) pe_non (nomark _)) (pss_one (ps_ret (pe_call (ok__law_follow T) (hr.mono (by decide)) rfl T.g__law_follow T.F__law_follow.kp T.B__law_follow .nil pass0 (pa_cons (pv 0) (pa_cons (pv 1) (pa_cons (pv 2) pa_nil)))))) pss_nil)
      (pss_cons (ps_set (i := 4) S.nd rfl (Or.inl rfl) (pe_op op_add (pe_ix ix_list (pv 1) pe_int (fun _ _ => rfl)) (pe_op op_fdiv (pe_op op_mul (pe_ix ix_list (pv 1) pe_int (fun _ _ => rfl)) (pe_op op_pow (pe_op op_sub (pe_op op_sub (pv 3) (pe_ix ix_list (pv 1) pe_int (fun _ _ => rfl))) (pe_ix ix_list (pv 1) pe_int (fun _ _ => rfl))) pe_int)) pe_int)))
      (pss_cons (ps_asg (pe_callB (id := "min") (call_min3K rfl) (by rfl) T.b_min (by decide +kernel) (pa_cons pe_int (pa_cons (pe_op op_add (pe_ix ix_list (pv 1) pe_int (fun _ _ => rfl)) (pv 2)) (pa_cons (pe_callB (id := "max") (call_max2K rfl) (by rfl) T.b_max (by decide +kernel) (pa_cons (pe_ix ix_list (pv 1) pe_int (fun _ _ => rfl)) (pa_cons (pv 4) pa_nil))) pa_nil)))) (pg_sub (pv 1) pe_int set_list))
      (pss_one (ps_ret pe_bl))))), ?_⟩
    refine st__law_follows ?_
    o_args
    cases g with
    | @climb c' w' hb g =>
      rw [hb] at hr'
      dsimp only [bV] at hr'
      refine brDT (by rw [hb]; rfl) ?_
      o_args
      exact ⟨e, r, x, _, n, rfl, hr0, G.u1, G.u2, G.w1, G.w2, G.c0, n0, rfl, g, ⟨_, hE⟩, k⟩
    | @curve b m' hb e' =>
      cases e'
      have bd := G.bb b hb
      have s0 := G.s0
      have s1 := G.s1
      have u1 := G.u1
      have u2 := G.u2
      rw [hb] at hr'
      dsimp only [bV] at hr'
      refine brDF (fun z => by rw [hb] at z; cases z) ?_
      o_args
      refine x_pow ⟨by decide, by decide, by omega⟩ ?_
      rw [pow3]
      refine x_mulL ⟨by omega, by omega⟩ ?_
      o_args
      refine setL (i := 1) hr' (by simp) fun H1 s1 h1 => ?_
      o_args
      refine k H1 s1 ?_
      rw [h1]
      unfold Cs.row
      have e2 : min (min 4194304 (x.w + n)) (max x.w (x.goal b m)) = min (min (x.w + n) (max x.w (x.goal b m))) 4194304 := by omega
      rw [show ({ x with w := min (min (x.w + n) (max x.w (x.goal b m))) 4194304 } : Cs).w = min (min 4194304 (x.w + n)) (max x.w (x.goal b m)) from e2.symm, hb]
      rfl
/-! ### the law's deeds -/
structure Trio (C : Addr) (e d r : Addr) (x : Cs) (k : Int) (H : Hp) : Prop where
  e1 : CtAt C H e x
  d1 : CtAt C H d (x.sh k)
  r1 : H r = some (.lst x.row)
  ne : e ≠ d
theorem CtAt.nr {C e r : Addr} {x y : Cs} {H : Hp} (h : CtAt C H e x) (g : H r = some (.lst y.row)) : e ≠ r := fun q => by
  obtain ⟨dx, h⟩ := h
  rw [q, g] at h
  cases h
theorem Trio.nr {C e d r : Addr} {x : Cs} {k : Int} {H : Hp} (t : Trio C e d r x k H) : e ≠ r ∧ d ≠ r := ⟨t.e1.nr t.r1, t.d1.nr t.r1⟩
theorem CtAt.off {C e : Addr} {x : Cs} {H H' : Hp} {l : List Addr} (h : CtAt C H e x) (s : Off l H H') (h1 : e ∉ l) : CtAt C H' e x := h.elim fun dx h => ⟨dx, s _ _ h1 h⟩
theorem Trio.off {C e d r : Addr} {x : Cs} {k : Int} {H H' : Hp} {l : List Addr} (t : Trio C e d r x k H) (s : Off l H H') (h1 : e ∉ l) (h2 : d ∉ l) (h3 : r ∉ l) : Trio C e d r x k H' :=
  ⟨t.e1.off s h1, t.d1.off s h2, s _ _ h3 t.r1, t.ne⟩
def sp__law_acked (C : Addr) : Sp := fun vs H Q _ => ∃ (e r : Addr) (x : Cs) (n f m N : Int), vs = [.ref e, .ref r, .int n, .int f, .int m] ∧ CtAt C H e x ∧ H r = some (.lst x.row) ∧ x.Good N ∧ N ≤ m ∧ m ≤ 10 ^ 14 ∧ 1 ≤ n ∧ n ≤ 65535 ∧
  ∀ H' y, Acked x n f (.int m) y → CtAt C H' e y → H' r = some (.lst y.row) → Off [e, r] H H' → Q (.bl true) H'
theorem ok__law_acked (T : Txt K mg) : FnOk P w K mg base CX0 9 T.a__law_acked T.fd__law_acked ["control", "state", "count", "load", "now"] (sp__law_acked T.c_Curve) := by
  have S := sc__law_acked
  refine T.F__law_acked.ok S (fun vs H Q E h => ?_) (fun cdv A outer s H vs Q E hr h => ?_)
  · obtain ⟨e, r, x, n, f, m, N, rfl, _⟩ := h
    rfl
  · obtain ⟨e, r, x, n, f, m, N, rfl, hE, hR, G, Nm, mm, n1, n2, k⟩ := h
    have er := hE.nr hR
    refine ⟨_, (pss_cons (ps_if (pt_cmpR op_notN (pe_meth (pv 0) T.cl_Curve T.m_Curve_on_ack (ok_Curve_on_ack T) (hr.mono (by decide)) T.B_Curve_on_ack .nil passL (pa_cons (pv 2) (pa_cons (pv 3) (pa_cons (pv 4) pa_nil)))) pe_non (nomark _)) (pss_one (ps_ret pe_bl)) pss_nil)
      (pss_cons (ps_asg pe_bl (pg_sub (pv 1) pe_int set_list))
      (pss_cons (ps_if (pt_cmpR op_lt (pe_op op_mul pe_int (pe_op op_add (pv 3) (pv 2))) (pe_ix ix_list (pv 1) pe_int (fun _ _ => rfl)) (nomark _)) (pss_one (ps_ret pe_bl)) pss_nil)
      (pss_cons (ps_if (pt_cmpR op_lt (pe_ix ix_list (pv 1) pe_int (fun _ _ => rfl)) (pe_ix ix_list (pv 1) pe_int (fun _ _ => rfl)) (nomark _)) (pss_cons (ps_asg (pe_callB (id := "min") (call_min2K rfl) (by rfl) T.b_min (by decide +kernel) (pa_cons pe_int (pa_cons (pe_op op_add (pe_ix ix_list (pv 1) pe_int (fun _ _ => rfl)) (pe_callB (id := "min") (call_min2K rfl) (by rfl) T.b_min (by decide +kernel) (pa_cons (pv 2) (pa_cons (pe_ix ix_list (pv 1) pe_int (fun _ _ => rfl)) pa_nil)))) pa_nil))) (pg_sub (pv 1) pe_int set_list))
      (pss_one (ps_ret pe_bl))) pss_nil)
      (pss_one (ps_ret (pe_call (ok__law_follows T) (hr.mono (by decide)) rfl T.g__law_follows T.F__law_follows.kp T.B__law_follows .nil pass0 (pa_cons (pv 0) (pa_cons (pv 1) (pa_cons (pv 2) (pa_cons (pv 4) pa_nil))))))))))), ?_⟩
    refine st__law_acked ?_
    o_args
    obtain ⟨dx, he⟩ := id hE
    refine ⟨e, dx, _, rfl, he, rfl, ?_⟩
    o_args
    refine ⟨e, _, _, f, x, rfl, hE, .inl ⟨n, rfl, n1, n2, G.ready0 Nm mm, fun H1 y s1 ay hE1 => ?_⟩⟩
    have hR1 := s1 _ _ (Ne.symm er) hR
    unfold Cs.row at hR1
    o_args
    refine setL (i := 4) hR1 (by simp) fun H3 s3 h3 => ?_
    have S3 : Off [e, r] H H3 := (Off.ofX (by simp) s1).trans (Off.ofX (by simp) s3)
    have h3 : H3 r = some (.lst [.int x.u, .int x.w, .int x.t, .int x.c, .bl false, .int x.p, .int x.s, bV x.b]) := h3
    have hE3 := hE1.on s3 er
    o_args
    obtain ⟨i1, i2, i3⟩ := ay.inv
    refine brD (fun q => ?_) (fun q => ?_)
    · o_args
      exact k H3 y ay hE3 (by rw [h3, i1 q]; rfl) S3
    o_args
    refine brD (fun q' => ?_) (fun q' => ?_)
    · o_args
      refine setL (i := 1) h3 (by simp) fun H4 s4 h4 => ?_
      have h4 : H4 r = some (.lst [.int x.u, .int (min 4194304 (x.w + min n x.u)), .int x.t, .int x.c, .bl false, .int x.p, .int x.s, bV x.b]) := h4
      o_args
      refine k H4 y ay (hE3.on s4 er) ?_ (S3.trans (Off.ofX (by simp) s4))
      rw [h4, i2 q q', show min 4194304 (x.w + min n x.u) = min (x.w + min n x.u) 4194304 by omega]
      rfl
    · o_args
      refine ⟨e, r, { x with st := false }, y, n, m, N, rfl, h3, G.st false, Nm, mm, by omega, i3 q q', hE3, fun H4 s4 h4 => ?_⟩
      exact k H4 y ay (hE3.on s4 er) h4 (S3.trans (Off.ofX (by simp) s4))
def sp__law_many (K : PySem.W.Frag) (C : Addr) : Sp := fun vs H Q _ => ∃ (e d r a p : Addr) (x : Cs) (k now left : Int), vs = [.ref e, .ref d, .ref r, .ref a, .ref p] ∧ Trio C e d r x k H ∧ x.Good now ∧ Bx a H ∧ H p = some (.lst [.int now, .int left, .int k]) ∧ p ≠ a ∧ 0 ≤ left ∧ left ≤ 140 ∧ 0 ≤ now ∧ now ≤ 10 ^ 13 ∧
  ∀ H' y now' left', y.Good now' → Trio C e d r y k H' → Bx a H' → H' p = some (.lst [.int now', .int left', .int k]) → 0 ≤ left' → left' ≤ 140 → now ≤ now' → now' ≤ now + 280 → Off [e, d, r, a, p] H H' → Q (.bl true) H'
theorem ok__law_many (T : Txt K mg) : FnOk P w K mg base CX0 10 T.a__law_many T.fd__law_many ["control", "twin", "state", "box", "clock"] (sp__law_many K T.c_Curve) := by
  have S := sc__law_many
  refine T.F__law_many.ok S (fun vs H Q E h => ?_) (fun cdv A outer s H vs Q E hr h => ?_)
  · obtain ⟨e, d, r, a, p, x, k, now, left, rfl, _⟩ := h
    rfl
  · obtain ⟨e, d, r, a, p, x, k, now, left, rfl, t, G, B0, hP, pa, l0, l1, w0, w1, kk⟩ := h
    obtain ⟨er, dr⟩ := t.nr
    have ra : r ≠ a := B0.ne t.r1 (by intro _ _ _ e; unfold Cs.row at e; cases e)
    have pr : p ≠ r := fun q => by rw [q, t.r1] at hP; unfold Cs.row at hP; cases hP
    have ea : e ≠ a := by obtain ⟨_, h⟩ := t.e1; exact B0.ne h
    have da : d ≠ a := by obtain ⟨_, h⟩ := t.d1; exact B0.ne h
    have ep : e ≠ p := fun q => by obtain ⟨_, h⟩ := t.e1; rw [q, hP] at h; cases h
    have dp : d ≠ p := fun q => by obtain ⟨_, h⟩ := t.d1; rw [q, hP] at h; cases h
    refine ⟨_, (pss_cons (ps_set (i := 5) S.nd rfl (Or.inl rfl) (pe_callB (id := "min") (call_min2K rfl) (by rfl) T.b_min (by decide +kernel) (pa_cons (pe_ix ix_list (pv 4) pe_int (fun _ _ => rfl)) (pa_cons (pe_op op_add pe_int (pe_call (ok__law_draw T) (hr.mono (by decide)) rfl T.g__law_draw T.F__law_draw.kp T.B__law_draw .nil pass0 (pa_cons (pv 3) (pa_cons pe_int pa_nil)))) pa_nil))))
      (pss_cons (ps_set (i := 6) S.nd rfl (Or.inl rfl) (pe_call (ok__law_count T) (hr.mono (by decide)) rfl T.g__law_count T.F__law_count.kp T.B__law_count .nil pass0 (pa_cons (pv 3) (pa_cons (pe_ix ix_list (pv 2) pe_int (fun _ _ => rfl)) (pa_cons (pe_op op_sub (pe_ix ix_list (pv 2) pe_int (fun _ _ => rfl)) (pe_ix ix_list (pv 2) pe_int (fun _ _ => rfl))) pa_nil)))))
      (pss_cons (ps_set (i := 7) S.nd rfl (Or.inl rfl) (pe_call (ok__law_draw T) (hr.mono (by decide)) rfl T.g__law_draw T.F__law_draw.kp T.B__law_draw .nil pass0 (pa_cons (pv 3) (pa_cons pe_int pa_nil))))
      (pss_cons (ps_augS (pv 4) pe_int (show PGet _ (rIxL K) from pget_list) (pv 5) ip_sub set_list)
      (pss_cons (ps_for PassesOwn.never rfl (pi_range1 (by rfl) T.b_range (pa_cons (pv 5) pa_nil)) (pg_name (i := 8) S.nd rfl (Or.inl rfl)) (pss_cons (ps_set (i := 9) S.nd rfl (Or.inl rfl) (pe_ix ix_list (pv 2) pe_int (fun _ _ => rfl)))
      (pss_cons (ps_if (pt_not (pt_val (pe_call (ok__law_acked T) (hr.mono (by decide)) rfl T.g__law_acked T.F__law_acked.kp T.B__law_acked .nil pass0 (pa_cons (pv 0) (pa_cons (pv 2) (pa_cons (pv 6) (pa_cons (pv 9) (pa_cons (pe_ix ix_list (pv 4) pe_int (fun _ _ => rfl)) pa_nil)))))))) (pss_one (ps_ret pe_bl)) pss_nil)
      (pss_cons (ps_if (pt_cmpR op_notN (pe_meth (pv 1) T.cl_Curve T.m_Curve_on_ack (ok_Curve_on_ack T) (hr.mono (by decide)) T.B_Curve_on_ack .nil passL (pa_cons (pv 6) (pa_cons (pv 9) (pa_cons (pe_op op_add (pe_ix ix_list (pv 4) pe_int (fun _ _ => rfl)) (pe_ix ix_list (pv 4) pe_int (fun _ _ => rfl))) pa_nil)))) pe_non (nomark _)) (pss_one (ps_ret pe_bl)) pss_nil)
      (pss_one (ps_augS (pv 4) pe_int (show PGet _ (rIxL K) from pget_list) (pv 7) ip_add set_list))))))
      (pss_one (ps_ret pe_bl))))))), ?_⟩
    refine st__law_many ?_
    o_args
    refine ⟨a, _, rfl, B0, by decide, by decide, fun c H1 a1 b1 B1 s1 => ?_⟩
    have t1 : Trio T.c_Curve e d r x k H1 := t.off (l := [a]) (Off.ofX (by simp) s1) (by simp [ea]) (by simp [da]) (by simp [ra])
    have hR1 := t1.r1
    unfold Cs.row at hR1
    have hP1 := s1 _ _ pa hP
    o_args
    refine ⟨a, _, _, rfl, B1, fun n H2 n1 n2 B2 s2 => ?_⟩
    have t2 : Trio T.c_Curve e d r x k H2 := t1.off (l := [a]) (Off.ofX (by simp) s2) (by simp [ea]) (by simp [da]) (by simp [ra])
    have hP2 := s2 _ _ pa hP1
    o_args
    refine ⟨a, _, rfl, B2, by decide, by decide, fun pt H3 p1 p2 B3 s3 => ?_⟩
    have t3 : Trio T.c_Curve e d r x k H3 := t2.off (l := [a]) (Off.ofX (by simp) s3) (by simp [ea]) (by simp [da]) (by simp [ra])
    have hP3 := s3 _ _ pa hP2
    clear hP1 hP2 hP
    o_args
    refine setL (i := 1) hP3 (by simp) fun H4 s4 h4 => ?_
    have h4 : H4 p = some (.lst [.int now, .int (left - min left (1 + c)), .int k]) := h4
    have t4 : Trio T.c_Curve e d r x k H4 := t3.off (l := [p]) (Off.ofX (by simp) s4) (by simp [ep]) (by simp [dp]) (by simp [Ne.symm pr])
    have B4 := B3.on s4 (Ne.symm pa)
    have S4 : Off [e, d, r, a, p] H H4 := (((Off.ofX (by simp) s1).trans (Off.ofX (by simp) s2)).trans (Off.ofX (by simp) s3)).trans (Off.ofX (by simp) s4)
    clear hP3
    o_args
    refine rngF (n := min left (1 + c)) (by omega) (by omega) (for_rangeK (lo := 0) (n := (min left (1 + c)).toNat) (fun i σ H' => ∃ y v v2 j, σ = [some (.ref e), some (.ref d), some (.ref r), some (.ref a), some (.ref p), some (.int (min left (1 + c))), some (.int n), some (.int pt), v, v2] ∧ Trio T.c_Curve e d r y k H' ∧ y.Good j ∧ H' p = some (.lst [.int j, .int (left - min left (1 + c)), .int k]) ∧ now ≤ j ∧ j ≤ now + 2 * i ∧ Off [e, d, r, a, p] H H' ∧ Off [e, d, r, p] H4 H') ⟨x, none, none, now, rfl, t4, G, h4, by omega, by omega, S4, Off.refl⟩ ?_ ?_)
    · rintro i σ H5 hi ⟨y, v, v2, j, rfl, t5, G5, h5, j0, j1, S5, S5'⟩
      have hR5 := t5.r1
      have hw1 := G5.w1
      have hR5' := hR5
      unfold Cs.row at hR5'
      o_args
      refine ⟨e, r, y, n, y.w, j, j, rfl, t5.e1, hR5, G5, by omega, by omega, n1, n2, fun H6 z az hE6 h6 s6 => ?_⟩
      have Gz := az.good G5 (by omega)
      have hD6 := t5.d1.off s6 (by simp [Ne.symm t5.ne, dr])
      have hP6 := s6 _ _ (by simp [Ne.symm ep, pr]) h5
      clear hR5' hR5 h5 h4
      obtain ⟨dd, hd⟩ := id hD6
      o_args
      refine ⟨d, dd, _, rfl, hd, rfl, ?_⟩
      o_args
      refine ⟨d, _, _, y.w, y.sh k, rfl, hD6, .inl ⟨n, rfl, n1, n2, G5.ready (by omega) (by omega), fun H7 z' s7 az' hD7 => ?_⟩⟩
      obtain rfl := az.sh.det az'
      have hP7 := s7 _ _ (Ne.symm dp) hP6
      clear hP6
      o_args
      refine setL (i := 0) hP7 (by simp) fun H8 s8 h8 => ?_
      have h8 : H8 p = some (.lst [.int (j + pt), .int (left - min left (1 + c)), .int k]) := h8
      have S8 : Off [e, d, r, p] H5 H8 := ((s6.more (by simp)).trans (Off.ofX (by simp) s7)).trans (Off.ofX (by simp) s8)
      o_args
      refine ⟨z, _, _, j + pt, rfl, ⟨(hE6.on s7 t5.ne).on s8 ep, hD7.on s8 dp, s8 _ _ (Ne.symm pr) (s7 _ _ (Ne.symm dr) h6), t5.ne⟩, Gz.mono (by omega), h8, by omega, by omega, S5.trans (S8.more (by simp)), S5'.trans S8⟩
    rintro σ H5 ⟨y, v, v2, j, rfl, t5, G5, h5, j0, j1, S5, S5'⟩
    o_args
    obtain ⟨bx, by_, bz, hb, b0⟩ := B4
    exact kk H5 y j _ G5 t5 ⟨bx, by_, bz, S5' _ _ (by simp [Ne.symm ea, Ne.symm da, Ne.symm ra, Ne.symm pa]) hb, b0⟩ h5 (by omega) (by omega) j0 (by omega) S5
def sp__law_lost (C : Addr) : Sp := fun vs H Q _ => ∃ (e r : Addr) (x : Cs) (f m N : Int), vs = [.ref e, .ref r, .int f, .int m] ∧ CtAt C H e x ∧ H r = some (.lst x.row) ∧ x.Good N ∧
  ∀ H' s, Span x.u x.need s → CtAt C H' e (x.fell m s) → H' r = some (.lst (x.fell m s).row) → Off [e, r] H H' → Q (.bl true) H'
theorem ok__law_lost (T : Txt K mg) : FnOk P w K mg base CX0 3 T.a__law_lost T.fd__law_lost ["control", "state", "load", "now"] (sp__law_lost T.c_Curve) := by
  have S := sc__law_lost
  refine T.F__law_lost.ok S (fun vs H Q E h => ?_) (fun cdv A outer s H vs Q E hr h => ?_)
  · obtain ⟨e, r, x, f, m, N, rfl, _⟩ := h
    rfl
  · obtain ⟨e, r, x, f, m, N, rfl, hE, hR, G, k⟩ := h
    have er := hE.nr hR
    have w1 := G.w1
    have w2 := G.w2
    have u1 := G.u1
    have u2 := G.u2
    refine ⟨_, (pss_cons (ps_if (pt_cmpR op_notN (pe_meth (pv 0) T.cl_Curve T.m_Curve_on_loss (ok_Curve_on_loss T) (hr.mono (by decide)) T.B_Curve_on_loss .nil pass0 (pa_cons (pv 2) (pa_cons (pv 3) pa_nil))) pe_non (nomark _)) (pss_one (ps_ret pe_bl)) pss_nil)
      (pss_cons (ps_asg (pe_ix ix_list (pv 1) pe_int (fun _ _ => rfl)) (pg_sub (pv 1) pe_int set_list))
      (pss_cons (ps_asg (pe_callB (id := "max") (call_max2K rfl) (by rfl) T.b_max (by decide +kernel) (pa_cons (pe_op op_fdiv (pe_op op_mul (pe_ix ix_list (pv 1) pe_int (fun _ _ => rfl)) pe_int) pe_int) (pa_cons (pe_op op_mul pe_int (pe_ix ix_list (pv 1) pe_int (fun _ _ => rfl))) pa_nil))) (pg_sub (pv 1) pe_int set_list))
      (pss_cons (ps_asg (pe_ix ix_list (pv 1) pe_int (fun _ _ => rfl)) (pg_sub (pv 1) pe_int set_list))
      (pss_cons (ps_asg pe_int (pg_sub (pv 1) pe_int set_list))
      (pss_cons (ps_asg (pv 3) (pg_sub (pv 1) pe_int set_list))
      (pss_cons (ps_set (i := 4) S.nd rfl (Or.inl rfl) (pe_fld (pv 0) rfl))
      (pss_cons (ps_set (i := 5) S.nd rfl (Or.inl rfl) (pe_op op_mul pe_int (pe_op op_sub (pe_ix ix_list (pv 1) pe_int (fun _ _ => rfl)) (pe_ix ix_list (pv 1) pe_int (fun _ _ => rfl)))))
      (pss_cons (ps_if (PW.pt (pw_or (pt_not (pt_val (pe_call (ok__law_whole T) (hr.mono (by decide)) rfl T.g__law_whole T.F__law_whole.kp T.B__law_whole .nil pass0 (pa_cons (pv 4) (pa_cons (pv 4) pa_nil))))) (pw_or (pt_cmpR op_lt (pv 4) pe_int (nomark _)) (pw_or1 (pt_cmpR op_lt (pe_op op_mul (pe_ix ix_list (pv 1) pe_int (fun _ _ => rfl)) (pe_op op_pow (pv 4) pe_int)) (pv 5) (nomark _)))))) (pss_one (ps_ret pe_bl)) pss_nil)
      (pss_cons (ps_asg (pv 4) (pg_sub (pv 1) pe_int set_list))
      (pss_one (ps_ret (pe_or (pe_cmpR op_eq (pv 4) pe_int (nomark _)) (pe_one (pe_cmpR op_lt (pe_op op_mul (pe_ix ix_list (pv 1) pe_int (fun _ _ => rfl)) (pe_op op_pow (pe_op op_sub (pv 4) pe_int) pe_int)) (pv 5) (nomark _)))))))))))))))), ?_⟩
    refine st__law_lost ?_
    o_args
    obtain ⟨dx, he⟩ := id hE
    refine ⟨e, dx, _, rfl, he, rfl, ?_⟩
    o_args
    refine ⟨e, x, _, m, rfl, hE, u1, u2, w1, w2, fun H1 s s1 hs hE1 => ?_⟩
    have hR1 := s1 _ _ (Ne.symm er) hR
    unfold Cs.row at hR1
    o_args
    refine setL (i := 5) hR1 (by simp) fun H2 s2 h2 => ?_
    have h2 : H2 r = some (.lst [.int x.u, .int x.w, .int x.t, .int x.c, .bl x.st, .int x.w, .int x.s, bV x.b]) := h2
    clear hR1
    o_args
    refine setL (i := 2) h2 (by simp) fun H3 s3 h3 => ?_
    have h3 : H3 r = some (.lst [.int x.u, .int x.w, .int (max (x.w * 7 / 10) (2 * x.u)), .int x.c, .bl x.st, .int x.w, .int x.s, bV x.b]) := h3
    clear h2
    o_args
    refine setL (i := 1) h3 (by simp) fun H4 s4 h4 => ?_
    have h4 : H4 r = some (.lst [.int x.u, .int (max (x.w * 7 / 10) (2 * x.u)), .int (max (x.w * 7 / 10) (2 * x.u)), .int x.c, .bl x.st, .int x.w, .int x.s, bV x.b]) := h4
    clear h3
    o_args
    refine setL (i := 3) h4 (by simp) fun H5 s5 h5 => ?_
    have h5 : H5 r = some (.lst [.int x.u, .int (max (x.w * 7 / 10) (2 * x.u)), .int (max (x.w * 7 / 10) (2 * x.u)), .int 0, .bl x.st, .int x.w, .int x.s, bV x.b]) := h5
    clear h4
    o_args
    refine setL (i := 7) h5 (by simp) fun H6 s6 h6 => ?_
    have h6 : H6 r = some (.lst [.int x.u, .int (max (x.w * 7 / 10) (2 * x.u)), .int (max (x.w * 7 / 10) (2 * x.u)), .int 0, .bl x.st, .int x.w, .int x.s, .int m]) := h6
    clear h5
    have S6 : SameX r H1 H6 := (((s2.trans s3).trans s4).trans s5).trans s6
    have hE6 := hE1.on S6 er
    obtain ⟨dz, he6⟩ := id hE6
    have hi := hs.hi
    have s0 := hs.s0
    have lo := hs.lo
    have hle := hs.le u1
    unfold Cs.need at hi lo hle
    have sb : s ≤ 2 ^ 40 := by omega
    o_args
    refine fget he6 T.cl_Curve T.n_Curve_span rfl ?_
    show tSeq _ _ _ _ _
    have e1 : (x.fell m s).s = s := rfl
    rw [e1]
    o_args
    refine ⟨_, _, rfl, ?_⟩
    rw [decide_eq_true rfl]
    o_args
    refine brDF (by omega) ?_
    o_args
    refine x_pow ⟨by decide, by decide, by omega⟩ ?_
    rw [pow3]
    refine x_mulL ⟨by omega, by omega⟩ ?_
    o_args
    refine brDF (by omega) ?_
    o_args
    refine setL (i := 6) h6 (by simp) fun H7 s7 h7 => ?_
    have h7 : H7 r = some (.lst [.int x.u, .int (max (x.w * 7 / 10) (2 * x.u)), .int (max (x.w * 7 / 10) (2 * x.u)), .int 0, .bl x.st, .int x.w, .int s, .int m]) := h7
    clear h6
    have fin : Q (.bl true) H7 := k H7 s hs (hE6.on s7 er) h7 ((Off.ofX (by simp) s1).trans (Off.ofX (by simp) (S6.trans s7)))
    o_args
    refine brD (fun q => ?_) (fun q => ?_)
    · exact fin
    · o_args
      refine x_pow ⟨by decide, by decide, by omega⟩ ?_
      rw [pow3]
      refine x_mulL ⟨by omega, by omega⟩ ?_
      o_args
      have := lo.resolve_left q
      rw [decide_eq_true this]
      exact fin
def sp__law_expired (C : Addr) : Sp := fun vs H Q _ => ∃ (e r : Addr) (x : Cs) (f : Int) (now : V), vs = [.ref e, .ref r, .int f, now] ∧ CtAt C H e x ∧ H r = some (.lst x.row) ∧ 0 ≤ f ∧
  ∀ H', CtAt C H' e (x.gone f) → H' r = some (.lst (x.gone f).row) → Off [e, r] H H' → Q (.bl true) H'
theorem ok__law_expired (T : Txt K mg) : FnOk P w K mg base CX0 4 T.a__law_expired T.fd__law_expired ["control", "state", "load", "now"] (sp__law_expired T.c_Curve) := by
  have S := sc__law_expired
  refine T.F__law_expired.ok S (fun vs H Q E h => ?_) (fun cdv A outer s H vs Q E hr h => ?_)
  · obtain ⟨e, r, x, f, now, rfl, _⟩ := h
    rfl
  · obtain ⟨e, r, x, f, now, rfl, hE, hR, f0, k⟩ := h
    have er := hE.nr hR
    unfold Cs.row at hR
    refine ⟨_, (pss_cons (ps_asg (pe_ix ix_list (pv 1) pe_int (fun _ _ => rfl)) (pg_sub (pv 1) pe_int set_list))
      (pss_cons (ps_asg pe_non (pg_sub (pv 1) pe_int set_list))
      (C8.pss_cut (ps_if (pt_not (pt_val (pe_ix ix_list (pv 1) pe_int (fun _ _ => rfl)))) (pss_one (ps_asg (pe_callB (id := "max") (call_max2K rfl) (by rfl) T.b_max (by decide +kernel) (pa_cons (pe_op op_fdiv (pv 2) pe_int) (pa_cons (pe_op op_mul pe_int (pe_ix ix_list (pv 1) pe_int (fun _ _ => rfl))) pa_nil))) (pg_sub (pv 1) pe_int set_list))) pss_nil)
      (pss_cons (ps_asg (pe_ix ix_list (pv 1) pe_int (fun _ _ => rfl)) (pg_sub (pv 1) pe_int set_list))
      (pss_cons (ps_asg pe_int (pg_sub (pv 1) pe_int set_list))
      (pss_cons (ps_asg pe_bl (pg_sub (pv 1) pe_int set_list))
      (pss_one (ps_ret (pe_cmpR op_isN (pe_meth (pv 0) T.cl_Curve T.m_Curve_on_expiry (ok_Curve_on_expiry T) (hr.mono (by decide)) T.B_Curve_on_expiry .nil passL (pa_cons (pv 2) (pa_cons (pv 3) pa_nil))) pe_non (nomark _)))))))))), ?_⟩
    refine st__law_expired ?_
    o_args
    refine setL (i := 5) hR (by simp) fun H1 s1 h1 => ?_
    have h1 : H1 r = some (.lst [.int x.u, .int x.w, .int x.t, .int x.c, .bl x.st, .int x.w, .int x.s, bV x.b]) := h1
    o_args
    refine setL (i := 7) h1 (by simp) fun H2 s2 h2 => ?_
    have h2 : H2 r = some (.lst [.int x.u, .int x.w, .int x.t, .int x.c, .bl x.st, .int x.w, .int x.s, .non]) := h2
    clear h1
    o_args
    refine ⟨fun σ H' => σ = [some (.ref e), some (.ref r), some (.int f), some now] ∧ SameX r H H' ∧ H' r = some (.lst [.int x.u, .int x.w, .int (if x.st = true then x.t else max (f / 2) (2 * x.u)), .int x.c, .bl x.st, .int x.w, .int x.s, .non]), ?_, ?_⟩
    · o_args
      cases hst : x.st with
      | true =>
        rw [hst] at h2
        o_args
        exact ⟨rfl, s1.trans s2, by rw [if_pos rfl]; exact h2⟩
      | false =>
        rw [hst] at h2
        o_args
        refine setL (i := 2) h2 (by simp) fun H3 s3 h3 => ?_
        o_args
        exact ⟨rfl, (s1.trans s2).trans s3, by rw [if_neg Bool.false_ne_true]; exact h3⟩
    clear h2 s1 s2
    rintro σ H1 ⟨rfl, s1, h1⟩
    o_args
    refine setL (i := 1) h1 (by simp) fun H2 s2 h2 => ?_
    o_args
    refine setL (i := 3) h2 (by simp) fun H3 s3 h3 => ?_
    o_args
    refine setL (i := 4) h3 (by simp) fun H4 s4 h4 => ?_
    have S4 : SameX r H H4 := ((s1.trans s2).trans s3).trans s4
    have hE4 := hE.on S4 er
    obtain ⟨dx, he⟩ := id hE4
    o_args
    refine ⟨e, dx, _, rfl, he, rfl, ?_⟩
    o_args
    refine ⟨e, x, f, _, rfl, hE4, f0, fun H5 s5 hE5 => ?_⟩
    o_args
    refine k H5 hE5 ?_ ((Off.ofX (by simp) S4).trans (Off.ofX (by simp) s5))
    rw [s5 _ _ (Ne.symm er) h4]
    rfl
def sp__law_meet : Sp := fun vs H Q _ => ∃ (r : Addr) (x : Cs) (m : Int), vs = [.ref r, .int m] ∧ H r = some (.lst x.row) ∧ ∀ n, (n = m ∨ ∃ b, x.b = some b ∧ n = b + x.s) → Q (.int n) H
theorem ok__law_meet (T : Txt K mg) : FnOk P w K mg base CX0 1 T.a__law_meet T.fd__law_meet ["state", "now"] (sp__law_meet) := by
  have S := sc__law_meet
  refine T.F__law_meet.ok S (fun vs H Q E h => ?_) (fun cdv A outer s H vs Q E hr h => ?_)
  · obtain ⟨r, x, m, rfl, _⟩ := h
    rfl
  · obtain ⟨r, x, m, rfl, hR, k⟩ := h
    unfold Cs.row at hR
    refine ⟨_, (pss_cons (ps_if (pt_cmpR op_isN (pe_ix ix_list (pv 0) pe_int (fun _ _ => rfl)) pe_non (nomark _)) (pss_one (ps_ret (pv 1))) pss_nil)
      (pss_one (ps_ret (pe_op op_add (pe_ix ix_list (pv 0) pe_int (fun _ _ => rfl)) (pe_ix ix_list (pv 0) pe_int (fun _ _ => rfl)))))), ?_⟩
    refine st__law_meet ?_
    o_args
    cases hb : x.b with
    | none =>
      rw [hb] at hR
      dsimp only [bV] at hR
      o_args
      exact k _ (.inl rfl)
    | some b =>
      rw [hb] at hR
      dsimp only [bV] at hR
      refine brDF (fun z => by cases z) ?_
      o_args
      exact k _ (.inr ⟨b, hb, rfl⟩)
/-! ### refused counts -/
def sp__law_refused (K : PySem.W.Frag) (C : Addr) : Sp := fun vs H Q _ => ∃ (e : Addr) (b : V) (f : Int) (now : V) (x : Cs), vs = [.ref e, b, .int f, now] ∧ CtAt C H e x ∧ Bad K H b ∧ ∀ H', Same H H' → Q (.bl true) H'
theorem ok__law_refused (T : Txt K mg) : FnOk P w K mg base CX0 9 T.a__law_refused T.fd__law_refused ["control", "bad", "load", "now"] (sp__law_refused K T.c_Curve) := by
  have S := sc__law_refused
  refine T.F__law_refused.ok S (fun vs H Q E h => ?_) (fun cdv A outer s H vs Q E hr h => ?_)
  · obtain ⟨e, b, f, now, x, rfl, _⟩ := h
    rfl
  · obtain ⟨e, b, f, now, x, rfl, hE, hb, k⟩ := h
    refine ⟨_, (pss_cons (ps_set (i := 4) S.nd rfl (Or.inl rfl) pe_int)
      (pss_cons (ps_for PassesOwn.never rfl (pi_range1 (by rfl) T.b_range (pa_cons pe_int pa_nil)) (pg_name (i := 5) S.nd rfl (Or.inl rfl)) (pss_one (ps_try_cl rfl rfl takes0 (fun W pn xe tk po => (pss_one (ps_if (pt_cmpR op_eq (pv 5) pe_int (nomark _)) (pss_one (ps_expr (pe_methX (pv 0) T.cl_Curve T.m_Curve_on_ack (ok_Curve_on_ack T) (hr.mono (by decide)) T.B_Curve_on_ack (fun σ => passAt tk σ) (pa_cons (pv 1) (pa_cons (pv 2) (pa_cons (pv 3) pa_nil)))))) (pss_one (ps_expr (pe_methX (pv 0) T.cl_Curve T.m_Curve_grow (ok_Curve_grow T) (hr.mono (by decide)) T.B_Curve_grow (fun σ => passAt tk σ) (pa_cons (pv 1) (pa_cons (pv 3) pa_nil))))))))
      (ClOk.named (i := 6) S.nd rfl rfl ⟨rfl, by decide, .inl T.X_InvalidNumber.g⟩ (fun a oe cls d pn hz hf => (pss_cons (ps_if (PW.pt (pw_or (pt_cmpR (show OpR _ _ (rNeD K) from op_neD hr.units) (pe_xg hz hf (pv 6)) (pv 1) (nomark _)) (pw_or1 (pt_cmpR op_ne (pe_callB (id := "isinstance") (show CallR _ (.builtin "isinstance") (rIsi K) from call_isi) (by rfl) T.b_isinstance (by decide +kernel) (pa_cons (pe_xg hz hf (pv 6)) (pa_cons (pe_bltn (v := .ty "bool") (u := .type "bool") (by rfl) T.b_bool (by decide +kernel) rfl) pa_nil))) (pe_callB (id := "isinstance") (show CallR _ (.builtin "isinstance") (rIsi K) from call_isi) (by rfl) T.b_isinstance (by decide +kernel) (pa_cons (pv 1) (pa_cons (pe_bltn (v := .ty "bool") (u := .type "bool") (by rfl) T.b_bool (by decide +kernel) rfl) pa_nil))) (nomark _))))) (pss_one (ps_ret pe_bl)) pss_nil)
      (pss_one (ps_aug (i := 4) S.nd rfl (.inl rfl) pe_int ip_add))))
      ClOk.nil))))
      (pss_one (ps_ret (pe_cmpR op_eq (pv 4) pe_int (nomark _)))))), ?_⟩
    refine st__law_refused ?_
    o_args
    refine rngF (n := 2) (by decide) (by decide) (for_rangeK (lo := 0) (n := (2 : Int).toNat) (fun i σ H' => ∃ v v' j, σ = [some (.ref e), some b, some (.int f), some now, some (.int j), v, v'] ∧ j = (i : Int) ∧ Same H H') ⟨none, none, 0, rfl, rfl, Same.refl _⟩ ?_ ?_)
    · rintro i σ H1 hi ⟨v, v', j, rfl, hj, s1⟩
      have hE1 := hE.same s1
      have hb1 := hb.same s1
      obtain ⟨dx, he⟩ := id hE1
      obtain ⟨t, bb, dd, h1, h2, h3, h4⟩ := hb1.2.ex
      have eqq := PySem.SeqAt.eqv_refl _ (PySem.SeqAt.canLay_of_shaped h4)
      have fin : ∀ (d : Addr) (H2 : Hp), Same H1 H2 → H2 d = some (.xd [("number", b)]) → True := fun _ _ _ _ => trivial
      o_args
      refine brD (fun q => ?_) (fun q => ?_)
      · o_args
        refine ⟨e, dx, _, rfl, he, rfl, ?_⟩
        o_args
        refine ⟨e, b, _, f, x, rfl, hE1, .inr ⟨hb1.1, fun d H2 s2 hx => ?_⟩⟩
        refine ⟨true, T.Me_InvalidNumber_InvalidNumber, fun _ a ha => ?_, fun z => nomatch z⟩
        o_args
        refine errF T.X_InvalidNumber.x T.nX_InvalidNumber hx rfl ?_
        o_args
        refine ⟨dd, dd, Dp.sm s2 _ _ h3, Dp.sm s2 _ _ h3, h4, h4, ?_⟩
        rw [eqq]
        o_args
        refine errF T.X_InvalidNumber.x T.nX_InvalidNumber hx rfl ?_
        o_args
        refine ⟨_, _, _, _, bb, rfl, .ty _, tyX_same h1 s2, h2, ?_⟩
        o_args
        refine ⟨_, _, _, _, bb, rfl, .ty _, tyX_same h1 s2, h2, ?_⟩
        refine ⟨rfl, ?_⟩
        rw [show (!decide (V.bl bb = V.bl bb)) = false by simp]
        o_args
        refine ⟨_, rfl, _, _, rfl, rfl, ?_⟩
        exact ⟨_, _, _, rfl, by show j + 1 = _; omega, s1.trans s2⟩
      · o_args
        refine ⟨e, dx, _, rfl, he, rfl, ?_⟩
        o_args
        refine ⟨e, b, _, x, rfl, hE1, .inr ⟨hb1.1, fun d H2 s2 hx => ?_⟩⟩
        refine ⟨true, T.Me_InvalidNumber_InvalidNumber, fun _ a ha => ?_, fun z => nomatch z⟩
        o_args
        refine errF T.X_InvalidNumber.x T.nX_InvalidNumber hx rfl ?_
        o_args
        refine ⟨dd, dd, Dp.sm s2 _ _ h3, Dp.sm s2 _ _ h3, h4, h4, ?_⟩
        rw [eqq]
        o_args
        refine errF T.X_InvalidNumber.x T.nX_InvalidNumber hx rfl ?_
        o_args
        refine ⟨_, _, _, _, bb, rfl, .ty _, tyX_same h1 s2, h2, ?_⟩
        o_args
        refine ⟨_, _, _, _, bb, rfl, .ty _, tyX_same h1 s2, h2, ?_⟩
        refine ⟨rfl, ?_⟩
        rw [show (!decide (V.bl bb = V.bl bb)) = false by simp]
        o_args
        refine ⟨_, rfl, _, _, rfl, rfl, ?_⟩
        exact ⟨_, _, _, rfl, by show j + 1 = _; omega, s1.trans s2⟩
    · rintro σ H1 ⟨v, v', j, rfl, hj, s1⟩
      have hj : j = 2 := hj
      subst hj
      o_args
      exact k H1 s1
/-! ### a deed -/
theorem Cs.fell_good {x : Cs} {N m s : Int} (G : x.Good N) (h : Span x.u x.need s) (m0 : 0 ≤ m) : (x.fell m s).Good m := by
  have hle := h.le G.u1
  have := G.w1
  have := G.w2
  have := G.u1
  have := G.u2
  unfold Cs.need at hle
  refine ⟨G.u1, G.u2, ?_, ?_, Int.le_refl 0, h.s0, ?_, fun b e => ?_⟩
  · show 1 ≤ max (x.w * 7 / 10) (2 * x.u); omega
  · show max (x.w * 7 / 10) (2 * x.u) ≤ 4194304; omega
  · show s ≤ 536870912; omega
  · cases (show some m = some b from e)
    omega
theorem Cs.gone_good {x : Cs} {N f : Int} (G : x.Good N) : (x.gone f).Good N :=
  ⟨G.u1, G.u2, G.u1, by show x.u ≤ 4194304; have := G.u2; omega, Int.le_refl 0, G.s0, G.s1, fun b e => nomatch (show (none : Option Int) = some b from e)⟩
def sp__law_deed (K : PySem.W.Frag) (C : Addr) : Sp := sp__law_many K C
theorem ok__law_deed (T : Txt K mg) : FnOk P w K mg base CX0 11 T.a__law_deed T.fd__law_deed ["control", "twin", "state", "box", "clock"] (sp__law_deed K T.c_Curve) := by
  have S := sc__law_deed
  refine T.F__law_deed.ok S (fun vs H Q E h => ?_) (fun cdv A outer s H vs Q E hr h => ?_)
  · obtain ⟨e, d, r, a, p, x, k, now, left, rfl, _⟩ := h
    rfl
  · obtain ⟨e, d, r, a, p, x, k, now, left, rfl, t, G, B0, hP, pa, l0, l1, w0, w1, kk⟩ := h
    obtain ⟨er, dr⟩ := t.nr
    have u1 := G.u1
    have u2 := G.u2
    have ra : r ≠ a := B0.ne t.r1 (by intro _ _ _ e; unfold Cs.row at e; cases e)
    have pr : p ≠ r := fun q => by rw [q, t.r1] at hP; unfold Cs.row at hP; cases hP
    have ea : e ≠ a := by obtain ⟨_, h⟩ := t.e1; exact B0.ne h
    have da : d ≠ a := by obtain ⟨_, h⟩ := t.d1; exact B0.ne h
    have ep : e ≠ p := fun q => by obtain ⟨_, h⟩ := t.e1; rw [q, hP] at h; cases h
    have dp : d ≠ p := fun q => by obtain ⟨_, h⟩ := t.d1; rw [q, hP] at h; cases h
    have ed := t.ne
    have box : ∀ {H1 H2 : Hp}, Trio T.c_Curve e d r x k H1 ∧ H1 p = some (.lst [.int now, .int left, .int k]) → SameX a H1 H2 → Trio T.c_Curve e d r x k H2 ∧ H2 p = some (.lst [.int now, .int left, .int k]) := fun h s =>
      ⟨h.1.off (l := [a]) (Off.ofX (by simp) s) (by simp [ea]) (by simp [da]) (by simp [ra]), s _ _ pa h.2⟩
    have done_ : ∀ {H1 : Hp}, Bx a H1 → H1 p = some (.lst [.int now, .int left, .int k]) → Off [e, d, r, a, p] H H1 → ∀ H' y, y.Good now → Trio T.c_Curve e d r y k H' → Off [e, d, r] H1 H' → Q (.bl true) H' := fun B1 p1 S1 H' y Gy ty S =>
      kk H' y now left Gy ty (by obtain ⟨bx, by_, bz, hb, b0⟩ := B1; exact ⟨bx, by_, bz, S _ _ (by simp [Ne.symm ea, Ne.symm da, Ne.symm ra]) hb, b0⟩) (S _ _ (by simp [Ne.symm ep, Ne.symm dp, pr]) p1) l0 l1 (by omega) (by omega)
        (S1.trans (S.more (by simp)))
    refine ⟨_, (pss_cons (ps_set (i := 5) S.nd rfl (Or.inl rfl) (pe_call (ok__law_draw T) (hr.mono (by decide)) rfl T.g__law_draw T.F__law_draw.kp T.B__law_draw .nil pass0 (pa_cons (pv 3) (pa_cons pe_int pa_nil))))
      (pss_cons (ps_set (i := 6) S.nd rfl (Or.inl rfl) (pe_ix ix_list (pv 4) pe_int (fun _ _ => rfl)))
      (pss_cons (ps_if (pt_cmpR op_lt (pv 5) pe_int (nomark _)) (pss_cons (ps_set (i := 7) S.nd rfl (Or.inl rfl) (pe_call (ok__law_count T) (hr.mono (by decide)) rfl T.g__law_count T.F__law_count.kp T.B__law_count .nil pass0 (pa_cons (pv 3) (pa_cons (pe_ix ix_list (pv 2) pe_int (fun _ _ => rfl)) (pa_cons (pe_op op_sub (pe_ix ix_list (pv 2) pe_int (fun _ _ => rfl)) (pe_ix ix_list (pv 2) pe_int (fun _ _ => rfl))) pa_nil)))))
      (pss_cons (ps_if (pt_cmpR op_eq (pv 5) pe_int (nomark _)) (pss_cons (ps_if (PW.pt (pw_or (pt_cmpR op_notN (pe_meth (pv 0) T.cl_Curve T.m_Curve_grow (ok_Curve_grow T) (hr.mono (by decide)) T.B_Curve_grow .nil passL (pa_cons (pv 7) (pa_cons (pv 6) pa_nil))) pe_non (nomark _)) (pw_or1 (pt_cmpR op_notN (pe_meth (pv 1) T.cl_Curve T.m_Curve_grow (ok_Curve_grow T) (hr.mono (by decide)) T.B_Curve_grow .nil passL (pa_cons (pv 7) (pa_cons (pe_op op_add (pv 6) (pe_ix ix_list (pv 4) pe_int (fun _ _ => rfl))) pa_nil))) pe_non (nomark _))))) (pss_one (ps_ret pe_bl)) pss_nil)
      (pss_one (ps_ret (pe_call (ok__law_follows T) (hr.mono (by decide)) rfl T.g__law_follows T.F__law_follows.kp T.B__law_follows .nil pass0 (pa_cons (pv 0) (pa_cons (pv 2) (pa_cons (pv 7) (pa_cons (pv 6) pa_nil)))))))) pss_nil)
      (pss_cons (ps_set (i := 8) S.nd rfl (Or.inl rfl) (pe_call (ok__law_load T) (hr.mono (by decide)) rfl T.g__law_load T.F__law_load.kp T.B__law_load .nil pass0 (pa_cons (pv 3) (pa_cons (pe_ix ix_list (pv 2) pe_int (fun _ _ => rfl)) (pa_cons (pe_ix ix_list (pv 2) pe_int (fun _ _ => rfl)) (pa_cons (pv 7) pa_nil))))))
      (pss_cons (ps_if (pt_not (pt_val (pe_call (ok__law_acked T) (hr.mono (by decide)) rfl T.g__law_acked T.F__law_acked.kp T.B__law_acked .nil pass0 (pa_cons (pv 0) (pa_cons (pv 2) (pa_cons (pv 7) (pa_cons (pv 8) (pa_cons (pv 6) pa_nil)))))))) (pss_one (ps_ret pe_bl)) pss_nil)
      (pss_one (ps_ret (pe_cmpR op_isN (pe_meth (pv 1) T.cl_Curve T.m_Curve_on_ack (ok_Curve_on_ack T) (hr.mono (by decide)) T.B_Curve_on_ack .nil passL (pa_cons (pv 7) (pa_cons (pv 8) (pa_cons (pe_op op_add (pv 6) (pe_ix ix_list (pv 4) pe_int (fun _ _ => rfl))) pa_nil)))) pe_non (nomark _)))))))) pss_nil)
      (pss_cons (ps_if (pt_cmpR op_eq (pv 5) pe_int (nomark _)) (pss_one (ps_ret (pe_call (ok__law_many T) (hr.mono (by decide)) rfl T.g__law_many T.F__law_many.kp T.B__law_many .nil pass0 (pa_cons (pv 0) (pa_cons (pv 1) (pa_cons (pv 2) (pa_cons (pv 3) (pa_cons (pv 4) pa_nil)))))))) pss_nil)
      (pss_cons (ps_set (i := 8) S.nd rfl (Or.inl rfl) (pe_call (ok__law_load T) (hr.mono (by decide)) rfl T.g__law_load T.F__law_load.kp T.B__law_load .nil pass0 (pa_cons (pv 3) (pa_cons (pe_ix ix_list (pv 2) pe_int (fun _ _ => rfl)) (pa_cons (pe_ix ix_list (pv 2) pe_int (fun _ _ => rfl)) (pa_cons pe_int pa_nil))))))
      (pss_cons (ps_if (pt_cmpR op_lt (pv 5) pe_int (nomark _)) (pss_one (ps_ret (pe_and (pe_call (ok__law_lost T) (hr.mono (by decide)) rfl T.g__law_lost T.F__law_lost.kp T.B__law_lost .nil pass0 (pa_cons (pv 0) (pa_cons (pv 2) (pa_cons (pv 8) (pa_cons (pv 6) pa_nil))))) (pe_one (pe_cmpR op_isN (pe_meth (pv 1) T.cl_Curve T.m_Curve_on_loss (ok_Curve_on_loss T) (hr.mono (by decide)) T.B_Curve_on_loss .nil pass0 (pa_cons (pv 8) (pa_cons (pe_op op_add (pv 6) (pe_ix ix_list (pv 4) pe_int (fun _ _ => rfl))) pa_nil))) pe_non (nomark _)))))) pss_nil)
      (pss_cons (ps_if (pt_cmpR op_eq (pv 5) pe_int (nomark _)) (pss_one (ps_ret (pe_and (pe_call (ok__law_expired T) (hr.mono (by decide)) rfl T.g__law_expired T.F__law_expired.kp T.B__law_expired .nil pass0 (pa_cons (pv 0) (pa_cons (pv 2) (pa_cons (pv 8) (pa_cons (pv 6) pa_nil))))) (pe_one (pe_cmpR op_isN (pe_meth (pv 1) T.cl_Curve T.m_Curve_on_expiry (ok_Curve_on_expiry T) (hr.mono (by decide)) T.B_Curve_on_expiry .nil passL (pa_cons (pv 8) (pa_cons (pe_op op_add (pv 6) (pe_ix ix_list (pv 4) pe_int (fun _ _ => rfl))) pa_nil))) pe_non (nomark _)))))) pss_nil)
      (pss_cons (ps_if (pt_cmpR op_eq (pv 5) pe_int (nomark _)) (pss_one (ps_ret (pe_and (pe_cmpR op_isN (pe_meth (pv 0) T.cl_Curve T.m_Curve_on_sample (ok_Curve_on_sample T) (hr.mono (by decide)) T.B_Curve_on_sample .nil passL (pa_cons (pv 8) pa_nil)) pe_non (nomark _)) (pe_one (pe_cmpR op_isN (pe_meth (pv 1) T.cl_Curve T.m_Curve_on_sample (ok_Curve_on_sample T) (hr.mono (by decide)) T.B_Curve_on_sample .nil passL (pa_cons (pv 8) pa_nil)) pe_non (nomark _)))))) pss_nil)
      (pss_cons (ps_set (i := 9) S.nd rfl (Or.inl rfl) (pe_call (ok__law_bad T) (hr.mono (by decide)) rfl T.g__law_bad T.F__law_bad.kp T.B__law_bad .nil pass0 (pa_cons (pv 3) pa_nil)))
      (pss_one (ps_ret (pe_and (pe_call (ok__law_refused T) (hr.mono (by decide)) rfl T.g__law_refused T.F__law_refused.kp T.B__law_refused .nil pass0 (pa_cons (pv 0) (pa_cons (pv 9) (pa_cons (pv 8) (pa_cons (pv 6) pa_nil))))) (pe_one (pe_call (ok__law_refused T) (hr.mono (by decide)) rfl T.g__law_refused T.F__law_refused.kp T.B__law_refused .nil pass0 (pa_cons (pv 1) (pa_cons (pv 9) (pa_cons (pv 8) (pa_cons (pe_op op_add (pv 6) (pe_ix ix_list (pv 4) pe_int (fun _ _ => rfl))) pa_nil)))))))))))))))))), ?_⟩
    refine st__law_deed ?_
    o_args
    refine ⟨a, _, rfl, B0, by decide, by decide, fun ch H1 a1 b1 B1 s1 => ?_⟩
    obtain ⟨t1, hP1⟩ := box ⟨t, hP⟩ s1
    have hR1 := t1.r1
    unfold Cs.row at hR1
    have S1 : Off [e, d, r, a, p] H H1 := Off.ofX (by simp) s1
    clear hP
    o_args
    refine brD (fun q => ?_) (fun q => ?_)
    · o_args
      refine ⟨a, _, _, rfl, B1, fun n H2 n1 n2 B2 s2 => ?_⟩
      obtain ⟨t2, hP2⟩ := box ⟨t1, hP1⟩ s2
      have hR2 := t2.r1
      unfold Cs.row at hR2
      have S2 := S1.trans (Off.ofX (by simp) s2)
      clear hR1 hP1
      o_args
      refine brD (fun q => ?_) (fun q => ?_)
      · o_args
        obtain ⟨de, he⟩ := t2.e1
        refine ⟨e, de, _, rfl, he, rfl, ?_⟩
        o_args
        refine ⟨e, _, _, x, rfl, t2.e1, .inl ⟨n, rfl, n1, n2, G.ready0 (by omega) (by omega), fun H3 y s3 gy hE3 => ?_⟩⟩
        have hD3 := t2.d1.on s3 (Ne.symm ed)
        have hR3 := s3 _ _ (Ne.symm er) t2.r1
        have hP3 := s3 _ _ (Ne.symm ep) hP2
        clear hR2
        obtain ⟨dd, hd⟩ := id hD3
        o_args
        refine ⟨d, dd, _, rfl, hd, rfl, ?_⟩
        o_args
        refine ⟨d, _, _, x.sh k, rfl, hD3, .inl ⟨n, rfl, n1, n2, G.ready (by omega) (by omega), fun H4 z s4 gz hD4 => ?_⟩⟩
        obtain rfl := gy.sh.det gz
        o_args
        refine ⟨e, r, x, y, n, now, now, rfl, s4 _ _ (Ne.symm dr) hR3, G, by omega, by omega, by omega, gy, hE3.on s4 ed, fun H5 s5 h5 => ?_⟩
        exact done_ B2 hP2 S2 H5 y (gy.good G (by omega)) ⟨(hE3.on s4 ed).on s5 er, hD4.on s5 dr, h5, ed⟩ (((Off.ofX (by simp) s3).trans (Off.ofX (by simp) s4)).trans (Off.ofX (by simp) s5))
      · o_args
        refine ⟨a, _, _, _, rfl, B2, u1, u2, fun f H3 f0 B3 s3 => ?_⟩
        obtain ⟨t3, hP3⟩ := box ⟨t2, hP2⟩ s3
        clear hR2 hP2
        o_args
        refine ⟨e, r, x, n, f, now, now, rfl, t3.e1, t3.r1, G, by omega, by omega, n1, n2, fun H4 y ay hE4 h4 s4 => ?_⟩
        have hD4 := t3.d1.off s4 (by simp [Ne.symm ed, dr])
        have hP4 := s4 _ _ (by simp [Ne.symm ep, pr]) hP3
        obtain ⟨dd, hd⟩ := id hD4
        o_args
        refine ⟨d, dd, _, rfl, hd, rfl, ?_⟩
        o_args
        refine ⟨d, _, _, f, x.sh k, rfl, hD4, .inl ⟨n, rfl, n1, n2, G.ready (by omega) (by omega), fun H5 z s5 az hD5 => ?_⟩⟩
        obtain rfl := ay.sh.det az
        o_args
        exact done_ B3 hP3 (S2.trans (Off.ofX (by simp) s3)) H5 y (ay.good G (by omega)) ⟨hE4.on s5 ed, hD5, s5 _ _ (Ne.symm dr) h4, ed⟩ ((s4.more (by simp)).trans (Off.ofX (by simp) s5))
    o_args
    refine brD (fun q => ?_) (fun q => ?_)
    · o_args
      exact ⟨e, d, r, a, p, x, k, now, left, rfl, t1, G, B1, hP1, pa, l0, l1, w0, w1, fun H' y now' left' g1 g2 g3 g4 g5 g6 g7 g8 g9 => kk H' y now' left' g1 g2 g3 g4 g5 g6 g7 g8 (S1.trans g9)⟩
    o_args
    refine ⟨a, _, _, _, rfl, B1, u1, u2, fun f H3 f0 B3 s3 => ?_⟩
    obtain ⟨t3, hP3⟩ := box ⟨t1, hP1⟩ s3
    have S3 := S1.trans (Off.ofX (by simp) s3)
    clear hR1 hP1
    o_args
    refine brD (fun q => ?_) (fun q => ?_)
    · o_args
      refine ⟨e, r, x, f, now, now, rfl, t3.e1, t3.r1, G, fun H4 s hs hE4 h4 s4 => ?_⟩
      have hD4 := t3.d1.off s4 (by simp [Ne.symm ed, dr])
      have hP4 := s4 _ _ (by simp [Ne.symm ep, pr]) hP3
      obtain ⟨dd, hd⟩ := id hD4
      o_args
      refine ⟨d, dd, _, rfl, hd, rfl, ?_⟩
      o_args
      refine ⟨d, x.sh k, _, now + k, rfl, hD4, u1, u2, G.w1, G.w2, fun H5 s' s5 hs' hD5 => ?_⟩
      obtain rfl := hs.det hs' u1
      o_args
      exact done_ B3 hP3 S3 H5 (x.fell now s) (Cs.fell_good G hs w0) ⟨hE4.on s5 ed, hD5, s5 _ _ (Ne.symm dr) h4, ed⟩ ((s4.more (by simp)).trans (Off.ofX (by simp) s5))
    o_args
    refine brD (fun q => ?_) (fun q => ?_)
    · o_args
      refine ⟨e, r, x, f, _, rfl, t3.e1, t3.r1, f0, fun H4 hE4 h4 s4 => ?_⟩
      have hD4 := t3.d1.off s4 (by simp [Ne.symm ed, dr])
      have hP4 := s4 _ _ (by simp [Ne.symm ep, pr]) hP3
      obtain ⟨dd, hd⟩ := id hD4
      o_args
      refine ⟨d, dd, _, rfl, hd, rfl, ?_⟩
      o_args
      refine ⟨d, x.sh k, f, _, rfl, hD4, f0, fun H5 s5 hD5 => ?_⟩
      o_args
      exact done_ B3 hP3 S3 H5 (x.gone f) (Cs.gone_good G) ⟨hE4.on s5 ed, hD5, s5 _ _ (Ne.symm dr) h4, ed⟩ ((s4.more (by simp)).trans (Off.ofX (by simp) s5))
    o_args
    refine brD (fun q => ?_) (fun q => ?_)
    · obtain ⟨de, he⟩ := t3.e1
      obtain ⟨dd, hd⟩ := t3.d1
      o_args
      refine ⟨e, de, _, rfl, he, rfl, ?_⟩
      o_args
      refine ⟨e, _, x, rfl, t3.e1, ?_⟩
      o_args
      refine ⟨d, dd, _, rfl, hd, rfl, ?_⟩
      o_args
      refine ⟨d, _, x.sh k, rfl, t3.d1, ?_⟩
      o_args
      exact done_ B3 hP3 S3 H3 x G t3 Off.refl
    o_args
    refine ⟨a, rfl, B3, fun b H4 hb B4 s4 => ?_⟩
    obtain ⟨t4, hP4⟩ := box ⟨t3, hP3⟩ s4
    clear hP3
    o_args
    refine ⟨e, b, f, _, x, rfl, t4.e1, hb, fun H5 s5 => ?_⟩
    have t5 := t4.off (l := []) (Off.of s5) (by simp) (by simp) (by simp)
    have hP5 := s5 _ _ hP4
    o_args
    refine ⟨d, b, f, _, x.sh k, rfl, t5.d1, hb.same s5, fun H6 s6 => ?_⟩
    have t6 := t5.off (l := []) (Off.of s6) (by simp) (by simp) (by simp)
    exact done_ (B4.same (s5.trans s6)) (s6 _ _ hP5) ((S3.trans (Off.ofX (by simp) s4)).trans (Off.of (s5.trans s6))) H6 x G t6 Off.refl
/-! ### what was made, one by one -/
structure Alive (l : List Addr) (H : Hp) : Prop where
  nd : l.Nodup
  at_ : ∀ a ∈ l, ∃ o, H a = some o
theorem Alive.nil {H : Hp} : Alive [] H := ⟨List.nodup_nil, fun a h => absurd h List.not_mem_nil⟩
theorem Alive.same {l : List Addr} {H H' : Hp} (A : Alive l H) (s : Same H H') : Alive l H' := ⟨A.nd, fun a h => (A.at_ a h).elim fun o e => ⟨o, s _ _ e⟩⟩
theorem Alive.ne {l : List Addr} {H : Hp} {b : Addr} (A : Alive l H) (hb : H b = none) : b ∉ l := fun h => by
  obtain ⟨o, e⟩ := A.at_ b h
  rw [hb] at e
  cases e
theorem Alive.cons {l : List Addr} {H H' : Hp} {b : Addr} {o : HO} (A : Alive l H) (hb : H b = none) (s : Same H H') (h : H' b = some o) : Alive (b :: l) H' :=
  ⟨List.nodup_cons.mpr ⟨A.ne hb, A.nd⟩, fun a ha => by
    rcases List.mem_cons.mp ha with e | ha
    · exact ⟨o, e ▸ h⟩
    · exact (A.same s).at_ a ha⟩
theorem made_same {H H' : Hp} {x dx C : Addr} (hx : H x = none) (hdx : H dx = none) (s : SameX x (upd (upd H dx (.own x)) x (.ins C dx [])) H') : Same H H' := fun b o eb => s b o (ne_of_none eb hx) (by rw [upd_ne (ne_of_none eb hx), upd_ne (ne_of_none eb hdx)]; exact eb)
theorem Off.same {l : List Addr} {H H1 H2 : Hp} {b : Addr} (s : Same H H1) (o : SameX b H1 H2) (h : b ∈ l) : Off l H H2 := (Off.of s).trans (Off.ofX h o)
theorem notin {a b : Addr} {big l : List Addr} (h : a ∉ big) (n : a ≠ b) (sub : ∀ x ∈ l, x = b ∨ x ∈ big) : a ∉ l := fun m => by
  rcases sub a m with e | e
  · exact n e
  · exact h e
theorem ne_in {a b : Addr} {big : List Addr} (h : a ∉ big) (m : b ∈ big) : a ≠ b := fun e => h (e ▸ m)
/-! ### range of two, a comprehension whose list's place is told -/
theorem x_for2 {ta : TA} {g : TG} {ts : TS} {D : Ends} {σ : L2.St} {H : Hp} (q : ta σ H fun vs H1 => ∃ i j : Int, vs = [.int i, .int j] ∧ (-(2 ^ 62) ≤ i ∧ i < 2 ^ 62 ∧ -(2 ^ 62) ≤ j ∧ j < 2 ^ 62) ∧ forK (Itr i (j - i).toNat) g ts D σ H1) : tFor (iRng2 ta) g ts D σ H := q
/-- lc_lstN, the made list's place told -/
theorem lc_lstD {K : PySem.W.Frag} {a : Addr} {xs : List V} {te tel : TE} {σ : L2.St} {H : Hp} {Q : VK} {j : Nat} (P : Addr → Nat → List V → Hp → Prop) (hte : ∀ R' : VK, R' (.ref a) H → te σ H R') (hS : SqL K H a xs) (hz : xs.length < 100000) (h0 : ∀ D H', P D 0 [] H')
    (hw : ∀ D H1 H2 i vs, SameX D H1 H2 → P D i vs H1 → P D i vs H2)
    (hs : ∀ D i x vs H', xs[i]? = some x → Same H H' → P D i vs H' → vs.length = i → H D = none → (∃ o, H' D = some o) → ∀ Qe : VK, (∀ v H'', Same H' H'' → P D (i + 1) (vs ++ [v]) H'' → Qe v H'') → tel ((σ.set j none).set j (some x)) H' Qe)
    (hd : ∀ D vs H', H D = none → vs.length = xs.length → P D xs.length vs H' → H' D = some (.lst vs) → Same H H' → Q (.ref D) H') : tLc (iList K te) (gName j) tYes tel [j] σ H Q := by
  refine hte _ ⟨a, rfl, ⟨_, hS⟩, fun D hD => lc_list (K := K) (a := a) (xs := xs) (fun i H' => ∃ vs : List V, vs.length = i ∧ P D i vs H' ∧ H' D = some (.lst vs) ∧ SameX D H H') ⟨[], rfl, h0 _ _, upd_same, SameX.upd⟩ (fun i H' _ ⟨_, _, _, _, h⟩ => (Same.ofX hD h).seq hS) ?_ ?_⟩
  · rintro i x H' hi ⟨vs, hl, hr, h1, h2⟩
    refine ⟨?_, ?_⟩
    · show ((((σ.set j none).set j (some x)).set j none) = σ.set j none)
      rw [List.set_set, List.set_set]
    dsimp only [tYes]
    rw [if_pos rfl]
    have S0 := Same.ofX hD h2
    refine hs D i x vs H' hi S0 hr hl hD ⟨_, h1⟩ _ fun v H'' s2 r => ⟨vs, s2 _ _ h1, ?_, vs ++ [v], ?_, hw D H'' _ _ _ SameX.upd r, upd_same, (h2.trans (SameX.of s2)).upd'⟩
    · have := getq_lt hi
      exact Nat.lt_of_lt_of_le (show vs.length < 100000 by omega) (by decide)
    · rw [List.length_append, hl]; rfl
  · rintro H' ⟨vs, hl, hr, h1, h2⟩
    exact hd D vs H' hD hl hr h1 (Same.ofX hD h2)
theorem seqA {K : PySem.W.Frag} {H H' : Hp} {a : Addr} {xs : List V} (h : SqL K H a xs) (k : ∀ o, H a = some o → H' a = some o) : SqL K H' a xs := by
  rcases h with (h | ⟨o, h⟩) | h
  · exact .inl (.inl (k _ h))
  · exact .inl (.inr ⟨o, k _ h⟩)
  · exact .inr h
/-! ### the law -/
def sp__law_all_hold (C : Addr) : Sp := fun vs H Q _ => ∃ (L1 L2 L3 e0 d0 r0 e1 d1 r1 : Addr) (x y : Cs) (k : Int), vs = [.ref L1, .ref L2, .ref L3, .int k] ∧ H L1 = some (.lst [.ref e0, .ref e1]) ∧ H L2 = some (.lst [.ref d0, .ref d1]) ∧ H L3 = some (.lst [.ref r0, .ref r1]) ∧
  Trio C e0 d0 r0 x k H ∧ Trio C e1 d1 r1 y k H ∧ Q (.bl true) H
theorem ok__law_all_hold (T : Txt K mg) : FnOk P w K mg base CX0 5 T.a__law_all_hold T.fd__law_all_hold ["controls", "twins", "states", "shift"] (sp__law_all_hold T.c_Curve) := by
  have S := sc__law_all_hold
  refine T.F__law_all_hold.ok S (fun vs H Q E h => ?_) (fun cdv A outer s H vs Q E hr h => ?_)
  · obtain ⟨L1, L2, L3, e0, d0, r0, e1, d1, r1, x, y, k, rfl, _⟩ := h
    rfl
  · obtain ⟨L1, L2, L3, e0, d0, r0, e1, d1, r1, x, y, k, rfl, l1, l2, l3, t, s', kk⟩ := h
    refine ⟨_, (pss_cons (ps_for PassesOwn.never rfl (pi_range1 (by rfl) T.b_range (pa_cons pe_int pa_nil)) (pg_name (i := 4) S.nd rfl (Or.inl rfl)) (pss_one (ps_if (PW.pt (pw_or (pt_not (pt_val (pe_call (ok__law_holds T) (hr.mono (by decide)) rfl T.g__law_holds T.F__law_holds.kp T.B__law_holds .nil pass0 (pa_cons (pe_ix ix_list (pv 0) (pv 4) (fun _ _ => rfl)) (pa_cons (pe_ix ix_list (pv 2) (pv 4) (fun _ _ => rfl)) (pa_cons pe_int pa_nil)))))) (pw_or1 (pt_not (pt_val (pe_call (ok__law_holds T) (hr.mono (by decide)) rfl T.g__law_holds T.F__law_holds.kp T.B__law_holds .nil pass0 (pa_cons (pe_ix ix_list (pv 1) (pv 4) (fun _ _ => rfl)) (pa_cons (pe_ix ix_list (pv 2) (pv 4) (fun _ _ => rfl)) (pa_cons (pv 3) pa_nil))))))))) (pss_one (ps_ret pe_bl)) pss_nil)))
      (pss_one (ps_ret pe_bl))), ?_⟩
    refine st__law_all_hold ?_
    o_args
    refine rngF (n := 2) (by decide) (by decide) (for_rangeK (lo := 0) (n := (2 : Int).toNat) (fun i σ H' => ∃ v1, σ = [some (.ref L1), some (.ref L2), some (.ref L3), some (.int k), v1] ∧ H' = H) ⟨none, rfl, rfl⟩ ?_ ?_)
    · rintro i σ H15 hi ⟨v, rfl, rfl⟩
      have hi : i < 2 := hi
      match i, hi with
      | 0, _ =>
        o_args
        refine ⟨e0, r0, x, 0, rfl, by rw [Cs.sh_zero]; exact t.e1, t.r1, ?_⟩
        o_args
        refine ⟨d0, r0, x, k, rfl, t.d1, t.r1, ?_⟩
        o_args
        exact ⟨_, rfl, rfl⟩
      | 1, _ =>
        o_args
        refine ⟨e1, r1, y, 0, rfl, by rw [Cs.sh_zero]; exact s'.e1, s'.r1, ?_⟩
        o_args
        refine ⟨d1, r1, y, k, rfl, s'.d1, s'.r1, ?_⟩
        o_args
        exact ⟨_, rfl, rfl⟩
    · rintro σ H15 ⟨v, rfl, rfl⟩
      o_args
      exact kk
structure Duo (C e0 d0 r0 e1 d1 r1 p L1 L2 L3 : Addr) (x y : Cs) (k now left : Int) (H : Hp) : Prop where
  t : Trio C e0 d0 r0 x k H
  s : Trio C e1 d1 r1 y k H
  gx : x.Good now
  gy : y.Good now
  hp : H p = some (.lst [.int now, .int left, .int k])
  f0 : 0 ≤ left
  f1 : left ≤ 140
  w0 : 0 ≤ now
  l1 : H L1 = some (.lst [.ref e0, .ref e1])
  l2 : H L2 = some (.lst [.ref d0, .ref d1])
  l3 : H L3 = some (.lst [.ref r0, .ref r1])
  nd : [L3, r1, r0, L2, d1, d0, L1, e1, e0, p].Nodup
theorem Duo.go0 {C e0 d0 r0 e1 d1 r1 p L1 L2 L3 b : Addr} {x y x' : Cs} {k now left now' left' : Int} {H H' : Hp} (D : Duo C e0 d0 r0 e1 d1 r1 p L1 L2 L3 x y k now left H) (nb : b ∉ [L3, r1, r0, L2, d1, d0, L1, e1, e0, p]) (o : Off [e0, d0, r0, b, p] H H') (g : x'.Good now') (t : Trio C e0 d0 r0 x' k H')
    (hp : H' p = some (.lst [.int now', .int left', .int k])) (f0 : 0 ≤ left') (f1 : left' ≤ 140) (le : now ≤ now') : Duo C e0 d0 r0 e1 d1 r1 p L1 L2 L3 x' y k now' left' H' := by
  have nd := D.nd
  have w0 := D.w0
  exact ⟨t, D.s.off o (by (simp only [List.nodup_cons, List.mem_cons, List.not_mem_nil, or_false, not_or, List.nodup_nil, and_true, not_false_eq_true, ne_eq] at nd nb ⊢; grind only)) (by (simp only [List.nodup_cons, List.mem_cons, List.not_mem_nil, or_false, not_or, List.nodup_nil, and_true, not_false_eq_true, ne_eq] at nd nb ⊢; grind only)) (by (simp only [List.nodup_cons, List.mem_cons, List.not_mem_nil, or_false, not_or, List.nodup_nil, and_true, not_false_eq_true, ne_eq] at nd nb ⊢; grind only)), g, D.gy.mono le, hp, f0, f1, by omega, o _ _ (by (simp only [List.nodup_cons, List.mem_cons, List.not_mem_nil, or_false, not_or, List.nodup_nil, and_true, not_false_eq_true, ne_eq] at nd nb ⊢; grind only)) D.l1, o _ _ (by (simp only [List.nodup_cons, List.mem_cons, List.not_mem_nil, or_false, not_or, List.nodup_nil, and_true, not_false_eq_true, ne_eq] at nd nb ⊢; grind only)) D.l2, o _ _ (by (simp only [List.nodup_cons, List.mem_cons, List.not_mem_nil, or_false, not_or, List.nodup_nil, and_true, not_false_eq_true, ne_eq] at nd nb ⊢; grind only)) D.l3, nd⟩
theorem Duo.go1 {C e0 d0 r0 e1 d1 r1 p L1 L2 L3 b : Addr} {x y y' : Cs} {k now left now' left' : Int} {H H' : Hp} (D : Duo C e0 d0 r0 e1 d1 r1 p L1 L2 L3 x y k now left H) (nb : b ∉ [L3, r1, r0, L2, d1, d0, L1, e1, e0, p]) (o : Off [e1, d1, r1, b, p] H H') (g : y'.Good now') (t : Trio C e1 d1 r1 y' k H')
    (hp : H' p = some (.lst [.int now', .int left', .int k])) (f0 : 0 ≤ left') (f1 : left' ≤ 140) (le : now ≤ now') : Duo C e0 d0 r0 e1 d1 r1 p L1 L2 L3 x y' k now' left' H' := by
  have nd := D.nd
  have w0 := D.w0
  exact ⟨D.t.off o (by (simp only [List.nodup_cons, List.mem_cons, List.not_mem_nil, or_false, not_or, List.nodup_nil, and_true, not_false_eq_true, ne_eq] at nd nb ⊢; grind only)) (by (simp only [List.nodup_cons, List.mem_cons, List.not_mem_nil, or_false, not_or, List.nodup_nil, and_true, not_false_eq_true, ne_eq] at nd nb ⊢; grind only)) (by (simp only [List.nodup_cons, List.mem_cons, List.not_mem_nil, or_false, not_or, List.nodup_nil, and_true, not_false_eq_true, ne_eq] at nd nb ⊢; grind only)), t, D.gx.mono le, g, hp, f0, f1, by omega, o _ _ (by (simp only [List.nodup_cons, List.mem_cons, List.not_mem_nil, or_false, not_or, List.nodup_nil, and_true, not_false_eq_true, ne_eq] at nd nb ⊢; grind only)) D.l1, o _ _ (by (simp only [List.nodup_cons, List.mem_cons, List.not_mem_nil, or_false, not_or, List.nodup_nil, and_true, not_false_eq_true, ne_eq] at nd nb ⊢; grind only)) D.l2, o _ _ (by (simp only [List.nodup_cons, List.mem_cons, List.not_mem_nil, or_false, not_or, List.nodup_nil, and_true, not_false_eq_true, ne_eq] at nd nb ⊢; grind only)) D.l3, nd⟩
theorem Duo.off {C e0 d0 r0 e1 d1 r1 p L1 L2 L3 : Addr} {x y : Cs} {k now left : Int} {l : List Addr} {H H' : Hp} (D : Duo C e0 d0 r0 e1 d1 r1 p L1 L2 L3 x y k now left H) (o : Off l H H') (n : ∀ a ∈ [L3, r1, r0, L2, d1, d0, L1, e1, e0, p], a ∉ l) : Duo C e0 d0 r0 e1 d1 r1 p L1 L2 L3 x y k now left H' :=
  ⟨D.t.off o (n _ (by simp)) (n _ (by simp)) (n _ (by simp)), D.s.off o (n _ (by simp)) (n _ (by simp)) (n _ (by simp)), D.gx, D.gy, o _ _ (n _ (by simp)) D.hp, D.f0, D.f1, D.w0, o _ _ (n _ (by simp)) D.l1, o _ _ (n _ (by simp)) D.l2, o _ _ (n _ (by simp)) D.l3, D.nd⟩
theorem Duo.same {C e0 d0 r0 e1 d1 r1 p L1 L2 L3 : Addr} {x y : Cs} {k now left : Int} {H H' : Hp} (D : Duo C e0 d0 r0 e1 d1 r1 p L1 L2 L3 x y k now left H) (s : Same H H') : Duo C e0 d0 r0 e1 d1 r1 p L1 L2 L3 x y k now left H' := D.off (l := []) (Off.of s) (by simp)
theorem Duo.box {C e0 d0 r0 e1 d1 r1 p L1 L2 L3 b : Addr} {x y : Cs} {k now left : Int} {H H' : Hp} (D : Duo C e0 d0 r0 e1 d1 r1 p L1 L2 L3 x y k now left H) (nb : b ∉ [L3, r1, r0, L2, d1, d0, L1, e1, e0, p]) (s : SameX b H H') : Duo C e0 d0 r0 e1 d1 r1 p L1 L2 L3 x y k now left H' :=
  D.off (l := [b]) (Off.ofX (by simp) s) (fun a ha h => nb (by rw [List.mem_singleton] at h; exact h ▸ ha))
theorem Duo.tick {C e0 d0 r0 e1 d1 r1 p L1 L2 L3 : Addr} {x y : Cs} {k now left now' : Int} {H H' : Hp} (D : Duo C e0 d0 r0 e1 d1 r1 p L1 L2 L3 x y k now left H) (o : SameX p H H') (hp : H' p = some (.lst [.int now', .int left, .int k])) (le : now ≤ now') : Duo C e0 d0 r0 e1 d1 r1 p L1 L2 L3 x y k now' left H' := by
  have nd := D.nd
  have w0 := D.w0
  have o : Off [p] H H' := Off.ofX (by simp) o
  exact ⟨D.t.off o (by (simp only [List.nodup_cons, List.mem_cons, List.not_mem_nil, or_false, not_or, List.nodup_nil, and_true, not_false_eq_true, ne_eq] at nd ⊢; grind only)) (by (simp only [List.nodup_cons, List.mem_cons, List.not_mem_nil, or_false, not_or, List.nodup_nil, and_true, not_false_eq_true, ne_eq] at nd ⊢; grind only)) (by (simp only [List.nodup_cons, List.mem_cons, List.not_mem_nil, or_false, not_or, List.nodup_nil, and_true, not_false_eq_true, ne_eq] at nd ⊢; grind only)), D.s.off o (by (simp only [List.nodup_cons, List.mem_cons, List.not_mem_nil, or_false, not_or, List.nodup_nil, and_true, not_false_eq_true, ne_eq] at nd ⊢; grind only)) (by (simp only [List.nodup_cons, List.mem_cons, List.not_mem_nil, or_false, not_or, List.nodup_nil, and_true, not_false_eq_true, ne_eq] at nd ⊢; grind only)) (by (simp only [List.nodup_cons, List.mem_cons, List.not_mem_nil, or_false, not_or, List.nodup_nil, and_true, not_false_eq_true, ne_eq] at nd ⊢; grind only)), D.gx.mono le, D.gy.mono le, hp, D.f0, D.f1, by omega, o _ _ (by (simp only [List.nodup_cons, List.mem_cons, List.not_mem_nil, or_false, not_or, List.nodup_nil, and_true, not_false_eq_true, ne_eq] at nd ⊢; grind only)) D.l1, o _ _ (by (simp only [List.nodup_cons, List.mem_cons, List.not_mem_nil, or_false, not_or, List.nodup_nil, and_true, not_false_eq_true, ne_eq] at nd ⊢; grind only)) D.l2, o _ _ (by (simp only [List.nodup_cons, List.mem_cons, List.not_mem_nil, or_false, not_or, List.nodup_nil, and_true, not_false_eq_true, ne_eq] at nd ⊢; grind only)) D.l3, nd⟩
theorem Duo.al {C e0 d0 r0 e1 d1 r1 p L1 L2 L3 : Addr} {x y : Cs} {k now left : Int} {H : Hp} (D : Duo C e0 d0 r0 e1 d1 r1 p L1 L2 L3 x y k now left H) : Alive [L3, r1, r0, L2, d1, d0, L1, e1, e0, p] H :=
  ⟨D.nd, fun a h => by
    obtain ⟨_, h1⟩ := D.t.e1
    obtain ⟨_, h2⟩ := D.t.d1
    obtain ⟨_, h3⟩ := D.s.e1
    obtain ⟨_, h4⟩ := D.s.d1
    simp only [List.mem_cons, List.not_mem_nil, or_false] at h
    rcases h with e | e | e | e | e | e | e | e | e | e <;> subst e
    · exact ⟨_, D.l3⟩
    · exact ⟨_, D.s.r1⟩
    · exact ⟨_, D.t.r1⟩
    · exact ⟨_, D.l2⟩
    · exact ⟨_, h4⟩
    · exact ⟨_, h2⟩
    · exact ⟨_, D.l1⟩
    · exact ⟨_, h3⟩
    · exact ⟨_, h1⟩
    · exact ⟨_, D.hp⟩⟩
def sp_law (K : PySem.W.Frag) : Sp := fun vs H Q _ => ∃ (a : Addr) (ns : List Int), vs = [.ref a] ∧ SqL K H a (ns.map V.int) ∧ ns.length ≤ 63 ∧ ∀ H', Q (.bl true) H'
set_option maxHeartbeats 0 in
theorem ok_law (T : Txt K mg) : FnOk P w K mg base CX0 12 T.a_law T.fd_law ["script"] (sp_law K) := by
  have S := sc_law
  refine T.F_law.ok S (fun vs H Q E h => ?_) (fun cdv A outer s H vs Q E hr h => ?_)
  · obtain ⟨a, ns, rfl, _⟩ := h
    rfl
  · obtain ⟨a, ns, rfl, hS, hl, k⟩ := h
    refine ⟨_, (pss_cons (ps_set (i := 1) S.nd rfl (Or.inl rfl) (pe_call (ok__law_box T) (hr.mono (by decide)) rfl T.g__law_box T.F__law_box.kp T.B__law_box .nil pass0 (pa_cons (pe_call (ok__law_cell T) (hr.mono (by decide)) rfl T.g__law_cell T.F__law_cell.kp T.B__law_cell .nil pass0 (pa_cons (pv 0) (pa_cons pe_int pa_nil))) pa_nil)))
      (pss_cons (ps_set (i := 2) S.nd rfl (Or.inl rfl) (pe_lst (pa_cons (pe_call (ok__law_unit T) (hr.mono (by decide)) rfl T.g__law_unit T.F__law_unit.kp T.B__law_unit .nil pass0 (pa_cons (pv 1) pa_nil)) (pa_cons (pe_call (ok__law_unit T) (hr.mono (by decide)) rfl T.g__law_unit T.F__law_unit.kp T.B__law_unit .nil pass0 (pa_cons (pv 1) pa_nil)) pa_nil))))
      (pss_cons (ps_set (i := 3) S.nd rfl (Or.inl rfl) (pe_lst (pa_cons pe_int (pa_cons pe_int (pa_cons (pe_call (ok__law_draw T) (hr.mono (by decide)) rfl T.g__law_draw T.F__law_draw.kp T.B__law_draw .nil pass0 (pa_cons (pv 1) (pa_cons (pe_op op_add (pe_op op_pow pe_int pe_int) pe_int) pa_nil))) pa_nil)))))
      (pss_cons (ps_set (i := 4) S.nd rfl (Or.inl rfl) (pe_lst (pa_cons (pe_make T.M_Curve (ok_Curve_init_ T) (hr.mono (by decide)) rfl T.g_Curve T.B_Curve_init_ .nil passL (pa_cons (pe_ix ix_list (pv 2) pe_int (fun _ _ => rfl)) pa_nil)) (pa_cons (pe_make T.M_Curve (ok_Curve_init_ T) (hr.mono (by decide)) rfl T.g_Curve T.B_Curve_init_ .nil passL (pa_cons (pe_ix ix_list (pv 2) pe_int (fun _ _ => rfl)) pa_nil)) pa_nil))))
      (pss_cons (ps_set (i := 5) S.nd rfl (Or.inl rfl) (pe_lst (pa_cons (pe_make T.M_Curve (ok_Curve_init_ T) (hr.mono (by decide)) rfl T.g_Curve T.B_Curve_init_ .nil passL (pa_cons (pe_ix ix_list (pv 2) pe_int (fun _ _ => rfl)) pa_nil)) (pa_cons (pe_make T.M_Curve (ok_Curve_init_ T) (hr.mono (by decide)) rfl T.g_Curve T.B_Curve_init_ .nil passL (pa_cons (pe_ix ix_list (pv 2) pe_int (fun _ _ => rfl)) pa_nil)) pa_nil))))
      (pss_cons (ps_setLc (i := 6) (own := [("unit", 10)]) (g := gName 10) (tt := tYes) rfl S.nd rfl rfl (sw_true rfl rfl rfl (by decide +kernel)) (pi_list (pv 2)) (blkOk_by (N := ["script", "box", "units", "clock", "controls", "twins", "states", "k", "who", "state", "unit"]) (sc := defScope s_law) (by decide +kernel)) (fun _ _ _ _ _ => pg_name (i := 10) S.nd rfl (Or.inl rfl)) (fun _ _ _ _ _ => pts_nil) (fun _ _ _ _ _ => (pe_lst (pa_cons (pv 10) (pa_cons (pe_op op_mul pe_int (pv 10)) (pa_cons pe_int (pa_cons pe_int (pa_cons pe_bl (pa_cons pe_int (pa_cons pe_int (pa_cons pe_non pa_nil)))))))))))
      (pss_cons (ps_if (pt_not (pt_val (pe_call (ok__law_all_hold T) (hr.mono (by decide)) rfl T.g__law_all_hold T.F__law_all_hold.kp T.B__law_all_hold .nil pass0 (pa_cons (pv 4) (pa_cons (pv 5) (pa_cons (pv 6) (pa_cons (pe_ix ix_list (pv 3) pe_int (fun _ _ => rfl)) pa_nil))))))) (pss_one (ps_ret pe_bl)) pss_nil)
      (pss_cons (ps_for PassesOwn.never rfl (pi_range2 (by rfl) T.b_range (pa_cons pe_int (pa_cons (pe_op op_add pe_int (pe_call (ok__law_rounds T) (hr.mono (by decide)) rfl T.g__law_rounds T.F__law_rounds.kp T.B__law_rounds .nil pass0 (pa_cons (pv 0) pa_nil))) pa_nil))) (pg_name (i := 7) S.nd rfl (Or.inl rfl)) (pss_cons (ps_set (i := 1) S.nd rfl (Or.inl rfl) (pe_call (ok__law_box T) (hr.mono (by decide)) rfl T.g__law_box T.F__law_box.kp T.B__law_box .nil pass0 (pa_cons (pe_call (ok__law_cell T) (hr.mono (by decide)) rfl T.g__law_cell T.F__law_cell.kp T.B__law_cell .nil pass0 (pa_cons (pv 0) (pa_cons (pv 7) pa_nil))) pa_nil)))
      (pss_cons (ps_set (i := 8) S.nd rfl (Or.inl rfl) (pe_call (ok__law_draw T) (hr.mono (by decide)) rfl T.g__law_draw T.F__law_draw.kp T.B__law_draw .nil pass0 (pa_cons (pv 1) (pa_cons pe_int pa_nil))))
      (pss_cons (ps_set (i := 9) S.nd rfl (Or.inl rfl) (pe_ix ix_list (pv 6) (pv 8) (fun _ _ => rfl)))
      (pss_cons (ps_asg (pe_call (ok__law_later T) (hr.mono (by decide)) rfl T.g__law_later T.F__law_later.kp T.B__law_later .nil pass0 (pa_cons (pv 1) (pa_cons (pe_ix ix_list (pv 3) pe_int (fun _ _ => rfl)) (pa_cons (pe_call (ok__law_meet T) (hr.mono (by decide)) rfl T.g__law_meet T.F__law_meet.kp T.B__law_meet .nil pass0 (pa_cons (pv 9) (pa_cons (pe_ix ix_list (pv 3) pe_int (fun _ _ => rfl)) pa_nil))) pa_nil)))) (pg_sub (pv 3) pe_int set_list))
      (pss_cons (ps_if (pt_not (pt_val (pe_call (ok__law_deed T) (hr.mono (by decide)) rfl T.g__law_deed T.F__law_deed.kp T.B__law_deed .nil pass0 (pa_cons (pe_ix ix_list (pv 4) (pv 8) (fun _ _ => rfl)) (pa_cons (pe_ix ix_list (pv 5) (pv 8) (fun _ _ => rfl)) (pa_cons (pv 9) (pa_cons (pv 1) (pa_cons (pv 3) pa_nil)))))))) (pss_one (ps_ret pe_bl)) pss_nil)
      (pss_cons (ps_if (PW.pt (pw_and (pt_cmpR op_gt (pe_call (ok__law_draw T) (hr.mono (by decide)) rfl T.g__law_draw T.F__law_draw.kp T.B__law_draw .nil pass0 (pa_cons (pv 1) (pa_cons pe_int pa_nil))) pe_int (nomark _)) (pw_and1 (pt_not (pt_val (pe_call (ok__law_holds T) (hr.mono (by decide)) rfl T.g__law_holds T.F__law_holds.kp T.B__law_holds .nil pass0 (pa_cons (pe_ix ix_list (pv 4) (pv 8) (fun _ _ => rfl)) (pa_cons (pv 9) (pa_cons pe_int pa_nil))))))))) (pss_one (ps_ret pe_bl)) pss_nil)
      (pss_one (ps_if (PW.pt (pw_and (pt_cmpR op_gt (pe_call (ok__law_draw T) (hr.mono (by decide)) rfl T.g__law_draw T.F__law_draw.kp T.B__law_draw .nil pass0 (pa_cons (pv 1) (pa_cons pe_int pa_nil))) pe_int (nomark _)) (pw_and1 (pt_not (pt_val (pe_call (ok__law_holds T) (hr.mono (by decide)) rfl T.g__law_holds T.F__law_holds.kp T.B__law_holds .nil pass0 (pa_cons (pe_ix ix_list (pv 5) (pv 8) (fun _ _ => rfl)) (pa_cons (pv 9) (pa_cons (pe_ix ix_list (pv 3) pe_int (fun _ _ => rfl)) pa_nil))))))))) (pss_one (ps_ret pe_bl)) pss_nil)))))))))
      (pss_one (ps_ret (pe_call (ok__law_all_hold T) (hr.mono (by decide)) rfl T.g__law_all_hold T.F__law_all_hold.kp T.B__law_all_hold .nil pass0 (pa_cons (pv 4) (pa_cons (pv 5) (pa_cons (pv 6) (pa_cons (pe_ix ix_list (pv 3) pe_int (fun _ _ => rfl)) pa_nil))))))))))))))), ?_⟩
    refine st_law ?_
    o_args
    refine ⟨a, ns, _, rfl, hS, Int.le_refl 0, fun c H1 s1 => ?_⟩
    o_args
    refine ⟨c, rfl, fun b H2 nb s2 B2 => ?_⟩
    o_args
    refine ⟨b, rfl, B2, fun u0 H3 u01 u02 B3 s3 => ?_⟩
    o_args
    refine ⟨b, rfl, B3, fun u1 H4 u11 u12 B4 s4 => ?_⟩
    o_args
    refine newList (by simp) fun U H5 nU s5 h5 => ?_
    have B5 := B4.same s5
    o_args
    refine ⟨b, _, rfl, B5, by decide, by decide, fun sh H5' sh0 sh1 B5' s5' => ?_⟩
    have U5 : H5' U = some (.lst [.int u0, .int u1]) := s5' _ _ (B5.ne h5) h5
    o_args
    refine newList (by simp) fun p H6 np s6 h6 => ?_
    have A6 : Alive [p] H6 := Alive.nil.cons np s6 h6
    have U6 := s6 _ _ U5
    have kA6 : ∀ o, H a = some o → H6 a = some o ∧ a ≠ p := fun o ho => by
      have f1 := s1 _ _ ho
      have nab := ne_of_none f1 nb
      have f5 := s5' _ _ nab (s5 _ _ (s4 _ _ nab (s3 _ _ nab (s2 _ _ f1))))
      exact ⟨s6 _ _ f5, ne_of_none f5 np⟩
    clear h5 U5
    o_args
    intro e0 q0 ne0 nq0 nd0
    refine ⟨e0, q0, u0, rfl, upd_same, u01, u02, fun H7 s7 c7 => ⟨rfl, ?_⟩⟩
    have S7 := made_same ne0 nq0 s7
    have A7 : Alive [e0, p] H7 := by obtain ⟨_, h⟩ := id c7; exact A6.cons ne0 S7 h
    have U7 := S7 _ _ U6
    clear U6
    o_args
    intro e1 q1 ne1 nq1 nd1
    refine ⟨e1, q1, u1, rfl, upd_same, u11, u12, fun H8 s8 c8 => ⟨rfl, ?_⟩⟩
    have S8 := made_same ne1 nq1 s8
    have A8 : Alive [e1, e0, p] H8 := by obtain ⟨_, h⟩ := id c8; exact A7.cons ne1 S8 h
    have U8 := S8 _ _ U7
    clear U7
    o_args
    refine newList (by simp) fun L1 H9 nL1 s9 h9 => ?_
    have A9 : Alive [L1, e1, e0, p] H9 := A8.cons nL1 s9 h9
    have U9 := s9 _ _ U8
    clear U8
    o_args
    intro d0 q2 nd2 nq2 nz2
    refine ⟨d0, q2, u0, rfl, upd_same, u01, u02, fun H10 s10 c10 => ⟨rfl, ?_⟩⟩
    have S10 := made_same nd2 nq2 s10
    have A10 : Alive [d0, L1, e1, e0, p] H10 := by obtain ⟨_, h⟩ := id c10; exact A9.cons nd2 S10 h
    have U10 := S10 _ _ U9
    clear U9
    o_args
    intro d1 q3 nd3 nq3 nz3
    refine ⟨d1, q3, u1, rfl, upd_same, u11, u12, fun H11 s11 c11 => ⟨rfl, ?_⟩⟩
    have S11 := made_same nd3 nq3 s11
    have A11 : Alive [d1, d0, L1, e1, e0, p] H11 := by obtain ⟨_, h⟩ := id c11; exact A10.cons nd3 S11 h
    have U11 := S11 _ _ U10
    clear U10
    o_args
    refine newList (by simp) fun L2 H12 nL2 s12 h12 => ?_
    have A12 : Alive [L2, d1, d0, L1, e1, e0, p] H12 := A11.cons nL2 s12 h12
    have U12 := s12 _ _ U11
    clear U11
    o_args
    refine lc_lstD (K := K) (fun D i vs H' => ∃ rs : List Addr, vs = rs.map V.ref ∧ rs.length = i ∧ Alive rs H' ∧ (∀ r ∈ rs, H12 r = none ∧ r ≠ D) ∧ ∀ (j : Nat) r u, rs[j]? = some r → [u0, u1][j]? = some u → H' r = some (.lst (Cs.row ⟨u, 2 * u, 4194304, 0, false, 0, 0, none⟩))) (fun R q => ⟨_, rfl, q⟩) (SqL.of U12) (by simp)
      (fun D H' => ⟨[], rfl, rfl, Alive.nil, fun e he => absurd he List.not_mem_nil, fun j e x he => by cases he⟩)
      (fun D H1 H2 i vs s ⟨rs, x1, x2, x3, x4, x5⟩ => ⟨rs, x1, x2, ⟨x3.nd, fun r hr => (x3.at_ r hr).elim fun o h => ⟨o, s _ _ (x4 r hr).2 h⟩⟩, x4, fun j r u h1 h2 => s _ _ (x4 r (List.mem_of_getElem? h1)).2 (x5 j r u h1 h2)⟩)
      (fun D i x vs H' hi s hv hvl hD hDo Qe q => ?_) (fun L3 vs H13 nL3 hl3 hv hL3 s13 => ?_)
    · obtain ⟨u, hu, hux⟩ : ∃ u : Int, x = .int u ∧ [u0, u1][i]? = some u := by
        match i, hi with
        | 0, hi => cases hi; exact ⟨_, rfl, rfl⟩
        | 1, hi => cases hi; exact ⟨_, rfl, rfl⟩
      subst hu
      obtain ⟨rs, rfl, x2, x3, x4, x5⟩ := hv
      o_args
      refine newList (by simp) fun r H14 nr s14 h14 => ?_
      have nrs := x3.ne nr
      refine q _ _ s14 ⟨rs ++ [r], by simp, by simp [x2], ⟨?_, ?_⟩, ?_, ?_⟩
      · exact List.nodup_append.mpr ⟨x3.nd, by simp, fun f hf g hg e => nrs (by rw [List.mem_singleton] at hg; rw [← hg, ← e]; exact hf)⟩
      · intro f hf
        rcases List.mem_append.mp hf with h | h
        · exact (x3.same s14).at_ f h
        · rw [List.mem_singleton.mp h]
          exact ⟨_, h14⟩
      · intro f hf
        rcases List.mem_append.mp hf with h | h
        · exact x4 f h
        · rw [List.mem_singleton.mp h]
          exact ⟨none_of s nr, hDo.elim fun o ho => (ne_of_none ho nr).symm⟩
      · intro j r' u' h1 h2
        rcases getq_app h1 with ⟨_, h⟩ | ⟨hj, h⟩
        · exact s14 _ _ (x5 j r' u' h h2)
        · rw [h, h14]
          rw [x2] at hj
          rw [hj, hux] at h2
          cases h2
          rfl
    obtain ⟨rs, rfl, x2, x3, x4, x5⟩ := hv
    obtain ⟨r0, r1, rfl⟩ : ∃ r0 r1, rs = [r0, r1] := len2 x2
    have w0 := x5 0 r0 u0 rfl rfl
    have w1 := x5 1 r1 u1 rfl rfl
    have A13 := A12.same s13
    have D : Duo T.c_Curve e0 d0 r0 e1 d1 r1 p L1 L2 L3 ⟨u0, 2 * u0, 4194304, 0, false, 0, 0, none⟩ ⟨u1, 2 * u1, 4194304, 0, false, 0, 0, none⟩ sh 0 140 H13 := by
      have g : ∀ u : Int, 1 ≤ u → u ≤ 65535 → (⟨u, 2 * u, 4194304, 0, false, 0, 0, none⟩ : Cs).Good 0 := fun u h1 h2 => ⟨h1, h2, by show 1 ≤ 2 * u; omega, by show 2 * u ≤ 4194304; omega, Int.le_refl 0, Int.le_refl 0, by show (0 : Int) ≤ 536870912; decide, fun b e => by cases e⟩
      have n0 := (x4 r0 (by simp))
      have n1 := (x4 r1 (by simp))
      have m3 := A12.ne nL3
      have nd' : r1 ≠ r0 := fun e => by have := x3.nd; rw [e] at this; simp at this
      have A14 := (A12.cons (H' := upd H12 r0 (.lst [])) n0.1 (Same.new n0.1) upd_same)
      have hnd : [L3, r1, r0, L2, d1, d0, L1, e1, e0, p].Nodup := by
        refine List.nodup_cons.mpr ⟨?_, List.nodup_cons.mpr ⟨?_, A14.nd⟩⟩
        · intro h
          rcases List.mem_cons.mp h with e | h
          · exact n1.2 e.symm
          · rcases List.mem_cons.mp h with e | h
            · exact n0.2 e.symm
            · exact m3 h
        · intro h
          rcases List.mem_cons.mp h with e | h
          · exact nd' e
          · exact A12.ne n1.1 h
      refine ⟨⟨?_, ?_, w0, ?_⟩, ⟨?_, ?_, w1, ?_⟩, g u0 u01 u02, g u1 u11 u12, ?_, by decide, by decide, by decide, ?_, s13 _ _ h12, hL3, hnd⟩
      · exact (((((c7.same S8).same s9).same S10).same S11).same s12).same s13
      · exact ((c10.same S11).same s12).same s13
      · have nd := hnd
        clear n0 n1 m3
        (simp only [List.nodup_cons, List.mem_cons, List.not_mem_nil, or_false, not_or, List.nodup_nil, and_true, not_false_eq_true, ne_eq] at nd ⊢; grind only)
      · exact ((((c8.same s9).same S10).same S11).same s12).same s13
      · exact (c11.same s12).same s13
      · have nd := hnd
        clear n0 n1 m3
        (simp only [List.nodup_cons, List.mem_cons, List.not_mem_nil, or_false, not_or, List.nodup_nil, and_true, not_false_eq_true, ne_eq] at nd ⊢; grind only)
      · exact s13 _ _ (s12 _ _ (S11 _ _ (S10 _ _ (s9 _ _ (S8 _ _ (S7 _ _ h6))))))
      · exact s13 _ _ (s12 _ _ (S11 _ _ (S10 _ _ h9)))
    have kA0 : ∀ o, H a = some o → H13 a = some o ∧ a ∉ [L3, r1, r0, L2, d1, d0, L1, e1, e0, p] := fun o ho => by
      obtain ⟨f6, n6⟩ := kA6 o ho
      have f7 := S7 _ _ f6
      have f8 := S8 _ _ f7
      have f9 := s9 _ _ f8
      have f10 := S10 _ _ f9
      have f11 := S11 _ _ f10
      have f12 := s12 _ _ f11
      have g1 := ne_of_none f6 ne0
      have g2 := ne_of_none f7 ne1
      have g3 := ne_of_none f8 nL1
      have g4 := ne_of_none f9 nd2
      have g5 := ne_of_none f10 nd3
      have g6 := ne_of_none f11 nL2
      have g7 := ne_of_none f12 nL3
      have g8 := ne_of_none f12 (x4 r0 (by simp)).1
      have g9 := ne_of_none f12 (x4 r1 (by simp)).1
      exact ⟨s13 _ _ f12, by simp only [List.mem_cons, List.not_mem_nil, or_false, not_or]; exact ⟨g7, g9, g8, g6, g5, g4, g3, g2, g1, n6⟩⟩
    have hp13 := D.hp
    o_args
    refine ⟨L1, L2, L3, e0, d0, r0, e1, d1, r1, _, _, sh, rfl, D.l1, D.l2, D.l3, D.t, D.s, ?_⟩
    clear hp13
    o_args
    refine x_for2 ?_
    o_args
    refine ⟨a, _, rfl, seqA hS fun o ho => (kA0 o ho).1, fun n n1 n2 => ?_⟩
    o_args
    refine ⟨1, 1 + n, rfl, ⟨by omega, by omega, by omega, by omega⟩, ?_⟩
    have kN : ∀ o, H a = some o → a ∉ [L3, r1, r0, L2, d1, d0, L1, e1, e0, p] := fun o ho => (kA0 o ho).2
    refine for_rangeK (lo := 1) (n := (1 + n - 1).toNat) (fun i σ H' => ∃ bx v1 v2 v3 x y now left, σ = [some (.ref a), bx, some (.ref U), some (.ref p), some (.ref L1), some (.ref L2), some (.ref L3), v1, v2, v3, none] ∧ Duo T.c_Curve e0 d0 r0 e1 d1 r1 p L1 L2 L3 x y sh now left H' ∧ now ≤ 10 ^ 11 * (i : Int) ∧ ∀ o, H a = some o → H' a = some o) ⟨_, none, none, none, _, _, _, _, rfl, D, by omega, fun o ho => (kA0 o ho).1⟩ ?_ ?_
    · rintro i σ H14 hi ⟨bx, v1, v2, v3, x, y, now, left, rfl, D14, nw, kA⟩
      clear D
      have hi : i < 62 := by omega
      o_args
      refine ⟨a, ns, 1 + (i : Int), rfl, seqA hS kA, by omega, fun c2 H15 s15 => ?_⟩
      o_args
      refine ⟨c2, rfl, fun b H16 nb s16 B16 => ?_⟩
      have D15 := D14.same s15
      have nbl := D15.al.ne nb
      have D16 := D15.same s16
      have k16 : ∀ o, H a = some o → H16 a = some o ∧ a ≠ b := fun o ho => by
        have h := s15 _ _ (kA o ho)
        exact ⟨s16 _ _ h, ne_of_none h nb⟩
      o_args
      refine ⟨b, _, rfl, B16, by decide, by decide, fun wh H17 w0 w1 B17 s17 => ?_⟩
      have D17 := D16.box nbl s17
      have k17 : ∀ o, H a = some o → H17 a = some o ∧ a ≠ b := fun o ho => ⟨s17 _ _ (k16 o ho).2 (k16 o ho).1, (k16 o ho).2⟩
      rcases (show wh = 0 ∨ wh = 1 by omega) with rfl | rfl
      · have l3 := D17.l3
        have hp17 := D17.hp
        o_args
        refine ⟨r0, x, now, rfl, D17.t.r1, fun mt hmt => ?_⟩
        o_args
        refine ⟨b, now, mt, rfl, B17, fun t' H18 t1 t2 B18 s18 => ?_⟩
        have D18 := D17.box nbl s18
        have hp18 := D18.hp
        clear hp17 l3
        have gx := D18.gx
        have t2' : t' ≤ now + 10000000000 := by
          rcases hmt with e | ⟨bb, e1, e2⟩
          · omega
          · have := gx.bb bb e1
            have := gx.s1
            omega
        o_args
        refine setL (i := 0) hp18 (by simp) fun H19 s19 h19 => ?_
        have D19 := D18.tick s19 h19 t1
        have B19 := B18.on s19 (ne_in nbl (by simp))
        clear hp18 h19
        have k19 : ∀ o, H a = some o → H19 a = some o ∧ a ≠ b := fun o ho => ⟨s19 _ _ (ne_in (kN o ho) (by simp)) (s18 _ _ (k17 o ho).2 (k17 o ho).1), (k17 o ho).2⟩
        have l1 := D19.l1
        have l2 := D19.l2
        o_args
        refine ⟨e0, d0, r0, b, p, x, sh, t', left, rfl, D19.t, D19.gx, B19, D19.hp, (ne_in nbl (by simp)).symm, D19.f0, D19.f1, D19.w0, by omega, fun H20 z now' left' Gz tz Bz hz f0 f1 g0 g1 S20 => ?_⟩
        have D20 := D19.go0 nbl S20 Gz tz hz f0 f1 g0
        have k20 : ∀ o, H a = some o → H20 a = some o ∧ a ≠ b := fun o ho => ⟨S20 _ _ (notin (kN o ho) (k19 o ho).2 (by simp)) (k19 o ho).1, (k19 o ho).2⟩
        clear l1 l2
        o_args
        refine ⟨b, _, rfl, Bz, by decide, by decide, fun q1 H21 q11 q12 B21 s21 => ?_⟩
        have D21 := D20.box nbl s21
        have k21 : ∀ o, H a = some o → H21 a = some o ∧ a ≠ b := fun o ho => ⟨s21 _ _ (k20 o ho).2 (k20 o ho).1, (k20 o ho).2⟩
        have l1 := D21.l1
        have l2 := D21.l2
        have hp21 := D21.hp
        have fin2 : ∀ H' bx' v1' v2' v3', Duo T.c_Curve e0 d0 r0 e1 d1 r1 p L1 L2 L3 z y sh now' left' H' → (∀ o, H a = some o → H' a = some o) → ∃ bx v1 v2 v3 x y now left, [some (V.ref a), bx', some (.ref U), some (.ref p), some (.ref L1), some (.ref L2), some (.ref L3), v1', v2', v3', none] = [some (.ref a), bx, some (.ref U), some (.ref p), some (.ref L1), some (.ref L2), some (.ref L3), v1, v2, v3, none] ∧ Duo T.c_Curve e0 d0 r0 e1 d1 r1 p L1 L2 L3 x y sh now left H' ∧ now ≤ 10 ^ 11 * ((i + 1 : Nat) : Int) ∧ ∀ o, H a = some o → H' a = some o :=
          fun H' bx' v1' v2' v3' hD hk => ⟨bx', v1', v2', v3', z, y, now', left', rfl, hD, by omega, hk⟩
        have step2 : ∀ (H' : Hp) (P : Prop), Duo T.c_Curve e0 d0 r0 e1 d1 r1 p L1 L2 L3 z y sh now' left' H' → P → P := fun _ _ _ h => h
        o_args
        refine brD (fun q => ?_) (fun q => ?_)
        · o_args
          refine ⟨e0, r0, z, 0, rfl, by rw [Cs.sh_zero]; exact D21.t.e1, D21.t.r1, ?_⟩
          o_args
          refine ⟨b, _, rfl, B21, by decide, by decide, fun q2 H22 q21 q22 B22 s22 => ?_⟩
          have D22 := D21.box nbl s22
          clear l1 l2 hp21
          have l1 := D22.l1
          have l2 := D22.l2
          have hp22 := D22.hp
          have k22 : ∀ o, H a = some o → H22 a = some o := fun o ho => s22 _ _ (k21 o ho).2 (k21 o ho).1
          o_args
          refine brD (fun q => ?_) (fun q => ?_)
          · o_args
            refine ⟨d0, r0, z, sh, rfl, D22.t.d1, D22.t.r1, ?_⟩
            o_args
            exact fin2 _ _ _ _ _ D22 k22
          · o_args
            exact fin2 _ _ _ _ _ D22 k22
        · o_args
          refine ⟨b, _, rfl, B21, by decide, by decide, fun q2 H22 q21 q22 B22 s22 => ?_⟩
          have D22 := D21.box nbl s22
          clear l1 l2 hp21
          have l1 := D22.l1
          have l2 := D22.l2
          have hp22 := D22.hp
          have k22 : ∀ o, H a = some o → H22 a = some o := fun o ho => s22 _ _ (k21 o ho).2 (k21 o ho).1
          o_args
          refine brD (fun q => ?_) (fun q => ?_)
          · o_args
            refine ⟨d0, r0, z, sh, rfl, D22.t.d1, D22.t.r1, ?_⟩
            o_args
            exact fin2 _ _ _ _ _ D22 k22
          · o_args
            exact fin2 _ _ _ _ _ D22 k22
      · have l3 := D17.l3
        have hp17 := D17.hp
        o_args
        refine ⟨r1, y, now, rfl, D17.s.r1, fun mt hmt => ?_⟩
        o_args
        refine ⟨b, now, mt, rfl, B17, fun t' H18 t1 t2 B18 s18 => ?_⟩
        have D18 := D17.box nbl s18
        have hp18 := D18.hp
        clear hp17 l3
        have gx := D18.gy
        have t2' : t' ≤ now + 10000000000 := by
          rcases hmt with e | ⟨bb, e1, e2⟩
          · omega
          · have := gx.bb bb e1
            have := gx.s1
            omega
        o_args
        refine setL (i := 0) hp18 (by simp) fun H19 s19 h19 => ?_
        have D19 := D18.tick s19 h19 t1
        have B19 := B18.on s19 (ne_in nbl (by simp))
        clear hp18 h19
        have k19 : ∀ o, H a = some o → H19 a = some o ∧ a ≠ b := fun o ho => ⟨s19 _ _ (ne_in (kN o ho) (by simp)) (s18 _ _ (k17 o ho).2 (k17 o ho).1), (k17 o ho).2⟩
        have l1 := D19.l1
        have l2 := D19.l2
        o_args
        refine ⟨e1, d1, r1, b, p, y, sh, t', left, rfl, D19.s, D19.gy, B19, D19.hp, (ne_in nbl (by simp)).symm, D19.f0, D19.f1, D19.w0, by omega, fun H20 z now' left' Gz tz Bz hz f0 f1 g0 g1 S20 => ?_⟩
        have D20 := D19.go1 nbl S20 Gz tz hz f0 f1 g0
        have k20 : ∀ o, H a = some o → H20 a = some o ∧ a ≠ b := fun o ho => ⟨S20 _ _ (notin (kN o ho) (k19 o ho).2 (by simp)) (k19 o ho).1, (k19 o ho).2⟩
        clear l1 l2
        o_args
        refine ⟨b, _, rfl, Bz, by decide, by decide, fun q1 H21 q11 q12 B21 s21 => ?_⟩
        have D21 := D20.box nbl s21
        have k21 : ∀ o, H a = some o → H21 a = some o ∧ a ≠ b := fun o ho => ⟨s21 _ _ (k20 o ho).2 (k20 o ho).1, (k20 o ho).2⟩
        have l1 := D21.l1
        have l2 := D21.l2
        have hp21 := D21.hp
        have fin2 : ∀ H' bx' v1' v2' v3', Duo T.c_Curve e0 d0 r0 e1 d1 r1 p L1 L2 L3 x z sh now' left' H' → (∀ o, H a = some o → H' a = some o) → ∃ bx v1 v2 v3 x y now left, [some (V.ref a), bx', some (.ref U), some (.ref p), some (.ref L1), some (.ref L2), some (.ref L3), v1', v2', v3', none] = [some (.ref a), bx, some (.ref U), some (.ref p), some (.ref L1), some (.ref L2), some (.ref L3), v1, v2, v3, none] ∧ Duo T.c_Curve e0 d0 r0 e1 d1 r1 p L1 L2 L3 x y sh now left H' ∧ now ≤ 10 ^ 11 * ((i + 1 : Nat) : Int) ∧ ∀ o, H a = some o → H' a = some o :=
          fun H' bx' v1' v2' v3' hD hk => ⟨bx', v1', v2', v3', x, z, now', left', rfl, hD, by omega, hk⟩
        have step2 : ∀ (H' : Hp) (P : Prop), Duo T.c_Curve e0 d0 r0 e1 d1 r1 p L1 L2 L3 x z sh now' left' H' → P → P := fun _ _ _ h => h
        o_args
        refine brD (fun q => ?_) (fun q => ?_)
        · o_args
          refine ⟨e1, r1, z, 0, rfl, by rw [Cs.sh_zero]; exact D21.s.e1, D21.s.r1, ?_⟩
          o_args
          refine ⟨b, _, rfl, B21, by decide, by decide, fun q2 H22 q21 q22 B22 s22 => ?_⟩
          have D22 := D21.box nbl s22
          clear l1 l2 hp21
          have l1 := D22.l1
          have l2 := D22.l2
          have hp22 := D22.hp
          have k22 : ∀ o, H a = some o → H22 a = some o := fun o ho => s22 _ _ (k21 o ho).2 (k21 o ho).1
          o_args
          refine brD (fun q => ?_) (fun q => ?_)
          · o_args
            refine ⟨d1, r1, z, sh, rfl, D22.s.d1, D22.s.r1, ?_⟩
            o_args
            exact fin2 _ _ _ _ _ D22 k22
          · o_args
            exact fin2 _ _ _ _ _ D22 k22
        · o_args
          refine ⟨b, _, rfl, B21, by decide, by decide, fun q2 H22 q21 q22 B22 s22 => ?_⟩
          have D22 := D21.box nbl s22
          clear l1 l2 hp21
          have l1 := D22.l1
          have l2 := D22.l2
          have hp22 := D22.hp
          have k22 : ∀ o, H a = some o → H22 a = some o := fun o ho => s22 _ _ (k21 o ho).2 (k21 o ho).1
          o_args
          refine brD (fun q => ?_) (fun q => ?_)
          · o_args
            refine ⟨d1, r1, z, sh, rfl, D22.s.d1, D22.s.r1, ?_⟩
            o_args
            exact fin2 _ _ _ _ _ D22 k22
          · o_args
            exact fin2 _ _ _ _ _ D22 k22
    · rintro σ H14 ⟨bx, v1, v2, v3, x, y, now, left, rfl, D14, nw, kA⟩
      have hp14 := D14.hp
      o_args
      exact ⟨L1, L2, L3, e0, d0, r0, e1, d1, r1, _, _, sh, rfl, D14.l1, D14.l2, D14.l3, D14.t, D14.s, k _⟩
end
set_option maxHeartbeats 0 in
theorem all_mk {l : PySem.W.OpenLaw} [SupP l.prog] {w : World} {K : PySem.W.Frag} {h : Heap} {mg : Str → Option Value} {fa : Addr} (X : K.In h) (G : h.Ns mainGlobals mg) (hfa : mg "law" = some (.ref fa))
    {c_Control c_Climb c_Curve c_LossError c_InvalidNumber c_InvalidSetting a_InvalidNumber_init_ a_InvalidSetting_init_ a_is_integer a_is_between a_require_new_bytes a_Control_init_ a_Control_starting p_Control_starting a_Control_on_ack a_Control_on_expiry a_Control_on_sample a_Control_set_window a_Climb_on_ack cda_Climb_on_ack cc_Climb_on_ack a_Climb_grow a_Climb_step a_Climb_on_expiry cda_Climb_on_expiry cc_Climb_on_expiry a_Climb_on_sample cda_Climb_on_sample cc_Climb_on_sample a_Curve_init_ cda_Curve_init_ cc_Curve_init_ a_Curve_on_ack cda_Curve_on_ack cc_Curve_on_ack a_Curve_grow cda_Curve_grow cc_Curve_grow a_Curve_on_loss a_Curve_span_to a_Curve_on_expiry cda_Curve_on_expiry cc_Curve_on_expiry a_Curve_on_sample cda_Curve_on_sample cc_Curve_on_sample a__law_cell a__law_rounds a__law_box a__law_draw a__law_unit a__law_count a__law_load a__law_later a__law_bad a__law_refused a__law_whole a__law_truth a__law_base a__law_grown a__law_follow a__law_holds a__law_follows a__law_acked a__law_many a__law_lost a__law_expired a__law_deed a__law_meet a__law_all_hold a_law : Addr}
    {od_InvalidNumber_init_ an_InvalidNumber_init_ od_InvalidSetting_init_ an_InvalidSetting_init_ od_is_integer an_is_integer od_is_between an_is_between od_require_new_bytes an_require_new_bytes od_Control_init_ an_Control_init_ od_Control_starting an_Control_starting od_Control_on_ack an_Control_on_ack od_Control_on_expiry an_Control_on_expiry od_Control_on_sample an_Control_on_sample od_Control_set_window an_Control_set_window od_Climb_on_ack an_Climb_on_ack od_Climb_grow an_Climb_grow od_Climb_step an_Climb_step od_Climb_on_expiry an_Climb_on_expiry od_Climb_on_sample an_Climb_on_sample od_Curve_init_ an_Curve_init_ od_Curve_on_ack an_Curve_on_ack od_Curve_grow an_Curve_grow od_Curve_on_loss an_Curve_on_loss od_Curve_span_to an_Curve_span_to od_Curve_on_expiry an_Curve_on_expiry od_Curve_on_sample an_Curve_on_sample od__law_cell an__law_cell od__law_rounds an__law_rounds od__law_box an__law_box od__law_draw an__law_draw od__law_unit an__law_unit od__law_count an__law_count od__law_load an__law_load od__law_later an__law_later od__law_bad an__law_bad od__law_refused an__law_refused od__law_whole an__law_whole od__law_truth an__law_truth od__law_base an__law_base od__law_grown an__law_grown od__law_follow an__law_follow od__law_holds an__law_holds od__law_follows an__law_follows od__law_acked an__law_acked od__law_many an__law_many od__law_lost an__law_lost od__law_expired an__law_expired od__law_deed an__law_deed od__law_meet an__law_meet od__law_all_hold an__law_all_hold od_law an_law : Option Addr} {sl_InvalidNumber_init_ sl_InvalidSetting_init_ sl_is_integer sl_is_between sl_require_new_bytes sl_Control_init_ sl_Control_starting sl_Control_on_ack sl_Control_on_expiry sl_Control_on_sample sl_Control_set_window sl_Climb_on_ack sl_Climb_grow sl_Climb_step sl_Climb_on_expiry sl_Climb_on_sample sl_Curve_init_ sl_Curve_on_ack sl_Curve_grow sl_Curve_on_loss sl_Curve_span_to sl_Curve_on_expiry sl_Curve_on_sample sl__law_cell sl__law_rounds sl__law_box sl__law_draw sl__law_unit sl__law_count sl__law_load sl__law_later sl__law_bad sl__law_refused sl__law_whole sl__law_truth sl__law_base sl__law_grown sl__law_follow sl__law_holds sl__law_follows sl__law_acked sl__law_many sl__law_lost sl__law_expired sl__law_deed sl__law_meet sl__law_all_hold sl_law : Array (Option Value)}
    {gl_Climb_on_ack hl_Climb_on_ack gl_Climb_on_expiry hl_Climb_on_expiry gl_Climb_on_sample hl_Climb_on_sample gl_Curve_init_ hl_Curve_init_ gl_Curve_on_ack hl_Curve_on_ack gl_Curve_grow hl_Curve_grow gl_Curve_on_expiry hl_Curve_on_expiry gl_Curve_on_sample hl_Curve_on_sample : Value} {gd_Climb_on_ack hd'_Climb_on_ack gd_Climb_on_expiry hd'_Climb_on_expiry gd_Climb_on_sample hd'_Climb_on_sample gd_Curve_init_ hd'_Curve_init_ gd_Curve_on_ack hd'_Curve_on_ack gd_Curve_grow hd'_Curve_grow gd_Curve_on_expiry hd'_Curve_on_expiry gd_Curve_on_sample hd'_Curve_on_sample : Option Addr} {gs_Climb_on_ack hs_Climb_on_ack gs_Climb_on_expiry hs_Climb_on_expiry gs_Climb_on_sample hs_Climb_on_sample gs_Curve_init_ hs_Curve_init_ gs_Curve_on_ack hs_Curve_on_ack gs_Curve_grow hs_Curve_grow gs_Curve_on_expiry hs_Curve_on_expiry gs_Curve_on_sample hs_Curve_on_sample : Array (Option Value)} {gv_Climb_on_ack gv_Climb_on_expiry gv_Climb_on_sample gv_Curve_init_ gv_Curve_on_ack gv_Curve_grow gv_Curve_on_expiry gv_Curve_on_sample : Array Value} {gk_Climb_on_ack gk_Climb_on_expiry gk_Climb_on_sample gk_Curve_init_ gk_Curve_on_ack gk_Curve_grow gk_Curve_on_expiry gk_Curve_on_sample : Tok}
    {cD_Climb cD_Curve : ClassData}
    {oc_InvalidNumber_init_ kV_InvalidNumber_init_ dc_InvalidNumber_init_ pm_InvalidNumber_init_ cd_InvalidNumber_init_ ct_InvalidNumber_init_ oc_InvalidSetting_init_ kV_InvalidSetting_init_ dc_InvalidSetting_init_ pm_InvalidSetting_init_ cd_InvalidSetting_init_ ct_InvalidSetting_init_ oc_is_integer kV_is_integer dc_is_integer pm_is_integer cd_is_integer ct_is_integer oc_is_between kV_is_between dc_is_between pm_is_between cd_is_between ct_is_between oc_require_new_bytes kV_require_new_bytes dc_require_new_bytes pm_require_new_bytes cd_require_new_bytes ct_require_new_bytes oc_Control_init_ kV_Control_init_ dc_Control_init_ pm_Control_init_ cd_Control_init_ ct_Control_init_ oc_Control_starting kV_Control_starting dc_Control_starting pm_Control_starting cd_Control_starting ct_Control_starting oc_Control_on_ack kV_Control_on_ack dc_Control_on_ack pm_Control_on_ack cd_Control_on_ack ct_Control_on_ack oc_Control_on_expiry kV_Control_on_expiry dc_Control_on_expiry pm_Control_on_expiry cd_Control_on_expiry ct_Control_on_expiry oc_Control_on_sample kV_Control_on_sample dc_Control_on_sample pm_Control_on_sample cd_Control_on_sample ct_Control_on_sample oc_Control_set_window kV_Control_set_window dc_Control_set_window pm_Control_set_window cd_Control_set_window ct_Control_set_window oc_Climb_on_ack kV_Climb_on_ack dc_Climb_on_ack pm_Climb_on_ack ct_Climb_on_ack oc_Climb_grow kV_Climb_grow dc_Climb_grow pm_Climb_grow cd_Climb_grow ct_Climb_grow oc_Climb_step kV_Climb_step dc_Climb_step pm_Climb_step cd_Climb_step ct_Climb_step oc_Climb_on_expiry kV_Climb_on_expiry dc_Climb_on_expiry pm_Climb_on_expiry ct_Climb_on_expiry oc_Climb_on_sample kV_Climb_on_sample dc_Climb_on_sample pm_Climb_on_sample ct_Climb_on_sample oc_Curve_init_ kV_Curve_init_ dc_Curve_init_ pm_Curve_init_ ct_Curve_init_ oc_Curve_on_ack kV_Curve_on_ack dc_Curve_on_ack pm_Curve_on_ack ct_Curve_on_ack oc_Curve_grow kV_Curve_grow dc_Curve_grow pm_Curve_grow ct_Curve_grow oc_Curve_on_loss kV_Curve_on_loss dc_Curve_on_loss pm_Curve_on_loss cd_Curve_on_loss ct_Curve_on_loss oc_Curve_span_to kV_Curve_span_to dc_Curve_span_to pm_Curve_span_to cd_Curve_span_to ct_Curve_span_to oc_Curve_on_expiry kV_Curve_on_expiry dc_Curve_on_expiry pm_Curve_on_expiry ct_Curve_on_expiry oc_Curve_on_sample kV_Curve_on_sample dc_Curve_on_sample pm_Curve_on_sample ct_Curve_on_sample oc__law_cell kV__law_cell dc__law_cell pm__law_cell cd__law_cell ct__law_cell oc__law_rounds kV__law_rounds dc__law_rounds pm__law_rounds cd__law_rounds ct__law_rounds oc__law_box kV__law_box dc__law_box pm__law_box cd__law_box ct__law_box oc__law_draw kV__law_draw dc__law_draw pm__law_draw cd__law_draw ct__law_draw oc__law_unit kV__law_unit dc__law_unit pm__law_unit cd__law_unit ct__law_unit oc__law_count kV__law_count dc__law_count pm__law_count cd__law_count ct__law_count oc__law_load kV__law_load dc__law_load pm__law_load cd__law_load ct__law_load oc__law_later kV__law_later dc__law_later pm__law_later cd__law_later ct__law_later oc__law_bad kV__law_bad dc__law_bad pm__law_bad cd__law_bad ct__law_bad oc__law_refused kV__law_refused dc__law_refused pm__law_refused cd__law_refused ct__law_refused oc__law_whole kV__law_whole dc__law_whole pm__law_whole cd__law_whole ct__law_whole oc__law_truth kV__law_truth dc__law_truth pm__law_truth cd__law_truth ct__law_truth oc__law_base kV__law_base dc__law_base pm__law_base cd__law_base ct__law_base oc__law_grown kV__law_grown dc__law_grown pm__law_grown cd__law_grown ct__law_grown oc__law_follow kV__law_follow dc__law_follow pm__law_follow cd__law_follow ct__law_follow oc__law_holds kV__law_holds dc__law_holds pm__law_holds cd__law_holds ct__law_holds oc__law_follows kV__law_follows dc__law_follows pm__law_follows cd__law_follows ct__law_follows oc__law_acked kV__law_acked dc__law_acked pm__law_acked cd__law_acked ct__law_acked oc__law_many kV__law_many dc__law_many pm__law_many cd__law_many ct__law_many oc__law_lost kV__law_lost dc__law_lost pm__law_lost cd__law_lost ct__law_lost oc__law_expired kV__law_expired dc__law_expired pm__law_expired cd__law_expired ct__law_expired oc__law_deed kV__law_deed dc__law_deed pm__law_deed cd__law_deed ct__law_deed oc__law_meet kV__law_meet dc__law_meet pm__law_meet cd__law_meet ct__law_meet oc__law_all_hold kV__law_all_hold dc__law_all_hold pm__law_all_hold cd__law_all_hold ct__law_all_hold oc_law kV_law dc_law pm_law cd_law ct_law : Value}
    {u_Control_GREATEST : Value}
    {rs_Control_starting : List Value}
    {xn_InvalidNumber xq_InvalidNumber : Str} {xN_InvalidNumber : Addr} {xb_InvalidNumber xm_InvalidNumber : List Value} {xs_InvalidNumber : List Str} {xu_InvalidNumber : List Value} {xa_InvalidNumber : Bool} {xo_InvalidNumber : _} {xd_InvalidNumber : Option Addr} {x0_InvalidNumber x1_InvalidNumber x2_InvalidNumber x3_InvalidNumber x5_InvalidNumber : Option Value}
    {xn_InvalidSetting xq_InvalidSetting : Str} {xN_InvalidSetting : Addr} {xb_InvalidSetting xm_InvalidSetting : List Value} {xs_InvalidSetting : List Str} {xu_InvalidSetting : List Value} {xa_InvalidSetting : Bool} {xo_InvalidSetting : _} {xd_InvalidSetting : Option Addr} {x0_InvalidSetting x1_InvalidSetting x2_InvalidSetting x3_InvalidSetting x5_InvalidSetting : Option Value}
    (aC_Control : PySem.W.nsIn K mainGlobals "Control" = some (some (.ref c_Control)))
    (pg_Control : PySem.W.plainGet K c_Control Str.empty = true)
    (hd_Control : PySem.W.hasDictIn K c_Control = true)
    (po_Control : PySem.W.plainOver K c_Control = true)
    (sa_Control : PySem.W.findIn K (.ref c_Control) "__setattr__" = some (some (.builtin "object.__setattr__")))
    (mk_Control : PySem.W.makesIn K c_Control = true)
    (kc_Control : PySem.W.keepIn K (.ref c_Control) = true)
    (n_Control_unit : PySem.W.findIn K (.ref c_Control) "unit" = some none)
    (n_Control_window : PySem.W.findIn K (.ref c_Control) "window" = some none)
    (n_Control_threshold : PySem.W.findIn K (.ref c_Control) "threshold" = some none)
    (n_Control_credit : PySem.W.findIn K (.ref c_Control) "credit" = some none)
    (n_Control_stalled : PySem.W.findIn K (.ref c_Control) "stalled" = some none)
    (rd_Control : PySem.W.readsIn K c_Control (.type "type") = true)
    (ga_Control : PySem.W.specialIn K (.ref c_Control) "__getattribute__" = some (some (.builtin "type.__getattribute__")))
    (va_Control_GREATEST : PySem.W.findCls K (.ref c_Control) (.type "type") "GREATEST" = some (.val u_Control_GREATEST))
    (aC_Climb : PySem.W.nsIn K mainGlobals "Climb" = some (some (.ref c_Climb)))
    (pg_Climb : PySem.W.plainGet K c_Climb Str.empty = true)
    (hd_Climb : PySem.W.hasDictIn K c_Climb = true)
    (po_Climb : PySem.W.plainOver K c_Climb = true)
    (sa_Climb : PySem.W.findIn K (.ref c_Climb) "__setattr__" = some (some (.builtin "object.__setattr__")))
    (n_Climb_unit : PySem.W.findIn K (.ref c_Climb) "unit" = some none)
    (n_Climb_window : PySem.W.findIn K (.ref c_Climb) "window" = some none)
    (n_Climb_threshold : PySem.W.findIn K (.ref c_Climb) "threshold" = some none)
    (n_Climb_credit : PySem.W.findIn K (.ref c_Climb) "credit" = some none)
    (n_Climb_stalled : PySem.W.findIn K (.ref c_Climb) "stalled" = some none)
    (aC_Curve : PySem.W.nsIn K mainGlobals "Curve" = some (some (.ref c_Curve)))
    (pg_Curve : PySem.W.plainGet K c_Curve Str.empty = true)
    (hd_Curve : PySem.W.hasDictIn K c_Curve = true)
    (po_Curve : PySem.W.plainOver K c_Curve = true)
    (sa_Curve : PySem.W.findIn K (.ref c_Curve) "__setattr__" = some (some (.builtin "object.__setattr__")))
    (mk_Curve : PySem.W.makesIn K c_Curve = true)
    (kc_Curve : PySem.W.keepIn K (.ref c_Curve) = true)
    (n_Curve_unit : PySem.W.findIn K (.ref c_Curve) "unit" = some none)
    (n_Curve_window : PySem.W.findIn K (.ref c_Curve) "window" = some none)
    (n_Curve_threshold : PySem.W.findIn K (.ref c_Curve) "threshold" = some none)
    (n_Curve_credit : PySem.W.findIn K (.ref c_Curve) "credit" = some none)
    (n_Curve_stalled : PySem.W.findIn K (.ref c_Curve) "stalled" = some none)
    (n_Curve_peak : PySem.W.findIn K (.ref c_Curve) "peak" = some none)
    (n_Curve_span : PySem.W.findIn K (.ref c_Curve) "span" = some none)
    (n_Curve_born : PySem.W.findIn K (.ref c_Curve) "born" = some none)
    (aC_LossError : PySem.W.nsIn K mainGlobals "LossError" = some (some (.ref c_LossError)))
    (aC_InvalidNumber : PySem.W.nsIn K mainGlobals "InvalidNumber" = some (some (.ref c_InvalidNumber)))
    (xl_InvalidNumber : K.lookup c_InvalidNumber = some (excClassObj xn_InvalidNumber xq_InvalidNumber c_InvalidNumber xN_InvalidNumber xb_InvalidNumber xm_InvalidNumber true xs_InvalidNumber xu_InvalidNumber xa_InvalidNumber xo_InvalidNumber xd_InvalidNumber x0_InvalidNumber x1_InvalidNumber x2_InvalidNumber x3_InvalidNumber x5_InvalidNumber "ValueError.__new__"))
    (sa_InvalidNumber : PySem.W.findIn K (.ref c_InvalidNumber) "__setattr__" = some (some (.builtin "object.__setattr__")))
    (xx_InvalidNumber : PySem.W.subIn K (.ref c_InvalidNumber) (.type "BaseException") = some true)
    (xt_InvalidNumber : PySem.W.typeIn K (.ref c_InvalidNumber) = some (.type "type"))
    (xk_InvalidNumber : PySem.W.keepIn K (.ref c_InvalidNumber) = true)
    (xi_InvalidNumber : PySem.W.findIn K (.ref c_InvalidNumber) "__init__" = some (some (.ref a_InvalidNumber_init_)))
    (xg_InvalidNumber : PySem.W.findIn K (.ref c_InvalidNumber) "__getattribute__" = some (some (.builtin "BaseException.__getattribute__")))
    (xh_InvalidNumber : PySem.W.findIn K (.ref c_InvalidNumber) "__getattr__" = some none)
    (xy_InvalidNumber : PySem.W.hasDictIn K c_InvalidNumber = true)
    (xc_InvalidNumber : PySem.W.findIn K (.ref c_InvalidNumber) "__class__" = some (some (.builtin "object.__class__")))
    (xr_InvalidNumber : PySem.W.mroIn K c_InvalidNumber (.type "object") = some true)
    (nX_InvalidNumber : PySem.W.findIn K (.ref c_InvalidNumber) "number" = some none)
    (aC_InvalidSetting : PySem.W.nsIn K mainGlobals "InvalidSetting" = some (some (.ref c_InvalidSetting)))
    (xl_InvalidSetting : K.lookup c_InvalidSetting = some (excClassObj xn_InvalidSetting xq_InvalidSetting c_InvalidSetting xN_InvalidSetting xb_InvalidSetting xm_InvalidSetting true xs_InvalidSetting xu_InvalidSetting xa_InvalidSetting xo_InvalidSetting xd_InvalidSetting x0_InvalidSetting x1_InvalidSetting x2_InvalidSetting x3_InvalidSetting x5_InvalidSetting "ValueError.__new__"))
    (sa_InvalidSetting : PySem.W.findIn K (.ref c_InvalidSetting) "__setattr__" = some (some (.builtin "object.__setattr__")))
    (xx_InvalidSetting : PySem.W.subIn K (.ref c_InvalidSetting) (.type "BaseException") = some true)
    (xt_InvalidSetting : PySem.W.typeIn K (.ref c_InvalidSetting) = some (.type "type"))
    (xk_InvalidSetting : PySem.W.keepIn K (.ref c_InvalidSetting) = true)
    (xi_InvalidSetting : PySem.W.findIn K (.ref c_InvalidSetting) "__init__" = some (some (.ref a_InvalidSetting_init_)))
    (xg_InvalidSetting : PySem.W.findIn K (.ref c_InvalidSetting) "__getattribute__" = some (some (.builtin "BaseException.__getattribute__")))
    (xh_InvalidSetting : PySem.W.findIn K (.ref c_InvalidSetting) "__getattr__" = some none)
    (xy_InvalidSetting : PySem.W.hasDictIn K c_InvalidSetting = true)
    (xc_InvalidSetting : PySem.W.findIn K (.ref c_InvalidSetting) "__class__" = some (some (.builtin "object.__class__")))
    (xr_InvalidSetting : PySem.W.mroIn K c_InvalidSetting (.type "object") = some true)
    (nX_InvalidSetting : PySem.W.findIn K (.ref c_InvalidSetting) "setting" = some none)
    (x_get : PySem.W.specialIn K (.builtin "object.__class__") "__get__" = some (some (.builtin "getset_descriptor.__get__")))
    (x_tk : PySem.W.takesIn K (.builtin "object.__class__") = some true)
    (Me_InvalidNumber_InvalidNumber : PySem.W.exmOne K (.ref c_InvalidNumber) (.ref c_InvalidNumber) = some true)
    (xf_InvalidNumber_init_ : PySem.W.typeIn K (.ref a_InvalidNumber_init_) = some (.type "function"))
    (l_InvalidNumber_init_ : K.lookup a_InvalidNumber_init_ = some ⟨oc_InvalidNumber_init_, od_InvalidNumber_init_, .func (PySem.W.fnOf "__init__" "InvalidNumber.__init__" (defArgs s_InvalidNumber_init_) (defBody s_InvalidNumber_init_) (defScope s_InvalidNumber_init_) .none kV_InvalidNumber_init_ dc_InvalidNumber_init_ pm_InvalidNumber_init_ an_InvalidNumber_init_ cd_InvalidNumber_init_ ct_InvalidNumber_init_), sl_InvalidNumber_init_⟩)
    (e_InvalidNumber_init_ : PySem.W.codeIn K cd_InvalidNumber_init_ "InvalidNumber.__init__" = true)
    (k_InvalidNumber_init_ : PySem.W.keepIn K (.ref a_InvalidNumber_init_) = true)
    (xf_InvalidSetting_init_ : PySem.W.typeIn K (.ref a_InvalidSetting_init_) = some (.type "function"))
    (l_InvalidSetting_init_ : K.lookup a_InvalidSetting_init_ = some ⟨oc_InvalidSetting_init_, od_InvalidSetting_init_, .func (PySem.W.fnOf "__init__" "InvalidSetting.__init__" (defArgs s_InvalidSetting_init_) (defBody s_InvalidSetting_init_) (defScope s_InvalidSetting_init_) .none kV_InvalidSetting_init_ dc_InvalidSetting_init_ pm_InvalidSetting_init_ an_InvalidSetting_init_ cd_InvalidSetting_init_ ct_InvalidSetting_init_), sl_InvalidSetting_init_⟩)
    (e_InvalidSetting_init_ : PySem.W.codeIn K cd_InvalidSetting_init_ "InvalidSetting.__init__" = true)
    (k_InvalidSetting_init_ : PySem.W.keepIn K (.ref a_InvalidSetting_init_) = true)
    (a_is_integer' : PySem.W.nsIn K mainGlobals "is_integer" = some (some (.ref a_is_integer)))
    (l_is_integer : K.lookup a_is_integer = some ⟨oc_is_integer, od_is_integer, .func (PySem.W.fnOf "is_integer" "is_integer" (defArgs s_is_integer) (defBody s_is_integer) (defScope s_is_integer) .none kV_is_integer dc_is_integer pm_is_integer an_is_integer cd_is_integer ct_is_integer), sl_is_integer⟩)
    (e_is_integer : PySem.W.codeIn K cd_is_integer "is_integer" = true)
    (k_is_integer : PySem.W.keepIn K (.ref a_is_integer) = true)
    (a_is_between' : PySem.W.nsIn K mainGlobals "is_between" = some (some (.ref a_is_between)))
    (l_is_between : K.lookup a_is_between = some ⟨oc_is_between, od_is_between, .func (PySem.W.fnOf "is_between" "is_between" (defArgs s_is_between) (defBody s_is_between) (defScope s_is_between) .none kV_is_between dc_is_between pm_is_between an_is_between cd_is_between ct_is_between), sl_is_between⟩)
    (e_is_between : PySem.W.codeIn K cd_is_between "is_between" = true)
    (k_is_between : PySem.W.keepIn K (.ref a_is_between) = true)
    (a_require_new_bytes' : PySem.W.nsIn K mainGlobals "require_new_bytes" = some (some (.ref a_require_new_bytes)))
    (l_require_new_bytes : K.lookup a_require_new_bytes = some ⟨oc_require_new_bytes, od_require_new_bytes, .func (PySem.W.fnOf "require_new_bytes" "require_new_bytes" (defArgs s_require_new_bytes) (defBody s_require_new_bytes) (defScope s_require_new_bytes) .none kV_require_new_bytes dc_require_new_bytes pm_require_new_bytes an_require_new_bytes cd_require_new_bytes ct_require_new_bytes), sl_require_new_bytes⟩)
    (e_require_new_bytes : PySem.W.codeIn K cd_require_new_bytes "require_new_bytes" = true)
    (k_require_new_bytes : PySem.W.keepIn K (.ref a_require_new_bytes) = true)
    (a_Control_init_' : PySem.W.findIn K (.ref c_Control) "__init__" = some (some (.ref a_Control_init_)))
    (i_Control_init_ : PySem.W.isFn K (.ref a_Control_init_) = true)
    (l_Control_init_ : K.lookup a_Control_init_ = some ⟨oc_Control_init_, od_Control_init_, .func (PySem.W.fnOf "__init__" "Control.__init__" (defArgs s_Control_init_) (defBody s_Control_init_) (defScope s_Control_init_) .none kV_Control_init_ dc_Control_init_ pm_Control_init_ an_Control_init_ cd_Control_init_ ct_Control_init_), sl_Control_init_⟩)
    (e_Control_init_ : PySem.W.codeIn K cd_Control_init_ "Control.__init__" = true)
    (k_Control_init_ : PySem.W.keepIn K (.ref a_Control_init_) = true)
    (a_Control_starting' : PySem.W.findIn K (.ref c_Control) "starting" = some (some (.ref p_Control_starting)))
    (pg_Control_starting : PySem.W.specialIn K (.ref p_Control_starting) "__get__" = some (some (.builtin "property.__get__")))
    (pt_Control_starting : PySem.W.takesIn K (.ref p_Control_starting) = some true)
    (rc_Control_starting : PySem.W.recIn K p_Control_starting "property" = some (.ref a_Control_starting :: rs_Control_starting))
    (l_Control_starting : K.lookup a_Control_starting = some ⟨oc_Control_starting, od_Control_starting, .func (PySem.W.fnOf "starting" "Control.starting" (defArgs s_Control_starting) (defBody s_Control_starting) (defScope s_Control_starting) .none kV_Control_starting dc_Control_starting pm_Control_starting an_Control_starting cd_Control_starting ct_Control_starting), sl_Control_starting⟩)
    (e_Control_starting : PySem.W.codeIn K cd_Control_starting "Control.starting" = true)
    (k_Control_starting : PySem.W.keepIn K (.ref a_Control_starting) = true)
    (a_Control_on_ack' : PySem.W.findIn K (.ref c_Control) "on_ack" = some (some (.ref a_Control_on_ack)))
    (i_Control_on_ack : PySem.W.isFn K (.ref a_Control_on_ack) = true)
    (l_Control_on_ack : K.lookup a_Control_on_ack = some ⟨oc_Control_on_ack, od_Control_on_ack, .func (PySem.W.fnOf "on_ack" "Control.on_ack" (defArgs s_Control_on_ack) (defBody s_Control_on_ack) (defScope s_Control_on_ack) .none kV_Control_on_ack dc_Control_on_ack pm_Control_on_ack an_Control_on_ack cd_Control_on_ack ct_Control_on_ack), sl_Control_on_ack⟩)
    (e_Control_on_ack : PySem.W.codeIn K cd_Control_on_ack "Control.on_ack" = true)
    (k_Control_on_ack : PySem.W.keepIn K (.ref a_Control_on_ack) = true)
    (a_Control_on_expiry' : PySem.W.findIn K (.ref c_Control) "on_expiry" = some (some (.ref a_Control_on_expiry)))
    (i_Control_on_expiry : PySem.W.isFn K (.ref a_Control_on_expiry) = true)
    (l_Control_on_expiry : K.lookup a_Control_on_expiry = some ⟨oc_Control_on_expiry, od_Control_on_expiry, .func (PySem.W.fnOf "on_expiry" "Control.on_expiry" (defArgs s_Control_on_expiry) (defBody s_Control_on_expiry) (defScope s_Control_on_expiry) .none kV_Control_on_expiry dc_Control_on_expiry pm_Control_on_expiry an_Control_on_expiry cd_Control_on_expiry ct_Control_on_expiry), sl_Control_on_expiry⟩)
    (e_Control_on_expiry : PySem.W.codeIn K cd_Control_on_expiry "Control.on_expiry" = true)
    (k_Control_on_expiry : PySem.W.keepIn K (.ref a_Control_on_expiry) = true)
    (a_Control_on_sample' : PySem.W.findIn K (.ref c_Control) "on_sample" = some (some (.ref a_Control_on_sample)))
    (i_Control_on_sample : PySem.W.isFn K (.ref a_Control_on_sample) = true)
    (l_Control_on_sample : K.lookup a_Control_on_sample = some ⟨oc_Control_on_sample, od_Control_on_sample, .func (PySem.W.fnOf "on_sample" "Control.on_sample" (defArgs s_Control_on_sample) (defBody s_Control_on_sample) (defScope s_Control_on_sample) .none kV_Control_on_sample dc_Control_on_sample pm_Control_on_sample an_Control_on_sample cd_Control_on_sample ct_Control_on_sample), sl_Control_on_sample⟩)
    (e_Control_on_sample : PySem.W.codeIn K cd_Control_on_sample "Control.on_sample" = true)
    (k_Control_on_sample : PySem.W.keepIn K (.ref a_Control_on_sample) = true)
    (a_Control_set_window' : PySem.W.findIn K (.ref c_Control) "_set_window" = some (some (.ref a_Control_set_window)))
    (i_Control_set_window : PySem.W.isFn K (.ref a_Control_set_window) = true)
    (l_Control_set_window : K.lookup a_Control_set_window = some ⟨oc_Control_set_window, od_Control_set_window, .func (PySem.W.fnOf "_set_window" "Control._set_window" (defArgs s_Control_set_window) (defBody s_Control_set_window) (defScope s_Control_set_window) .none kV_Control_set_window dc_Control_set_window pm_Control_set_window an_Control_set_window cd_Control_set_window ct_Control_set_window), sl_Control_set_window⟩)
    (e_Control_set_window : PySem.W.codeIn K cd_Control_set_window "Control._set_window" = true)
    (k_Control_set_window : PySem.W.keepIn K (.ref a_Control_set_window) = true)
    (a_Climb_on_ack' : PySem.W.findIn K (.ref c_Climb) "on_ack" = some (some (.ref a_Climb_on_ack)))
    (i_Climb_on_ack : PySem.W.isFn K (.ref a_Climb_on_ack) = true)
    (l_Climb_on_ack : K.lookup a_Climb_on_ack = some ⟨oc_Climb_on_ack, od_Climb_on_ack, .func (PySem.W.fnX "on_ack" "Climb.on_ack" (defArgs s_Climb_on_ack) (defBody s_Climb_on_ack) (defScope s_Climb_on_ack) [("__class__", cc_Climb_on_ack)] .none kV_Climb_on_ack dc_Climb_on_ack pm_Climb_on_ack an_Climb_on_ack (.ref cda_Climb_on_ack) ct_Climb_on_ack), sl_Climb_on_ack⟩)
    (e_Climb_on_ack : PySem.W.codeIn K (.ref cda_Climb_on_ack) "Climb.on_ack" = true)
    (k_Climb_on_ack : PySem.W.keepIn K (.ref a_Climb_on_ack) = true)
    (lk_Climb_on_ack : K.lookup cda_Climb_on_ack = some ⟨gl_Climb_on_ack, gd_Climb_on_ack, .fields gv_Climb_on_ack, gs_Climb_on_ack⟩)
    (lx_Climb_on_ack : K.lookup cc_Climb_on_ack = some ⟨hl_Climb_on_ack, hd'_Climb_on_ack, .cell (some (.ref c_Climb)), hs_Climb_on_ack⟩)
    (a_Climb_grow' : PySem.W.findIn K (.ref c_Climb) "grow" = some (some (.ref a_Climb_grow)))
    (i_Climb_grow : PySem.W.isFn K (.ref a_Climb_grow) = true)
    (l_Climb_grow : K.lookup a_Climb_grow = some ⟨oc_Climb_grow, od_Climb_grow, .func (PySem.W.fnOf "grow" "Climb.grow" (defArgs s_Climb_grow) (defBody s_Climb_grow) (defScope s_Climb_grow) .none kV_Climb_grow dc_Climb_grow pm_Climb_grow an_Climb_grow cd_Climb_grow ct_Climb_grow), sl_Climb_grow⟩)
    (e_Climb_grow : PySem.W.codeIn K cd_Climb_grow "Climb.grow" = true)
    (k_Climb_grow : PySem.W.keepIn K (.ref a_Climb_grow) = true)
    (a_Climb_step' : PySem.W.findIn K (.ref c_Climb) "_step" = some (some (.ref a_Climb_step)))
    (i_Climb_step : PySem.W.isFn K (.ref a_Climb_step) = true)
    (l_Climb_step : K.lookup a_Climb_step = some ⟨oc_Climb_step, od_Climb_step, .func (PySem.W.fnOf "_step" "Climb._step" (defArgs s_Climb_step) (defBody s_Climb_step) (defScope s_Climb_step) .none kV_Climb_step dc_Climb_step pm_Climb_step an_Climb_step cd_Climb_step ct_Climb_step), sl_Climb_step⟩)
    (e_Climb_step : PySem.W.codeIn K cd_Climb_step "Climb._step" = true)
    (k_Climb_step : PySem.W.keepIn K (.ref a_Climb_step) = true)
    (a_Climb_on_expiry' : PySem.W.findIn K (.ref c_Climb) "on_expiry" = some (some (.ref a_Climb_on_expiry)))
    (i_Climb_on_expiry : PySem.W.isFn K (.ref a_Climb_on_expiry) = true)
    (l_Climb_on_expiry : K.lookup a_Climb_on_expiry = some ⟨oc_Climb_on_expiry, od_Climb_on_expiry, .func (PySem.W.fnX "on_expiry" "Climb.on_expiry" (defArgs s_Climb_on_expiry) (defBody s_Climb_on_expiry) (defScope s_Climb_on_expiry) [("__class__", cc_Climb_on_expiry)] .none kV_Climb_on_expiry dc_Climb_on_expiry pm_Climb_on_expiry an_Climb_on_expiry (.ref cda_Climb_on_expiry) ct_Climb_on_expiry), sl_Climb_on_expiry⟩)
    (e_Climb_on_expiry : PySem.W.codeIn K (.ref cda_Climb_on_expiry) "Climb.on_expiry" = true)
    (k_Climb_on_expiry : PySem.W.keepIn K (.ref a_Climb_on_expiry) = true)
    (lk_Climb_on_expiry : K.lookup cda_Climb_on_expiry = some ⟨gl_Climb_on_expiry, gd_Climb_on_expiry, .fields gv_Climb_on_expiry, gs_Climb_on_expiry⟩)
    (lx_Climb_on_expiry : K.lookup cc_Climb_on_expiry = some ⟨hl_Climb_on_expiry, hd'_Climb_on_expiry, .cell (some (.ref c_Climb)), hs_Climb_on_expiry⟩)
    (a_Climb_on_sample' : PySem.W.findIn K (.ref c_Climb) "on_sample" = some (some (.ref a_Climb_on_sample)))
    (i_Climb_on_sample : PySem.W.isFn K (.ref a_Climb_on_sample) = true)
    (l_Climb_on_sample : K.lookup a_Climb_on_sample = some ⟨oc_Climb_on_sample, od_Climb_on_sample, .func (PySem.W.fnX "on_sample" "Climb.on_sample" (defArgs s_Climb_on_sample) (defBody s_Climb_on_sample) (defScope s_Climb_on_sample) [("__class__", cc_Climb_on_sample)] .none kV_Climb_on_sample dc_Climb_on_sample pm_Climb_on_sample an_Climb_on_sample (.ref cda_Climb_on_sample) ct_Climb_on_sample), sl_Climb_on_sample⟩)
    (e_Climb_on_sample : PySem.W.codeIn K (.ref cda_Climb_on_sample) "Climb.on_sample" = true)
    (k_Climb_on_sample : PySem.W.keepIn K (.ref a_Climb_on_sample) = true)
    (lk_Climb_on_sample : K.lookup cda_Climb_on_sample = some ⟨gl_Climb_on_sample, gd_Climb_on_sample, .fields gv_Climb_on_sample, gs_Climb_on_sample⟩)
    (lx_Climb_on_sample : K.lookup cc_Climb_on_sample = some ⟨hl_Climb_on_sample, hd'_Climb_on_sample, .cell (some (.ref c_Climb)), hs_Climb_on_sample⟩)
    (a_Curve_init_' : PySem.W.findIn K (.ref c_Curve) "__init__" = some (some (.ref a_Curve_init_)))
    (i_Curve_init_ : PySem.W.isFn K (.ref a_Curve_init_) = true)
    (l_Curve_init_ : K.lookup a_Curve_init_ = some ⟨oc_Curve_init_, od_Curve_init_, .func (PySem.W.fnX "__init__" "Curve.__init__" (defArgs s_Curve_init_) (defBody s_Curve_init_) (defScope s_Curve_init_) [("__class__", cc_Curve_init_)] .none kV_Curve_init_ dc_Curve_init_ pm_Curve_init_ an_Curve_init_ (.ref cda_Curve_init_) ct_Curve_init_), sl_Curve_init_⟩)
    (e_Curve_init_ : PySem.W.codeIn K (.ref cda_Curve_init_) "Curve.__init__" = true)
    (k_Curve_init_ : PySem.W.keepIn K (.ref a_Curve_init_) = true)
    (lk_Curve_init_ : K.lookup cda_Curve_init_ = some ⟨gl_Curve_init_, gd_Curve_init_, .fields gv_Curve_init_, gs_Curve_init_⟩)
    (lx_Curve_init_ : K.lookup cc_Curve_init_ = some ⟨hl_Curve_init_, hd'_Curve_init_, .cell (some (.ref c_Curve)), hs_Curve_init_⟩)
    (a_Curve_on_ack' : PySem.W.findIn K (.ref c_Curve) "on_ack" = some (some (.ref a_Curve_on_ack)))
    (i_Curve_on_ack : PySem.W.isFn K (.ref a_Curve_on_ack) = true)
    (l_Curve_on_ack : K.lookup a_Curve_on_ack = some ⟨oc_Curve_on_ack, od_Curve_on_ack, .func (PySem.W.fnX "on_ack" "Curve.on_ack" (defArgs s_Curve_on_ack) (defBody s_Curve_on_ack) (defScope s_Curve_on_ack) [("__class__", cc_Curve_on_ack)] .none kV_Curve_on_ack dc_Curve_on_ack pm_Curve_on_ack an_Curve_on_ack (.ref cda_Curve_on_ack) ct_Curve_on_ack), sl_Curve_on_ack⟩)
    (e_Curve_on_ack : PySem.W.codeIn K (.ref cda_Curve_on_ack) "Curve.on_ack" = true)
    (k_Curve_on_ack : PySem.W.keepIn K (.ref a_Curve_on_ack) = true)
    (lk_Curve_on_ack : K.lookup cda_Curve_on_ack = some ⟨gl_Curve_on_ack, gd_Curve_on_ack, .fields gv_Curve_on_ack, gs_Curve_on_ack⟩)
    (lx_Curve_on_ack : K.lookup cc_Curve_on_ack = some ⟨hl_Curve_on_ack, hd'_Curve_on_ack, .cell (some (.ref c_Curve)), hs_Curve_on_ack⟩)
    (a_Curve_grow' : PySem.W.findIn K (.ref c_Curve) "grow" = some (some (.ref a_Curve_grow)))
    (i_Curve_grow : PySem.W.isFn K (.ref a_Curve_grow) = true)
    (l_Curve_grow : K.lookup a_Curve_grow = some ⟨oc_Curve_grow, od_Curve_grow, .func (PySem.W.fnX "grow" "Curve.grow" (defArgs s_Curve_grow) (defBody s_Curve_grow) (defScope s_Curve_grow) [("__class__", cc_Curve_grow)] .none kV_Curve_grow dc_Curve_grow pm_Curve_grow an_Curve_grow (.ref cda_Curve_grow) ct_Curve_grow), sl_Curve_grow⟩)
    (e_Curve_grow : PySem.W.codeIn K (.ref cda_Curve_grow) "Curve.grow" = true)
    (k_Curve_grow : PySem.W.keepIn K (.ref a_Curve_grow) = true)
    (lk_Curve_grow : K.lookup cda_Curve_grow = some ⟨gl_Curve_grow, gd_Curve_grow, .fields gv_Curve_grow, gs_Curve_grow⟩)
    (lx_Curve_grow : K.lookup cc_Curve_grow = some ⟨hl_Curve_grow, hd'_Curve_grow, .cell (some (.ref c_Curve)), hs_Curve_grow⟩)
    (a_Curve_on_loss' : PySem.W.findIn K (.ref c_Curve) "on_loss" = some (some (.ref a_Curve_on_loss)))
    (i_Curve_on_loss : PySem.W.isFn K (.ref a_Curve_on_loss) = true)
    (l_Curve_on_loss : K.lookup a_Curve_on_loss = some ⟨oc_Curve_on_loss, od_Curve_on_loss, .func (PySem.W.fnOf "on_loss" "Curve.on_loss" (defArgs s_Curve_on_loss) (defBody s_Curve_on_loss) (defScope s_Curve_on_loss) .none kV_Curve_on_loss dc_Curve_on_loss pm_Curve_on_loss an_Curve_on_loss cd_Curve_on_loss ct_Curve_on_loss), sl_Curve_on_loss⟩)
    (e_Curve_on_loss : PySem.W.codeIn K cd_Curve_on_loss "Curve.on_loss" = true)
    (k_Curve_on_loss : PySem.W.keepIn K (.ref a_Curve_on_loss) = true)
    (a_Curve_span_to' : PySem.W.findIn K (.ref c_Curve) "_span_to" = some (some (.ref a_Curve_span_to)))
    (i_Curve_span_to : PySem.W.isFn K (.ref a_Curve_span_to) = true)
    (l_Curve_span_to : K.lookup a_Curve_span_to = some ⟨oc_Curve_span_to, od_Curve_span_to, .func (PySem.W.fnOf "_span_to" "Curve._span_to" (defArgs s_Curve_span_to) (defBody s_Curve_span_to) (defScope s_Curve_span_to) .none kV_Curve_span_to dc_Curve_span_to pm_Curve_span_to an_Curve_span_to cd_Curve_span_to ct_Curve_span_to), sl_Curve_span_to⟩)
    (e_Curve_span_to : PySem.W.codeIn K cd_Curve_span_to "Curve._span_to" = true)
    (k_Curve_span_to : PySem.W.keepIn K (.ref a_Curve_span_to) = true)
    (a_Curve_on_expiry' : PySem.W.findIn K (.ref c_Curve) "on_expiry" = some (some (.ref a_Curve_on_expiry)))
    (i_Curve_on_expiry : PySem.W.isFn K (.ref a_Curve_on_expiry) = true)
    (l_Curve_on_expiry : K.lookup a_Curve_on_expiry = some ⟨oc_Curve_on_expiry, od_Curve_on_expiry, .func (PySem.W.fnX "on_expiry" "Curve.on_expiry" (defArgs s_Curve_on_expiry) (defBody s_Curve_on_expiry) (defScope s_Curve_on_expiry) [("__class__", cc_Curve_on_expiry)] .none kV_Curve_on_expiry dc_Curve_on_expiry pm_Curve_on_expiry an_Curve_on_expiry (.ref cda_Curve_on_expiry) ct_Curve_on_expiry), sl_Curve_on_expiry⟩)
    (e_Curve_on_expiry : PySem.W.codeIn K (.ref cda_Curve_on_expiry) "Curve.on_expiry" = true)
    (k_Curve_on_expiry : PySem.W.keepIn K (.ref a_Curve_on_expiry) = true)
    (lk_Curve_on_expiry : K.lookup cda_Curve_on_expiry = some ⟨gl_Curve_on_expiry, gd_Curve_on_expiry, .fields gv_Curve_on_expiry, gs_Curve_on_expiry⟩)
    (lx_Curve_on_expiry : K.lookup cc_Curve_on_expiry = some ⟨hl_Curve_on_expiry, hd'_Curve_on_expiry, .cell (some (.ref c_Curve)), hs_Curve_on_expiry⟩)
    (a_Curve_on_sample' : PySem.W.findIn K (.ref c_Curve) "on_sample" = some (some (.ref a_Curve_on_sample)))
    (i_Curve_on_sample : PySem.W.isFn K (.ref a_Curve_on_sample) = true)
    (l_Curve_on_sample : K.lookup a_Curve_on_sample = some ⟨oc_Curve_on_sample, od_Curve_on_sample, .func (PySem.W.fnX "on_sample" "Curve.on_sample" (defArgs s_Curve_on_sample) (defBody s_Curve_on_sample) (defScope s_Curve_on_sample) [("__class__", cc_Curve_on_sample)] .none kV_Curve_on_sample dc_Curve_on_sample pm_Curve_on_sample an_Curve_on_sample (.ref cda_Curve_on_sample) ct_Curve_on_sample), sl_Curve_on_sample⟩)
    (e_Curve_on_sample : PySem.W.codeIn K (.ref cda_Curve_on_sample) "Curve.on_sample" = true)
    (k_Curve_on_sample : PySem.W.keepIn K (.ref a_Curve_on_sample) = true)
    (lk_Curve_on_sample : K.lookup cda_Curve_on_sample = some ⟨gl_Curve_on_sample, gd_Curve_on_sample, .fields gv_Curve_on_sample, gs_Curve_on_sample⟩)
    (lx_Curve_on_sample : K.lookup cc_Curve_on_sample = some ⟨hl_Curve_on_sample, hd'_Curve_on_sample, .cell (some (.ref c_Curve)), hs_Curve_on_sample⟩)
    (a__law_cell' : PySem.W.nsIn K mainGlobals "_law_cell" = some (some (.ref a__law_cell)))
    (l__law_cell : K.lookup a__law_cell = some ⟨oc__law_cell, od__law_cell, .func (PySem.W.fnOf "_law_cell" "_law_cell" (defArgs s__law_cell) (defBody s__law_cell) (defScope s__law_cell) .none kV__law_cell dc__law_cell pm__law_cell an__law_cell cd__law_cell ct__law_cell), sl__law_cell⟩)
    (e__law_cell : PySem.W.codeIn K cd__law_cell "_law_cell" = true)
    (k__law_cell : PySem.W.keepIn K (.ref a__law_cell) = true)
    (a__law_rounds' : PySem.W.nsIn K mainGlobals "_law_rounds" = some (some (.ref a__law_rounds)))
    (l__law_rounds : K.lookup a__law_rounds = some ⟨oc__law_rounds, od__law_rounds, .func (PySem.W.fnOf "_law_rounds" "_law_rounds" (defArgs s__law_rounds) (defBody s__law_rounds) (defScope s__law_rounds) .none kV__law_rounds dc__law_rounds pm__law_rounds an__law_rounds cd__law_rounds ct__law_rounds), sl__law_rounds⟩)
    (e__law_rounds : PySem.W.codeIn K cd__law_rounds "_law_rounds" = true)
    (k__law_rounds : PySem.W.keepIn K (.ref a__law_rounds) = true)
    (a__law_box' : PySem.W.nsIn K mainGlobals "_law_box" = some (some (.ref a__law_box)))
    (l__law_box : K.lookup a__law_box = some ⟨oc__law_box, od__law_box, .func (PySem.W.fnOf "_law_box" "_law_box" (defArgs s__law_box) (defBody s__law_box) (defScope s__law_box) .none kV__law_box dc__law_box pm__law_box an__law_box cd__law_box ct__law_box), sl__law_box⟩)
    (e__law_box : PySem.W.codeIn K cd__law_box "_law_box" = true)
    (k__law_box : PySem.W.keepIn K (.ref a__law_box) = true)
    (a__law_draw' : PySem.W.nsIn K mainGlobals "_law_draw" = some (some (.ref a__law_draw)))
    (l__law_draw : K.lookup a__law_draw = some ⟨oc__law_draw, od__law_draw, .func (PySem.W.fnOf "_law_draw" "_law_draw" (defArgs s__law_draw) (defBody s__law_draw) (defScope s__law_draw) .none kV__law_draw dc__law_draw pm__law_draw an__law_draw cd__law_draw ct__law_draw), sl__law_draw⟩)
    (e__law_draw : PySem.W.codeIn K cd__law_draw "_law_draw" = true)
    (k__law_draw : PySem.W.keepIn K (.ref a__law_draw) = true)
    (a__law_unit' : PySem.W.nsIn K mainGlobals "_law_unit" = some (some (.ref a__law_unit)))
    (l__law_unit : K.lookup a__law_unit = some ⟨oc__law_unit, od__law_unit, .func (PySem.W.fnOf "_law_unit" "_law_unit" (defArgs s__law_unit) (defBody s__law_unit) (defScope s__law_unit) .none kV__law_unit dc__law_unit pm__law_unit an__law_unit cd__law_unit ct__law_unit), sl__law_unit⟩)
    (e__law_unit : PySem.W.codeIn K cd__law_unit "_law_unit" = true)
    (k__law_unit : PySem.W.keepIn K (.ref a__law_unit) = true)
    (a__law_count' : PySem.W.nsIn K mainGlobals "_law_count" = some (some (.ref a__law_count)))
    (l__law_count : K.lookup a__law_count = some ⟨oc__law_count, od__law_count, .func (PySem.W.fnOf "_law_count" "_law_count" (defArgs s__law_count) (defBody s__law_count) (defScope s__law_count) .none kV__law_count dc__law_count pm__law_count an__law_count cd__law_count ct__law_count), sl__law_count⟩)
    (e__law_count : PySem.W.codeIn K cd__law_count "_law_count" = true)
    (k__law_count : PySem.W.keepIn K (.ref a__law_count) = true)
    (a__law_load' : PySem.W.nsIn K mainGlobals "_law_load" = some (some (.ref a__law_load)))
    (l__law_load : K.lookup a__law_load = some ⟨oc__law_load, od__law_load, .func (PySem.W.fnOf "_law_load" "_law_load" (defArgs s__law_load) (defBody s__law_load) (defScope s__law_load) .none kV__law_load dc__law_load pm__law_load an__law_load cd__law_load ct__law_load), sl__law_load⟩)
    (e__law_load : PySem.W.codeIn K cd__law_load "_law_load" = true)
    (k__law_load : PySem.W.keepIn K (.ref a__law_load) = true)
    (a__law_later' : PySem.W.nsIn K mainGlobals "_law_later" = some (some (.ref a__law_later)))
    (l__law_later : K.lookup a__law_later = some ⟨oc__law_later, od__law_later, .func (PySem.W.fnOf "_law_later" "_law_later" (defArgs s__law_later) (defBody s__law_later) (defScope s__law_later) .none kV__law_later dc__law_later pm__law_later an__law_later cd__law_later ct__law_later), sl__law_later⟩)
    (e__law_later : PySem.W.codeIn K cd__law_later "_law_later" = true)
    (k__law_later : PySem.W.keepIn K (.ref a__law_later) = true)
    (a__law_bad' : PySem.W.nsIn K mainGlobals "_law_bad" = some (some (.ref a__law_bad)))
    (l__law_bad : K.lookup a__law_bad = some ⟨oc__law_bad, od__law_bad, .func (PySem.W.fnOf "_law_bad" "_law_bad" (defArgs s__law_bad) (defBody s__law_bad) (defScope s__law_bad) .none kV__law_bad dc__law_bad pm__law_bad an__law_bad cd__law_bad ct__law_bad), sl__law_bad⟩)
    (e__law_bad : PySem.W.codeIn K cd__law_bad "_law_bad" = true)
    (k__law_bad : PySem.W.keepIn K (.ref a__law_bad) = true)
    (a__law_refused' : PySem.W.nsIn K mainGlobals "_law_refused" = some (some (.ref a__law_refused)))
    (l__law_refused : K.lookup a__law_refused = some ⟨oc__law_refused, od__law_refused, .func (PySem.W.fnOf "_law_refused" "_law_refused" (defArgs s__law_refused) (defBody s__law_refused) (defScope s__law_refused) .none kV__law_refused dc__law_refused pm__law_refused an__law_refused cd__law_refused ct__law_refused), sl__law_refused⟩)
    (e__law_refused : PySem.W.codeIn K cd__law_refused "_law_refused" = true)
    (k__law_refused : PySem.W.keepIn K (.ref a__law_refused) = true)
    (a__law_whole' : PySem.W.nsIn K mainGlobals "_law_whole" = some (some (.ref a__law_whole)))
    (l__law_whole : K.lookup a__law_whole = some ⟨oc__law_whole, od__law_whole, .func (PySem.W.fnOf "_law_whole" "_law_whole" (defArgs s__law_whole) (defBody s__law_whole) (defScope s__law_whole) .none kV__law_whole dc__law_whole pm__law_whole an__law_whole cd__law_whole ct__law_whole), sl__law_whole⟩)
    (e__law_whole : PySem.W.codeIn K cd__law_whole "_law_whole" = true)
    (k__law_whole : PySem.W.keepIn K (.ref a__law_whole) = true)
    (a__law_truth' : PySem.W.nsIn K mainGlobals "_law_truth" = some (some (.ref a__law_truth)))
    (l__law_truth : K.lookup a__law_truth = some ⟨oc__law_truth, od__law_truth, .func (PySem.W.fnOf "_law_truth" "_law_truth" (defArgs s__law_truth) (defBody s__law_truth) (defScope s__law_truth) .none kV__law_truth dc__law_truth pm__law_truth an__law_truth cd__law_truth ct__law_truth), sl__law_truth⟩)
    (e__law_truth : PySem.W.codeIn K cd__law_truth "_law_truth" = true)
    (k__law_truth : PySem.W.keepIn K (.ref a__law_truth) = true)
    (a__law_base' : PySem.W.nsIn K mainGlobals "_law_base" = some (some (.ref a__law_base)))
    (l__law_base : K.lookup a__law_base = some ⟨oc__law_base, od__law_base, .func (PySem.W.fnOf "_law_base" "_law_base" (defArgs s__law_base) (defBody s__law_base) (defScope s__law_base) .none kV__law_base dc__law_base pm__law_base an__law_base cd__law_base ct__law_base), sl__law_base⟩)
    (e__law_base : PySem.W.codeIn K cd__law_base "_law_base" = true)
    (k__law_base : PySem.W.keepIn K (.ref a__law_base) = true)
    (a__law_grown' : PySem.W.nsIn K mainGlobals "_law_grown" = some (some (.ref a__law_grown)))
    (l__law_grown : K.lookup a__law_grown = some ⟨oc__law_grown, od__law_grown, .func (PySem.W.fnOf "_law_grown" "_law_grown" (defArgs s__law_grown) (defBody s__law_grown) (defScope s__law_grown) .none kV__law_grown dc__law_grown pm__law_grown an__law_grown cd__law_grown ct__law_grown), sl__law_grown⟩)
    (e__law_grown : PySem.W.codeIn K cd__law_grown "_law_grown" = true)
    (k__law_grown : PySem.W.keepIn K (.ref a__law_grown) = true)
    (a__law_follow' : PySem.W.nsIn K mainGlobals "_law_follow" = some (some (.ref a__law_follow)))
    (l__law_follow : K.lookup a__law_follow = some ⟨oc__law_follow, od__law_follow, .func (PySem.W.fnOf "_law_follow" "_law_follow" (defArgs s__law_follow) (defBody s__law_follow) (defScope s__law_follow) .none kV__law_follow dc__law_follow pm__law_follow an__law_follow cd__law_follow ct__law_follow), sl__law_follow⟩)
    (e__law_follow : PySem.W.codeIn K cd__law_follow "_law_follow" = true)
    (k__law_follow : PySem.W.keepIn K (.ref a__law_follow) = true)
    (a__law_holds' : PySem.W.nsIn K mainGlobals "_law_holds" = some (some (.ref a__law_holds)))
    (l__law_holds : K.lookup a__law_holds = some ⟨oc__law_holds, od__law_holds, .func (PySem.W.fnOf "_law_holds" "_law_holds" (defArgs s__law_holds) (defBody s__law_holds) (defScope s__law_holds) .none kV__law_holds dc__law_holds pm__law_holds an__law_holds cd__law_holds ct__law_holds), sl__law_holds⟩)
    (e__law_holds : PySem.W.codeIn K cd__law_holds "_law_holds" = true)
    (k__law_holds : PySem.W.keepIn K (.ref a__law_holds) = true)
    (a__law_follows' : PySem.W.nsIn K mainGlobals "_law_follows" = some (some (.ref a__law_follows)))
    (l__law_follows : K.lookup a__law_follows = some ⟨oc__law_follows, od__law_follows, .func (PySem.W.fnOf "_law_follows" "_law_follows" (defArgs s__law_follows) (defBody s__law_follows) (defScope s__law_follows) .none kV__law_follows dc__law_follows pm__law_follows an__law_follows cd__law_follows ct__law_follows), sl__law_follows⟩)
    (e__law_follows : PySem.W.codeIn K cd__law_follows "_law_follows" = true)
    (k__law_follows : PySem.W.keepIn K (.ref a__law_follows) = true)
    (a__law_acked' : PySem.W.nsIn K mainGlobals "_law_acked" = some (some (.ref a__law_acked)))
    (l__law_acked : K.lookup a__law_acked = some ⟨oc__law_acked, od__law_acked, .func (PySem.W.fnOf "_law_acked" "_law_acked" (defArgs s__law_acked) (defBody s__law_acked) (defScope s__law_acked) .none kV__law_acked dc__law_acked pm__law_acked an__law_acked cd__law_acked ct__law_acked), sl__law_acked⟩)
    (e__law_acked : PySem.W.codeIn K cd__law_acked "_law_acked" = true)
    (k__law_acked : PySem.W.keepIn K (.ref a__law_acked) = true)
    (a__law_many' : PySem.W.nsIn K mainGlobals "_law_many" = some (some (.ref a__law_many)))
    (l__law_many : K.lookup a__law_many = some ⟨oc__law_many, od__law_many, .func (PySem.W.fnOf "_law_many" "_law_many" (defArgs s__law_many) (defBody s__law_many) (defScope s__law_many) .none kV__law_many dc__law_many pm__law_many an__law_many cd__law_many ct__law_many), sl__law_many⟩)
    (e__law_many : PySem.W.codeIn K cd__law_many "_law_many" = true)
    (k__law_many : PySem.W.keepIn K (.ref a__law_many) = true)
    (a__law_lost' : PySem.W.nsIn K mainGlobals "_law_lost" = some (some (.ref a__law_lost)))
    (l__law_lost : K.lookup a__law_lost = some ⟨oc__law_lost, od__law_lost, .func (PySem.W.fnOf "_law_lost" "_law_lost" (defArgs s__law_lost) (defBody s__law_lost) (defScope s__law_lost) .none kV__law_lost dc__law_lost pm__law_lost an__law_lost cd__law_lost ct__law_lost), sl__law_lost⟩)
    (e__law_lost : PySem.W.codeIn K cd__law_lost "_law_lost" = true)
    (k__law_lost : PySem.W.keepIn K (.ref a__law_lost) = true)
    (a__law_expired' : PySem.W.nsIn K mainGlobals "_law_expired" = some (some (.ref a__law_expired)))
    (l__law_expired : K.lookup a__law_expired = some ⟨oc__law_expired, od__law_expired, .func (PySem.W.fnOf "_law_expired" "_law_expired" (defArgs s__law_expired) (defBody s__law_expired) (defScope s__law_expired) .none kV__law_expired dc__law_expired pm__law_expired an__law_expired cd__law_expired ct__law_expired), sl__law_expired⟩)
    (e__law_expired : PySem.W.codeIn K cd__law_expired "_law_expired" = true)
    (k__law_expired : PySem.W.keepIn K (.ref a__law_expired) = true)
    (a__law_deed' : PySem.W.nsIn K mainGlobals "_law_deed" = some (some (.ref a__law_deed)))
    (l__law_deed : K.lookup a__law_deed = some ⟨oc__law_deed, od__law_deed, .func (PySem.W.fnOf "_law_deed" "_law_deed" (defArgs s__law_deed) (defBody s__law_deed) (defScope s__law_deed) .none kV__law_deed dc__law_deed pm__law_deed an__law_deed cd__law_deed ct__law_deed), sl__law_deed⟩)
    (e__law_deed : PySem.W.codeIn K cd__law_deed "_law_deed" = true)
    (k__law_deed : PySem.W.keepIn K (.ref a__law_deed) = true)
    (a__law_meet' : PySem.W.nsIn K mainGlobals "_law_meet" = some (some (.ref a__law_meet)))
    (l__law_meet : K.lookup a__law_meet = some ⟨oc__law_meet, od__law_meet, .func (PySem.W.fnOf "_law_meet" "_law_meet" (defArgs s__law_meet) (defBody s__law_meet) (defScope s__law_meet) .none kV__law_meet dc__law_meet pm__law_meet an__law_meet cd__law_meet ct__law_meet), sl__law_meet⟩)
    (e__law_meet : PySem.W.codeIn K cd__law_meet "_law_meet" = true)
    (k__law_meet : PySem.W.keepIn K (.ref a__law_meet) = true)
    (a__law_all_hold' : PySem.W.nsIn K mainGlobals "_law_all_hold" = some (some (.ref a__law_all_hold)))
    (l__law_all_hold : K.lookup a__law_all_hold = some ⟨oc__law_all_hold, od__law_all_hold, .func (PySem.W.fnOf "_law_all_hold" "_law_all_hold" (defArgs s__law_all_hold) (defBody s__law_all_hold) (defScope s__law_all_hold) .none kV__law_all_hold dc__law_all_hold pm__law_all_hold an__law_all_hold cd__law_all_hold ct__law_all_hold), sl__law_all_hold⟩)
    (e__law_all_hold : PySem.W.codeIn K cd__law_all_hold "_law_all_hold" = true)
    (k__law_all_hold : PySem.W.keepIn K (.ref a__law_all_hold) = true)
    (a_law' : PySem.W.nsIn K mainGlobals "law" = some (some (.ref a_law)))
    (l_law : K.lookup a_law = some ⟨oc_law, od_law, .func (PySem.W.fnOf "law" "law" (defArgs s_law) (defBody s_law) (defScope s_law) .none kV_law dc_law pm_law an_law cd_law ct_law), sl_law⟩)
    (e_law : PySem.W.codeIn K cd_law "law" = true)
    (k_law : PySem.W.keepIn K (.ref a_law) = true)
    (ih_Curve_starting : PySem.W.findIn K (.ref c_Curve) "starting" = some (some (.ref p_Control_starting)))
    (ih_Curve_set_window : PySem.W.findIn K (.ref c_Curve) "_set_window" = some (some (.ref a_Control_set_window)))
    (ih_Curve_step : PySem.W.findIn K (.ref c_Curve) "_step" = some (some (.ref a_Climb_step)))
    (ih_Climb_init_ : PySem.W.findIn K (.ref c_Climb) "__init__" = some (some (.ref a_Control_init_)))
    (mk_Climb : PySem.W.makesIn K c_Climb = true)
    (kc_Climb : PySem.W.keepIn K (.ref c_Climb) = true)
    (ci_Climb : PySem.W.clsIn K c_Climb = some cD_Climb)
    (ci_Curve : PySem.W.clsIn K c_Curve = some cD_Curve)
    (sm_SC_Curve_Climb_on_ack : PySem.W.mroIn K c_Curve (.ref c_Climb) = some true)
    (sw_SC_Curve_Climb_on_ack : PySem.W.ks_superIn K c_Curve c_Climb "on_ack" = some (some (.ref a_Control_on_ack)))
    (st_SC_Curve_Climb_on_ack : PySem.W.typeIn K (.ref a_Control_on_ack) = some (.type "function"))
    (sf_SC_Curve_Climb_on_ack : PySem.W.fnIn K a_Control_on_ack = true)
    (sm_SC_Curve_Climb_on_expiry : PySem.W.mroIn K c_Curve (.ref c_Climb) = some true)
    (sw_SC_Curve_Climb_on_expiry : PySem.W.ks_superIn K c_Curve c_Climb "on_expiry" = some (some (.ref a_Control_on_expiry)))
    (st_SC_Curve_Climb_on_expiry : PySem.W.typeIn K (.ref a_Control_on_expiry) = some (.type "function"))
    (sf_SC_Curve_Climb_on_expiry : PySem.W.fnIn K a_Control_on_expiry = true)
    (sm_SC_Curve_Climb_on_sample : PySem.W.mroIn K c_Curve (.ref c_Climb) = some true)
    (sw_SC_Curve_Climb_on_sample : PySem.W.ks_superIn K c_Curve c_Climb "on_sample" = some (some (.ref a_Control_on_sample)))
    (st_SC_Curve_Climb_on_sample : PySem.W.typeIn K (.ref a_Control_on_sample) = some (.type "function"))
    (sf_SC_Curve_Climb_on_sample : PySem.W.fnIn K a_Control_on_sample = true)
    (sm_SC_Curve_Curve_init_ : PySem.W.mroIn K c_Curve (.ref c_Curve) = some true)
    (sw_SC_Curve_Curve_init_ : PySem.W.ks_superIn K c_Curve c_Curve "__init__" = some (some (.ref a_Control_init_)))
    (st_SC_Curve_Curve_init_ : PySem.W.typeIn K (.ref a_Control_init_) = some (.type "function"))
    (sf_SC_Curve_Curve_init_ : PySem.W.fnIn K a_Control_init_ = true)
    (sm_SC_Curve_Curve_on_ack : PySem.W.mroIn K c_Curve (.ref c_Curve) = some true)
    (sw_SC_Curve_Curve_on_ack : PySem.W.ks_superIn K c_Curve c_Curve "on_ack" = some (some (.ref a_Climb_on_ack)))
    (st_SC_Curve_Curve_on_ack : PySem.W.typeIn K (.ref a_Climb_on_ack) = some (.type "function"))
    (sf_SC_Curve_Curve_on_ack : PySem.W.fnIn K a_Climb_on_ack = true)
    (sm_SC_Curve_Curve_grow : PySem.W.mroIn K c_Curve (.ref c_Curve) = some true)
    (sw_SC_Curve_Curve_grow : PySem.W.ks_superIn K c_Curve c_Curve "grow" = some (some (.ref a_Climb_grow)))
    (st_SC_Curve_Curve_grow : PySem.W.typeIn K (.ref a_Climb_grow) = some (.type "function"))
    (sf_SC_Curve_Curve_grow : PySem.W.fnIn K a_Climb_grow = true)
    (sm_SC_Curve_Curve_on_expiry : PySem.W.mroIn K c_Curve (.ref c_Curve) = some true)
    (sw_SC_Curve_Curve_on_expiry : PySem.W.ks_superIn K c_Curve c_Curve "on_expiry" = some (some (.ref a_Climb_on_expiry)))
    (st_SC_Curve_Curve_on_expiry : PySem.W.typeIn K (.ref a_Climb_on_expiry) = some (.type "function"))
    (sf_SC_Curve_Curve_on_expiry : PySem.W.fnIn K a_Climb_on_expiry = true)
    (sm_SC_Curve_Curve_on_sample : PySem.W.mroIn K c_Curve (.ref c_Curve) = some true)
    (sw_SC_Curve_Curve_on_sample : PySem.W.ks_superIn K c_Curve c_Curve "on_sample" = some (some (.ref a_Climb_on_sample)))
    (st_SC_Curve_Curve_on_sample : PySem.W.typeIn K (.ref a_Climb_on_sample) = some (.type "function"))
    (sf_SC_Curve_Curve_on_sample : PySem.W.fnIn K a_Climb_on_sample = true)
    (sy_ : PySem.W.nsIn K PySem.cStatics "thirdparty.any" = some none)
    (z_bool : PySem.W.nsIn K mainGlobals "bool" = some none)
    (z_int : PySem.W.nsIn K mainGlobals "int" = some none)
    (z_isinstance : PySem.W.nsIn K mainGlobals "isinstance" = some none)
    (z_len : PySem.W.nsIn K mainGlobals "len" = some none)
    (z_max : PySem.W.nsIn K mainGlobals "max" = some none)
    (z_min : PySem.W.nsIn K mainGlobals "min" = some none)
    (z_property : PySem.W.nsIn K mainGlobals "property" = some none)
    (z_range : PySem.W.nsIn K mainGlobals "range" = some none)
    (z_sum : PySem.W.nsIn K mainGlobals "sum" = some none)
    (z_super : PySem.W.nsIn K mainGlobals "super" = some none)
    (xm'_InvalidNumber : PySem.HandSPX.refsVE xm_InvalidNumber = true)
    (xm'_InvalidSetting : PySem.HandSPX.refsVE xm_InvalidSetting = true)
    (w_Control_GREATEST : RelV (.int 4194304) u_Control_GREATEST)
    (gt_Climb_on_ack : gv_Climb_on_ack[2]? = some (.str "/claim/cut.py" gk_Climb_on_ack))
    (gt_Climb_on_expiry : gv_Climb_on_expiry[2]? = some (.str "/claim/cut.py" gk_Climb_on_expiry))
    (gt_Climb_on_sample : gv_Climb_on_sample[2]? = some (.str "/claim/cut.py" gk_Climb_on_sample))
    (gt_Curve_init_ : gv_Curve_init_[2]? = some (.str "/claim/cut.py" gk_Curve_init_))
    (gt_Curve_on_ack : gv_Curve_on_ack[2]? = some (.str "/claim/cut.py" gk_Curve_on_ack))
    (gt_Curve_grow : gv_Curve_grow[2]? = some (.str "/claim/cut.py" gk_Curve_grow))
    (gt_Curve_on_expiry : gv_Curve_on_expiry[2]? = some (.str "/claim/cut.py" gk_Curve_on_expiry))
    (gt_Curve_on_sample : gv_Curve_on_sample[2]? = some (.str "/claim/cut.py" gk_Curve_on_sample))
    : ∃ fd : FuncData, (∀ (s : Shared) (v : Value), BindsTo s fd ⟨[v], []⟩ [("script", v)]) ∧ ∀ base : Heap, K.In base → base.Ns mainGlobals mg → FnOk l.prog w K mg base CX0 12 fa fd ["script"] (sp_law K) := by
  have e : fa = a_law := by
    have e0 := hfa.symm.trans (PySem.W.mg_of X G a_law')
    cases e0
    rfl
  rw [e]
  have F_InvalidNumber_init_ := fun_mk (st := s_InvalidNumber_init_) l_InvalidNumber_init_ e_InvalidNumber_init_ k_InvalidNumber_init_
  have F_InvalidSetting_init_ := fun_mk (st := s_InvalidSetting_init_) l_InvalidSetting_init_ e_InvalidSetting_init_ k_InvalidSetting_init_
  have F_is_integer := fun_mk (st := s_is_integer) l_is_integer e_is_integer k_is_integer
  have F_is_between := fun_mk (st := s_is_between) l_is_between e_is_between k_is_between
  have F_require_new_bytes := fun_mk (st := s_require_new_bytes) l_require_new_bytes e_require_new_bytes k_require_new_bytes
  have F_Control_init_ := fun_mk (st := s_Control_init_) l_Control_init_ e_Control_init_ k_Control_init_
  have F_Control_starting := fun_mk (st := s_Control_starting) l_Control_starting e_Control_starting k_Control_starting
  have F_Control_on_ack := fun_mk (st := s_Control_on_ack) l_Control_on_ack e_Control_on_ack k_Control_on_ack
  have F_Control_on_expiry := fun_mk (st := s_Control_on_expiry) l_Control_on_expiry e_Control_on_expiry k_Control_on_expiry
  have F_Control_on_sample := fun_mk (st := s_Control_on_sample) l_Control_on_sample e_Control_on_sample k_Control_on_sample
  have F_Control_set_window := fun_mk (st := s_Control_set_window) l_Control_set_window e_Control_set_window k_Control_set_window
  have F_Climb_on_ack : FunC K "on_ack" "Climb.on_ack" s_Climb_on_ack a_Climb_on_ack cda_Climb_on_ack cc_Climb_on_ack _ := ⟨⟨_, _, _, _, _, _, _, _, _, rfl, l_Climb_on_ack, e_Climb_on_ack⟩, k_Climb_on_ack⟩
  have F_Climb_grow := fun_mk (st := s_Climb_grow) l_Climb_grow e_Climb_grow k_Climb_grow
  have F_Climb_step := fun_mk (st := s_Climb_step) l_Climb_step e_Climb_step k_Climb_step
  have F_Climb_on_expiry : FunC K "on_expiry" "Climb.on_expiry" s_Climb_on_expiry a_Climb_on_expiry cda_Climb_on_expiry cc_Climb_on_expiry _ := ⟨⟨_, _, _, _, _, _, _, _, _, rfl, l_Climb_on_expiry, e_Climb_on_expiry⟩, k_Climb_on_expiry⟩
  have F_Climb_on_sample : FunC K "on_sample" "Climb.on_sample" s_Climb_on_sample a_Climb_on_sample cda_Climb_on_sample cc_Climb_on_sample _ := ⟨⟨_, _, _, _, _, _, _, _, _, rfl, l_Climb_on_sample, e_Climb_on_sample⟩, k_Climb_on_sample⟩
  have F_Curve_init_ : FunC K "__init__" "Curve.__init__" s_Curve_init_ a_Curve_init_ cda_Curve_init_ cc_Curve_init_ _ := ⟨⟨_, _, _, _, _, _, _, _, _, rfl, l_Curve_init_, e_Curve_init_⟩, k_Curve_init_⟩
  have F_Curve_on_ack : FunC K "on_ack" "Curve.on_ack" s_Curve_on_ack a_Curve_on_ack cda_Curve_on_ack cc_Curve_on_ack _ := ⟨⟨_, _, _, _, _, _, _, _, _, rfl, l_Curve_on_ack, e_Curve_on_ack⟩, k_Curve_on_ack⟩
  have F_Curve_grow : FunC K "grow" "Curve.grow" s_Curve_grow a_Curve_grow cda_Curve_grow cc_Curve_grow _ := ⟨⟨_, _, _, _, _, _, _, _, _, rfl, l_Curve_grow, e_Curve_grow⟩, k_Curve_grow⟩
  have F_Curve_on_loss := fun_mk (st := s_Curve_on_loss) l_Curve_on_loss e_Curve_on_loss k_Curve_on_loss
  have F_Curve_span_to := fun_mk (st := s_Curve_span_to) l_Curve_span_to e_Curve_span_to k_Curve_span_to
  have F_Curve_on_expiry : FunC K "on_expiry" "Curve.on_expiry" s_Curve_on_expiry a_Curve_on_expiry cda_Curve_on_expiry cc_Curve_on_expiry _ := ⟨⟨_, _, _, _, _, _, _, _, _, rfl, l_Curve_on_expiry, e_Curve_on_expiry⟩, k_Curve_on_expiry⟩
  have F_Curve_on_sample : FunC K "on_sample" "Curve.on_sample" s_Curve_on_sample a_Curve_on_sample cda_Curve_on_sample cc_Curve_on_sample _ := ⟨⟨_, _, _, _, _, _, _, _, _, rfl, l_Curve_on_sample, e_Curve_on_sample⟩, k_Curve_on_sample⟩
  have F__law_cell := fun_mk (st := s__law_cell) l__law_cell e__law_cell k__law_cell
  have F__law_rounds := fun_mk (st := s__law_rounds) l__law_rounds e__law_rounds k__law_rounds
  have F__law_box := fun_mk (st := s__law_box) l__law_box e__law_box k__law_box
  have F__law_draw := fun_mk (st := s__law_draw) l__law_draw e__law_draw k__law_draw
  have F__law_unit := fun_mk (st := s__law_unit) l__law_unit e__law_unit k__law_unit
  have F__law_count := fun_mk (st := s__law_count) l__law_count e__law_count k__law_count
  have F__law_load := fun_mk (st := s__law_load) l__law_load e__law_load k__law_load
  have F__law_later := fun_mk (st := s__law_later) l__law_later e__law_later k__law_later
  have F__law_bad := fun_mk (st := s__law_bad) l__law_bad e__law_bad k__law_bad
  have F__law_refused := fun_mk (st := s__law_refused) l__law_refused e__law_refused k__law_refused
  have F__law_whole := fun_mk (st := s__law_whole) l__law_whole e__law_whole k__law_whole
  have F__law_truth := fun_mk (st := s__law_truth) l__law_truth e__law_truth k__law_truth
  have F__law_base := fun_mk (st := s__law_base) l__law_base e__law_base k__law_base
  have F__law_grown := fun_mk (st := s__law_grown) l__law_grown e__law_grown k__law_grown
  have F__law_follow := fun_mk (st := s__law_follow) l__law_follow e__law_follow k__law_follow
  have F__law_holds := fun_mk (st := s__law_holds) l__law_holds e__law_holds k__law_holds
  have F__law_follows := fun_mk (st := s__law_follows) l__law_follows e__law_follows k__law_follows
  have F__law_acked := fun_mk (st := s__law_acked) l__law_acked e__law_acked k__law_acked
  have F__law_many := fun_mk (st := s__law_many) l__law_many e__law_many k__law_many
  have F__law_lost := fun_mk (st := s__law_lost) l__law_lost e__law_lost k__law_lost
  have F__law_expired := fun_mk (st := s__law_expired) l__law_expired e__law_expired k__law_expired
  have F__law_deed := fun_mk (st := s__law_deed) l__law_deed e__law_deed k__law_deed
  have F__law_meet := fun_mk (st := s__law_meet) l__law_meet e__law_meet k__law_meet
  have F__law_all_hold := fun_mk (st := s__law_all_hold) l__law_all_hold e__law_all_hold k__law_all_hold
  have F_law := fun_mk (st := s_law) l_law e_law k_law
  let T : Txt K mg := {
    c_Control := c_Control,
    g_Control := PySem.W.mg_of X G aC_Control,
    cl_Control := ⟨pg_Control, hd_Control, po_Control, sa_Control⟩,
    n_Control_unit := n_Control_unit,
    n_Control_window := n_Control_window,
    n_Control_threshold := n_Control_threshold,
    n_Control_credit := n_Control_credit,
    n_Control_stalled := n_Control_stalled,
    mc_Control := .type "type",
    R_Control := ⟨rd_Control, ga_Control⟩,
    V_Control_GREATEST := ⟨_, va_Control_GREATEST, w_Control_GREATEST⟩,
    c_Climb := c_Climb,
    g_Climb := PySem.W.mg_of X G aC_Climb,
    cl_Climb := ⟨pg_Climb, hd_Climb, po_Climb, sa_Climb⟩,
    n_Climb_unit := n_Climb_unit,
    n_Climb_window := n_Climb_window,
    n_Climb_threshold := n_Climb_threshold,
    n_Climb_credit := n_Climb_credit,
    n_Climb_stalled := n_Climb_stalled,
    c_Curve := c_Curve,
    g_Curve := PySem.W.mg_of X G aC_Curve,
    cl_Curve := ⟨pg_Curve, hd_Curve, po_Curve, sa_Curve⟩,
    n_Curve_unit := n_Curve_unit,
    n_Curve_window := n_Curve_window,
    n_Curve_threshold := n_Curve_threshold,
    n_Curve_credit := n_Curve_credit,
    n_Curve_stalled := n_Curve_stalled,
    n_Curve_peak := n_Curve_peak,
    n_Curve_span := n_Curve_span,
    n_Curve_born := n_Curve_born,
    c_LossError := c_LossError,
    X_LossError := ⟨PySem.W.mg_of X G aC_LossError⟩,
    c_InvalidNumber := c_InvalidNumber,
    X_InvalidNumber := xcls_mk (PySem.W.mg_of X G aC_InvalidNumber) xl_InvalidNumber xm'_InvalidNumber sa_InvalidNumber xx_InvalidNumber xt_InvalidNumber xk_InvalidNumber xi_InvalidNumber xf_InvalidNumber_init_ xg_InvalidNumber xh_InvalidNumber xy_InvalidNumber xc_InvalidNumber x_get x_tk xr_InvalidNumber,
    nX_InvalidNumber := nX_InvalidNumber,
    c_InvalidSetting := c_InvalidSetting,
    X_InvalidSetting := xcls_mk (PySem.W.mg_of X G aC_InvalidSetting) xl_InvalidSetting xm'_InvalidSetting sa_InvalidSetting xx_InvalidSetting xt_InvalidSetting xk_InvalidSetting xi_InvalidSetting xf_InvalidSetting_init_ xg_InvalidSetting xh_InvalidSetting xy_InvalidSetting xc_InvalidSetting x_get x_tk xr_InvalidSetting,
    nX_InvalidSetting := nX_InvalidSetting,
    Me_InvalidNumber_InvalidNumber := Me_InvalidNumber_InvalidNumber,
    a_InvalidNumber_init_ := a_InvalidNumber_init_,
    fd_InvalidNumber_init_ := PySem.W.fnOf "__init__" "InvalidNumber.__init__" (defArgs s_InvalidNumber_init_) (defBody s_InvalidNumber_init_) (defScope s_InvalidNumber_init_) .none kV_InvalidNumber_init_ dc_InvalidNumber_init_ pm_InvalidNumber_init_ an_InvalidNumber_init_ cd_InvalidNumber_init_ ct_InvalidNumber_init_,
    F_InvalidNumber_init_ := F_InvalidNumber_init_,
    B_InvalidNumber_init_ := F_InvalidNumber_init_.binds (ps := ["self", "number"]) fun _ _ _ _ _ _ us hl => match us, hl with | [_, _], _ => rfl,
    a_InvalidSetting_init_ := a_InvalidSetting_init_,
    fd_InvalidSetting_init_ := PySem.W.fnOf "__init__" "InvalidSetting.__init__" (defArgs s_InvalidSetting_init_) (defBody s_InvalidSetting_init_) (defScope s_InvalidSetting_init_) .none kV_InvalidSetting_init_ dc_InvalidSetting_init_ pm_InvalidSetting_init_ an_InvalidSetting_init_ cd_InvalidSetting_init_ ct_InvalidSetting_init_,
    F_InvalidSetting_init_ := F_InvalidSetting_init_,
    B_InvalidSetting_init_ := F_InvalidSetting_init_.binds (ps := ["self", "setting"]) fun _ _ _ _ _ _ us hl => match us, hl with | [_, _], _ => rfl,
    a_is_integer := a_is_integer,
    fd_is_integer := PySem.W.fnOf "is_integer" "is_integer" (defArgs s_is_integer) (defBody s_is_integer) (defScope s_is_integer) .none kV_is_integer dc_is_integer pm_is_integer an_is_integer cd_is_integer ct_is_integer,
    F_is_integer := F_is_integer,
    B_is_integer := F_is_integer.binds (ps := ["value"]) fun _ _ _ _ _ _ us hl => match us, hl with | [_], _ => rfl,
    g_is_integer := PySem.W.mg_of X G a_is_integer',
    a_is_between := a_is_between,
    fd_is_between := PySem.W.fnOf "is_between" "is_between" (defArgs s_is_between) (defBody s_is_between) (defScope s_is_between) .none kV_is_between dc_is_between pm_is_between an_is_between cd_is_between ct_is_between,
    F_is_between := F_is_between,
    B_is_between := F_is_between.binds (ps := ["value", "low", "high"]) fun _ _ _ _ _ _ us hl => match us, hl with | [_, _, _], _ => rfl,
    g_is_between := PySem.W.mg_of X G a_is_between',
    a_require_new_bytes := a_require_new_bytes,
    fd_require_new_bytes := PySem.W.fnOf "require_new_bytes" "require_new_bytes" (defArgs s_require_new_bytes) (defBody s_require_new_bytes) (defScope s_require_new_bytes) .none kV_require_new_bytes dc_require_new_bytes pm_require_new_bytes an_require_new_bytes cd_require_new_bytes ct_require_new_bytes,
    F_require_new_bytes := F_require_new_bytes,
    B_require_new_bytes := F_require_new_bytes.binds (ps := ["count"]) fun _ _ _ _ _ _ us hl => match us, hl with | [_], _ => rfl,
    g_require_new_bytes := PySem.W.mg_of X G a_require_new_bytes',
    a_Control_init_ := a_Control_init_,
    fd_Control_init_ := PySem.W.fnOf "__init__" "Control.__init__" (defArgs s_Control_init_) (defBody s_Control_init_) (defScope s_Control_init_) .none kV_Control_init_ dc_Control_init_ pm_Control_init_ an_Control_init_ cd_Control_init_ ct_Control_init_,
    F_Control_init_ := F_Control_init_,
    B_Control_init_ := F_Control_init_.binds (ps := ["self", "unit"]) fun _ _ _ _ _ _ us hl => match us, hl with | [_, _], _ => rfl,
    M_Control := ⟨mk_Control, a_Control_init_', i_Control_init_, kc_Control⟩,
    a_Control_starting := a_Control_starting,
    fd_Control_starting := PySem.W.fnOf "starting" "Control.starting" (defArgs s_Control_starting) (defBody s_Control_starting) (defScope s_Control_starting) .none kV_Control_starting dc_Control_starting pm_Control_starting an_Control_starting cd_Control_starting ct_Control_starting,
    F_Control_starting := F_Control_starting,
    B_Control_starting := F_Control_starting.binds (ps := ["self"]) fun _ _ _ _ _ _ us hl => match us, hl with | [_], _ => rfl,
    p_Control_starting := p_Control_starting,
    PR_Control_starting := ⟨a_Control_starting', pg_Control_starting, pt_Control_starting, ⟨_, rc_Control_starting⟩⟩,
    a_Control_on_ack := a_Control_on_ack,
    fd_Control_on_ack := PySem.W.fnOf "on_ack" "Control.on_ack" (defArgs s_Control_on_ack) (defBody s_Control_on_ack) (defScope s_Control_on_ack) .none kV_Control_on_ack dc_Control_on_ack pm_Control_on_ack an_Control_on_ack cd_Control_on_ack ct_Control_on_ack,
    F_Control_on_ack := F_Control_on_ack,
    B_Control_on_ack := F_Control_on_ack.binds (ps := ["self", "count", "flight", "now"]) fun _ _ _ _ _ _ us hl => match us, hl with | [_, _, _, _], _ => rfl,
    m_Control_on_ack := ⟨a_Control_on_ack', i_Control_on_ack, k_Control_on_ack⟩,
    a_Control_on_expiry := a_Control_on_expiry,
    fd_Control_on_expiry := PySem.W.fnOf "on_expiry" "Control.on_expiry" (defArgs s_Control_on_expiry) (defBody s_Control_on_expiry) (defScope s_Control_on_expiry) .none kV_Control_on_expiry dc_Control_on_expiry pm_Control_on_expiry an_Control_on_expiry cd_Control_on_expiry ct_Control_on_expiry,
    F_Control_on_expiry := F_Control_on_expiry,
    B_Control_on_expiry := F_Control_on_expiry.binds (ps := ["self", "flight", "now"]) fun _ _ _ _ _ _ us hl => match us, hl with | [_, _, _], _ => rfl,
    m_Control_on_expiry := ⟨a_Control_on_expiry', i_Control_on_expiry, k_Control_on_expiry⟩,
    a_Control_on_sample := a_Control_on_sample,
    fd_Control_on_sample := PySem.W.fnOf "on_sample" "Control.on_sample" (defArgs s_Control_on_sample) (defBody s_Control_on_sample) (defScope s_Control_on_sample) .none kV_Control_on_sample dc_Control_on_sample pm_Control_on_sample an_Control_on_sample cd_Control_on_sample ct_Control_on_sample,
    F_Control_on_sample := F_Control_on_sample,
    B_Control_on_sample := F_Control_on_sample.binds (ps := ["self", "ticks"]) fun _ _ _ _ _ _ us hl => match us, hl with | [_, _], _ => rfl,
    m_Control_on_sample := ⟨a_Control_on_sample', i_Control_on_sample, k_Control_on_sample⟩,
    a_Control_set_window := a_Control_set_window,
    fd_Control_set_window := PySem.W.fnOf "_set_window" "Control._set_window" (defArgs s_Control_set_window) (defBody s_Control_set_window) (defScope s_Control_set_window) .none kV_Control_set_window dc_Control_set_window pm_Control_set_window an_Control_set_window cd_Control_set_window ct_Control_set_window,
    F_Control_set_window := F_Control_set_window,
    B_Control_set_window := F_Control_set_window.binds (ps := ["self", "window"]) fun _ _ _ _ _ _ us hl => match us, hl with | [_, _], _ => rfl,
    m_Control_set_window := ⟨a_Control_set_window', i_Control_set_window, k_Control_set_window⟩,
    a_Climb_on_ack := a_Climb_on_ack,
    fd_Climb_on_ack := _,
    cda_Climb_on_ack := cda_Climb_on_ack,
    cc_Climb_on_ack := cc_Climb_on_ack,
    F_Climb_on_ack := F_Climb_on_ack,
    SK_Climb_on_ack := ⟨⟨_, _, _, _, _, l_Climb_on_ack, rfl, rfl⟩, ⟨_, _, _, _, _, lk_Climb_on_ack, gt_Climb_on_ack⟩, ⟨_, _, _, lx_Climb_on_ack⟩, ⟨_, ci_Climb⟩⟩,
    m_Climb_on_ack := ⟨a_Climb_on_ack', i_Climb_on_ack, k_Climb_on_ack⟩,
    B_Climb_on_ack := Binds.all fun us hl => match us, hl with | [_, _, _, _], _ => rfl,
    a_Climb_grow := a_Climb_grow,
    fd_Climb_grow := PySem.W.fnOf "grow" "Climb.grow" (defArgs s_Climb_grow) (defBody s_Climb_grow) (defScope s_Climb_grow) .none kV_Climb_grow dc_Climb_grow pm_Climb_grow an_Climb_grow cd_Climb_grow ct_Climb_grow,
    F_Climb_grow := F_Climb_grow,
    B_Climb_grow := F_Climb_grow.binds (ps := ["self", "count", "now"]) fun _ _ _ _ _ _ us hl => match us, hl with | [_, _, _], _ => rfl,
    m_Climb_grow := ⟨a_Climb_grow', i_Climb_grow, k_Climb_grow⟩,
    a_Climb_step := a_Climb_step,
    fd_Climb_step := PySem.W.fnOf "_step" "Climb._step" (defArgs s_Climb_step) (defBody s_Climb_step) (defScope s_Climb_step) .none kV_Climb_step dc_Climb_step pm_Climb_step an_Climb_step cd_Climb_step ct_Climb_step,
    F_Climb_step := F_Climb_step,
    B_Climb_step := F_Climb_step.binds (ps := ["self"]) fun _ _ _ _ _ _ us hl => match us, hl with | [_], _ => rfl,
    m_Climb_step := ⟨a_Climb_step', i_Climb_step, k_Climb_step⟩,
    a_Climb_on_expiry := a_Climb_on_expiry,
    fd_Climb_on_expiry := _,
    cda_Climb_on_expiry := cda_Climb_on_expiry,
    cc_Climb_on_expiry := cc_Climb_on_expiry,
    F_Climb_on_expiry := F_Climb_on_expiry,
    SK_Climb_on_expiry := ⟨⟨_, _, _, _, _, l_Climb_on_expiry, rfl, rfl⟩, ⟨_, _, _, _, _, lk_Climb_on_expiry, gt_Climb_on_expiry⟩, ⟨_, _, _, lx_Climb_on_expiry⟩, ⟨_, ci_Climb⟩⟩,
    m_Climb_on_expiry := ⟨a_Climb_on_expiry', i_Climb_on_expiry, k_Climb_on_expiry⟩,
    B_Climb_on_expiry := Binds.all fun us hl => match us, hl with | [_, _, _], _ => rfl,
    a_Climb_on_sample := a_Climb_on_sample,
    fd_Climb_on_sample := _,
    cda_Climb_on_sample := cda_Climb_on_sample,
    cc_Climb_on_sample := cc_Climb_on_sample,
    F_Climb_on_sample := F_Climb_on_sample,
    SK_Climb_on_sample := ⟨⟨_, _, _, _, _, l_Climb_on_sample, rfl, rfl⟩, ⟨_, _, _, _, _, lk_Climb_on_sample, gt_Climb_on_sample⟩, ⟨_, _, _, lx_Climb_on_sample⟩, ⟨_, ci_Climb⟩⟩,
    m_Climb_on_sample := ⟨a_Climb_on_sample', i_Climb_on_sample, k_Climb_on_sample⟩,
    B_Climb_on_sample := Binds.all fun us hl => match us, hl with | [_, _], _ => rfl,
    a_Curve_init_ := a_Curve_init_,
    fd_Curve_init_ := _,
    cda_Curve_init_ := cda_Curve_init_,
    cc_Curve_init_ := cc_Curve_init_,
    F_Curve_init_ := F_Curve_init_,
    SK_Curve_init_ := ⟨⟨_, _, _, _, _, l_Curve_init_, rfl, rfl⟩, ⟨_, _, _, _, _, lk_Curve_init_, gt_Curve_init_⟩, ⟨_, _, _, lx_Curve_init_⟩, ⟨_, ci_Curve⟩⟩,
    M_Curve := ⟨mk_Curve, a_Curve_init_', i_Curve_init_, kc_Curve⟩,
    B_Curve_init_ := Binds.all fun us hl => match us, hl with | [_, _], _ => rfl,
    a_Curve_on_ack := a_Curve_on_ack,
    fd_Curve_on_ack := _,
    cda_Curve_on_ack := cda_Curve_on_ack,
    cc_Curve_on_ack := cc_Curve_on_ack,
    F_Curve_on_ack := F_Curve_on_ack,
    SK_Curve_on_ack := ⟨⟨_, _, _, _, _, l_Curve_on_ack, rfl, rfl⟩, ⟨_, _, _, _, _, lk_Curve_on_ack, gt_Curve_on_ack⟩, ⟨_, _, _, lx_Curve_on_ack⟩, ⟨_, ci_Curve⟩⟩,
    m_Curve_on_ack := ⟨a_Curve_on_ack', i_Curve_on_ack, k_Curve_on_ack⟩,
    B_Curve_on_ack := Binds.all fun us hl => match us, hl with | [_, _, _, _], _ => rfl,
    a_Curve_grow := a_Curve_grow,
    fd_Curve_grow := _,
    cda_Curve_grow := cda_Curve_grow,
    cc_Curve_grow := cc_Curve_grow,
    F_Curve_grow := F_Curve_grow,
    SK_Curve_grow := ⟨⟨_, _, _, _, _, l_Curve_grow, rfl, rfl⟩, ⟨_, _, _, _, _, lk_Curve_grow, gt_Curve_grow⟩, ⟨_, _, _, lx_Curve_grow⟩, ⟨_, ci_Curve⟩⟩,
    m_Curve_grow := ⟨a_Curve_grow', i_Curve_grow, k_Curve_grow⟩,
    B_Curve_grow := Binds.all fun us hl => match us, hl with | [_, _, _], _ => rfl,
    a_Curve_on_loss := a_Curve_on_loss,
    fd_Curve_on_loss := PySem.W.fnOf "on_loss" "Curve.on_loss" (defArgs s_Curve_on_loss) (defBody s_Curve_on_loss) (defScope s_Curve_on_loss) .none kV_Curve_on_loss dc_Curve_on_loss pm_Curve_on_loss an_Curve_on_loss cd_Curve_on_loss ct_Curve_on_loss,
    F_Curve_on_loss := F_Curve_on_loss,
    B_Curve_on_loss := F_Curve_on_loss.binds (ps := ["self", "flight", "now"]) fun _ _ _ _ _ _ us hl => match us, hl with | [_, _, _], _ => rfl,
    m_Curve_on_loss := ⟨a_Curve_on_loss', i_Curve_on_loss, k_Curve_on_loss⟩,
    a_Curve_span_to := a_Curve_span_to,
    fd_Curve_span_to := PySem.W.fnOf "_span_to" "Curve._span_to" (defArgs s_Curve_span_to) (defBody s_Curve_span_to) (defScope s_Curve_span_to) .none kV_Curve_span_to dc_Curve_span_to pm_Curve_span_to an_Curve_span_to cd_Curve_span_to ct_Curve_span_to,
    F_Curve_span_to := F_Curve_span_to,
    B_Curve_span_to := F_Curve_span_to.binds (ps := ["self", "peak"]) fun _ _ _ _ _ _ us hl => match us, hl with | [_, _], _ => rfl,
    m_Curve_span_to := ⟨a_Curve_span_to', i_Curve_span_to, k_Curve_span_to⟩,
    a_Curve_on_expiry := a_Curve_on_expiry,
    fd_Curve_on_expiry := _,
    cda_Curve_on_expiry := cda_Curve_on_expiry,
    cc_Curve_on_expiry := cc_Curve_on_expiry,
    F_Curve_on_expiry := F_Curve_on_expiry,
    SK_Curve_on_expiry := ⟨⟨_, _, _, _, _, l_Curve_on_expiry, rfl, rfl⟩, ⟨_, _, _, _, _, lk_Curve_on_expiry, gt_Curve_on_expiry⟩, ⟨_, _, _, lx_Curve_on_expiry⟩, ⟨_, ci_Curve⟩⟩,
    m_Curve_on_expiry := ⟨a_Curve_on_expiry', i_Curve_on_expiry, k_Curve_on_expiry⟩,
    B_Curve_on_expiry := Binds.all fun us hl => match us, hl with | [_, _, _], _ => rfl,
    a_Curve_on_sample := a_Curve_on_sample,
    fd_Curve_on_sample := _,
    cda_Curve_on_sample := cda_Curve_on_sample,
    cc_Curve_on_sample := cc_Curve_on_sample,
    F_Curve_on_sample := F_Curve_on_sample,
    SK_Curve_on_sample := ⟨⟨_, _, _, _, _, l_Curve_on_sample, rfl, rfl⟩, ⟨_, _, _, _, _, lk_Curve_on_sample, gt_Curve_on_sample⟩, ⟨_, _, _, lx_Curve_on_sample⟩, ⟨_, ci_Curve⟩⟩,
    m_Curve_on_sample := ⟨a_Curve_on_sample', i_Curve_on_sample, k_Curve_on_sample⟩,
    B_Curve_on_sample := Binds.all fun us hl => match us, hl with | [_, _], _ => rfl,
    a__law_cell := a__law_cell,
    fd__law_cell := PySem.W.fnOf "_law_cell" "_law_cell" (defArgs s__law_cell) (defBody s__law_cell) (defScope s__law_cell) .none kV__law_cell dc__law_cell pm__law_cell an__law_cell cd__law_cell ct__law_cell,
    F__law_cell := F__law_cell,
    B__law_cell := F__law_cell.binds (ps := ["script", "k"]) fun _ _ _ _ _ _ us hl => match us, hl with | [_, _], _ => rfl,
    g__law_cell := PySem.W.mg_of X G a__law_cell',
    a__law_rounds := a__law_rounds,
    fd__law_rounds := PySem.W.fnOf "_law_rounds" "_law_rounds" (defArgs s__law_rounds) (defBody s__law_rounds) (defScope s__law_rounds) .none kV__law_rounds dc__law_rounds pm__law_rounds an__law_rounds cd__law_rounds ct__law_rounds,
    F__law_rounds := F__law_rounds,
    B__law_rounds := F__law_rounds.binds (ps := ["script"]) fun _ _ _ _ _ _ us hl => match us, hl with | [_], _ => rfl,
    g__law_rounds := PySem.W.mg_of X G a__law_rounds',
    a__law_box := a__law_box,
    fd__law_box := PySem.W.fnOf "_law_box" "_law_box" (defArgs s__law_box) (defBody s__law_box) (defScope s__law_box) .none kV__law_box dc__law_box pm__law_box an__law_box cd__law_box ct__law_box,
    F__law_box := F__law_box,
    B__law_box := F__law_box.binds (ps := ["cell"]) fun _ _ _ _ _ _ us hl => match us, hl with | [_], _ => rfl,
    g__law_box := PySem.W.mg_of X G a__law_box',
    a__law_draw := a__law_draw,
    fd__law_draw := PySem.W.fnOf "_law_draw" "_law_draw" (defArgs s__law_draw) (defBody s__law_draw) (defScope s__law_draw) .none kV__law_draw dc__law_draw pm__law_draw an__law_draw cd__law_draw ct__law_draw,
    F__law_draw := F__law_draw,
    B__law_draw := F__law_draw.binds (ps := ["box", "size"]) fun _ _ _ _ _ _ us hl => match us, hl with | [_, _], _ => rfl,
    g__law_draw := PySem.W.mg_of X G a__law_draw',
    a__law_unit := a__law_unit,
    fd__law_unit := PySem.W.fnOf "_law_unit" "_law_unit" (defArgs s__law_unit) (defBody s__law_unit) (defScope s__law_unit) .none kV__law_unit dc__law_unit pm__law_unit an__law_unit cd__law_unit ct__law_unit,
    F__law_unit := F__law_unit,
    B__law_unit := F__law_unit.binds (ps := ["box"]) fun _ _ _ _ _ _ us hl => match us, hl with | [_], _ => rfl,
    g__law_unit := PySem.W.mg_of X G a__law_unit',
    a__law_count := a__law_count,
    fd__law_count := PySem.W.fnOf "_law_count" "_law_count" (defArgs s__law_count) (defBody s__law_count) (defScope s__law_count) .none kV__law_count dc__law_count pm__law_count an__law_count cd__law_count ct__law_count,
    F__law_count := F__law_count,
    B__law_count := F__law_count.binds (ps := ["box", "unit", "brink"]) fun _ _ _ _ _ _ us hl => match us, hl with | [_, _, _], _ => rfl,
    g__law_count := PySem.W.mg_of X G a__law_count',
    a__law_load := a__law_load,
    fd__law_load := PySem.W.fnOf "_law_load" "_law_load" (defArgs s__law_load) (defBody s__law_load) (defScope s__law_load) .none kV__law_load dc__law_load pm__law_load an__law_load cd__law_load ct__law_load,
    F__law_load := F__law_load,
    B__law_load := F__law_load.binds (ps := ["box", "unit", "window", "count"]) fun _ _ _ _ _ _ us hl => match us, hl with | [_, _, _, _], _ => rfl,
    g__law_load := PySem.W.mg_of X G a__law_load',
    a__law_later := a__law_later,
    fd__law_later := PySem.W.fnOf "_law_later" "_law_later" (defArgs s__law_later) (defBody s__law_later) (defScope s__law_later) .none kV__law_later dc__law_later pm__law_later an__law_later cd__law_later ct__law_later,
    F__law_later := F__law_later,
    B__law_later := F__law_later.binds (ps := ["box", "now", "meet"]) fun _ _ _ _ _ _ us hl => match us, hl with | [_, _, _], _ => rfl,
    g__law_later := PySem.W.mg_of X G a__law_later',
    a__law_bad := a__law_bad,
    fd__law_bad := PySem.W.fnOf "_law_bad" "_law_bad" (defArgs s__law_bad) (defBody s__law_bad) (defScope s__law_bad) .none kV__law_bad dc__law_bad pm__law_bad an__law_bad cd__law_bad ct__law_bad,
    F__law_bad := F__law_bad,
    B__law_bad := F__law_bad.binds (ps := ["box"]) fun _ _ _ _ _ _ us hl => match us, hl with | [_], _ => rfl,
    g__law_bad := PySem.W.mg_of X G a__law_bad',
    a__law_refused := a__law_refused,
    fd__law_refused := PySem.W.fnOf "_law_refused" "_law_refused" (defArgs s__law_refused) (defBody s__law_refused) (defScope s__law_refused) .none kV__law_refused dc__law_refused pm__law_refused an__law_refused cd__law_refused ct__law_refused,
    F__law_refused := F__law_refused,
    B__law_refused := F__law_refused.binds (ps := ["control", "bad", "load", "now"]) fun _ _ _ _ _ _ us hl => match us, hl with | [_, _, _, _], _ => rfl,
    g__law_refused := PySem.W.mg_of X G a__law_refused',
    a__law_whole := a__law_whole,
    fd__law_whole := PySem.W.fnOf "_law_whole" "_law_whole" (defArgs s__law_whole) (defBody s__law_whole) (defScope s__law_whole) .none kV__law_whole dc__law_whole pm__law_whole an__law_whole cd__law_whole ct__law_whole,
    F__law_whole := F__law_whole,
    B__law_whole := F__law_whole.binds (ps := ["value", "wanted"]) fun _ _ _ _ _ _ us hl => match us, hl with | [_, _], _ => rfl,
    g__law_whole := PySem.W.mg_of X G a__law_whole',
    a__law_truth := a__law_truth,
    fd__law_truth := PySem.W.fnOf "_law_truth" "_law_truth" (defArgs s__law_truth) (defBody s__law_truth) (defScope s__law_truth) .none kV__law_truth dc__law_truth pm__law_truth an__law_truth cd__law_truth ct__law_truth,
    F__law_truth := F__law_truth,
    B__law_truth := F__law_truth.binds (ps := ["value", "wanted"]) fun _ _ _ _ _ _ us hl => match us, hl with | [_, _], _ => rfl,
    g__law_truth := PySem.W.mg_of X G a__law_truth',
    a__law_base := a__law_base,
    fd__law_base := PySem.W.fnOf "_law_base" "_law_base" (defArgs s__law_base) (defBody s__law_base) (defScope s__law_base) .none kV__law_base dc__law_base pm__law_base an__law_base cd__law_base ct__law_base,
    F__law_base := F__law_base,
    B__law_base := F__law_base.binds (ps := ["control", "state"]) fun _ _ _ _ _ _ us hl => match us, hl with | [_, _], _ => rfl,
    g__law_base := PySem.W.mg_of X G a__law_base',
    a__law_grown := a__law_grown,
    fd__law_grown := PySem.W.fnOf "_law_grown" "_law_grown" (defArgs s__law_grown) (defBody s__law_grown) (defScope s__law_grown) .none kV__law_grown dc__law_grown pm__law_grown an__law_grown cd__law_grown ct__law_grown,
    F__law_grown := F__law_grown,
    B__law_grown := F__law_grown.binds (ps := ["state", "count", "window", "credit"]) fun _ _ _ _ _ _ us hl => match us, hl with | [_, _, _, _], _ => rfl,
    g__law_grown := PySem.W.mg_of X G a__law_grown',
    a__law_follow := a__law_follow,
    fd__law_follow := PySem.W.fnOf "_law_follow" "_law_follow" (defArgs s__law_follow) (defBody s__law_follow) (defScope s__law_follow) .none kV__law_follow dc__law_follow pm__law_follow an__law_follow cd__law_follow ct__law_follow,
    F__law_follow := F__law_follow,
    B__law_follow := F__law_follow.binds (ps := ["control", "state", "count"]) fun _ _ _ _ _ _ us hl => match us, hl with | [_, _, _], _ => rfl,
    g__law_follow := PySem.W.mg_of X G a__law_follow',
    a__law_holds := a__law_holds,
    fd__law_holds := PySem.W.fnOf "_law_holds" "_law_holds" (defArgs s__law_holds) (defBody s__law_holds) (defScope s__law_holds) .none kV__law_holds dc__law_holds pm__law_holds an__law_holds cd__law_holds ct__law_holds,
    F__law_holds := F__law_holds,
    B__law_holds := F__law_holds.binds (ps := ["control", "state", "shift"]) fun _ _ _ _ _ _ us hl => match us, hl with | [_, _, _], _ => rfl,
    g__law_holds := PySem.W.mg_of X G a__law_holds',
    a__law_follows := a__law_follows,
    fd__law_follows := PySem.W.fnOf "_law_follows" "_law_follows" (defArgs s__law_follows) (defBody s__law_follows) (defScope s__law_follows) .none kV__law_follows dc__law_follows pm__law_follows an__law_follows cd__law_follows ct__law_follows,
    F__law_follows := F__law_follows,
    B__law_follows := F__law_follows.binds (ps := ["control", "state", "count", "now"]) fun _ _ _ _ _ _ us hl => match us, hl with | [_, _, _, _], _ => rfl,
    g__law_follows := PySem.W.mg_of X G a__law_follows',
    a__law_acked := a__law_acked,
    fd__law_acked := PySem.W.fnOf "_law_acked" "_law_acked" (defArgs s__law_acked) (defBody s__law_acked) (defScope s__law_acked) .none kV__law_acked dc__law_acked pm__law_acked an__law_acked cd__law_acked ct__law_acked,
    F__law_acked := F__law_acked,
    B__law_acked := F__law_acked.binds (ps := ["control", "state", "count", "load", "now"]) fun _ _ _ _ _ _ us hl => match us, hl with | [_, _, _, _, _], _ => rfl,
    g__law_acked := PySem.W.mg_of X G a__law_acked',
    a__law_many := a__law_many,
    fd__law_many := PySem.W.fnOf "_law_many" "_law_many" (defArgs s__law_many) (defBody s__law_many) (defScope s__law_many) .none kV__law_many dc__law_many pm__law_many an__law_many cd__law_many ct__law_many,
    F__law_many := F__law_many,
    B__law_many := F__law_many.binds (ps := ["control", "twin", "state", "box", "clock"]) fun _ _ _ _ _ _ us hl => match us, hl with | [_, _, _, _, _], _ => rfl,
    g__law_many := PySem.W.mg_of X G a__law_many',
    a__law_lost := a__law_lost,
    fd__law_lost := PySem.W.fnOf "_law_lost" "_law_lost" (defArgs s__law_lost) (defBody s__law_lost) (defScope s__law_lost) .none kV__law_lost dc__law_lost pm__law_lost an__law_lost cd__law_lost ct__law_lost,
    F__law_lost := F__law_lost,
    B__law_lost := F__law_lost.binds (ps := ["control", "state", "load", "now"]) fun _ _ _ _ _ _ us hl => match us, hl with | [_, _, _, _], _ => rfl,
    g__law_lost := PySem.W.mg_of X G a__law_lost',
    a__law_expired := a__law_expired,
    fd__law_expired := PySem.W.fnOf "_law_expired" "_law_expired" (defArgs s__law_expired) (defBody s__law_expired) (defScope s__law_expired) .none kV__law_expired dc__law_expired pm__law_expired an__law_expired cd__law_expired ct__law_expired,
    F__law_expired := F__law_expired,
    B__law_expired := F__law_expired.binds (ps := ["control", "state", "load", "now"]) fun _ _ _ _ _ _ us hl => match us, hl with | [_, _, _, _], _ => rfl,
    g__law_expired := PySem.W.mg_of X G a__law_expired',
    a__law_deed := a__law_deed,
    fd__law_deed := PySem.W.fnOf "_law_deed" "_law_deed" (defArgs s__law_deed) (defBody s__law_deed) (defScope s__law_deed) .none kV__law_deed dc__law_deed pm__law_deed an__law_deed cd__law_deed ct__law_deed,
    F__law_deed := F__law_deed,
    B__law_deed := F__law_deed.binds (ps := ["control", "twin", "state", "box", "clock"]) fun _ _ _ _ _ _ us hl => match us, hl with | [_, _, _, _, _], _ => rfl,
    g__law_deed := PySem.W.mg_of X G a__law_deed',
    a__law_meet := a__law_meet,
    fd__law_meet := PySem.W.fnOf "_law_meet" "_law_meet" (defArgs s__law_meet) (defBody s__law_meet) (defScope s__law_meet) .none kV__law_meet dc__law_meet pm__law_meet an__law_meet cd__law_meet ct__law_meet,
    F__law_meet := F__law_meet,
    B__law_meet := F__law_meet.binds (ps := ["state", "now"]) fun _ _ _ _ _ _ us hl => match us, hl with | [_, _], _ => rfl,
    g__law_meet := PySem.W.mg_of X G a__law_meet',
    a__law_all_hold := a__law_all_hold,
    fd__law_all_hold := PySem.W.fnOf "_law_all_hold" "_law_all_hold" (defArgs s__law_all_hold) (defBody s__law_all_hold) (defScope s__law_all_hold) .none kV__law_all_hold dc__law_all_hold pm__law_all_hold an__law_all_hold cd__law_all_hold ct__law_all_hold,
    F__law_all_hold := F__law_all_hold,
    B__law_all_hold := F__law_all_hold.binds (ps := ["controls", "twins", "states", "shift"]) fun _ _ _ _ _ _ us hl => match us, hl with | [_, _, _, _], _ => rfl,
    g__law_all_hold := PySem.W.mg_of X G a__law_all_hold',
    a_law := a_law,
    fd_law := PySem.W.fnOf "law" "law" (defArgs s_law) (defBody s_law) (defScope s_law) .none kV_law dc_law pm_law an_law cd_law ct_law,
    F_law := F_law,
    B_law := F_law.binds (ps := ["script"]) fun _ _ _ _ _ _ us hl => match us, hl with | [_], _ => rfl,
    g_law := PySem.W.mg_of X G a_law',
    PR_Curve_starting := ⟨ih_Curve_starting, pg_Control_starting, pt_Control_starting, ⟨_, rc_Control_starting⟩⟩,
    m_Curve_set_window := ⟨ih_Curve_set_window, i_Control_set_window, k_Control_set_window⟩,
    m_Curve_step := ⟨ih_Curve_step, i_Climb_step, k_Climb_step⟩,
    M_Climb := ⟨mk_Climb, ih_Climb_init_, i_Control_init_, kc_Climb⟩,
    SC_Curve_Climb_on_ack := ⟨⟨_, ci_Curve⟩, sm_SC_Curve_Climb_on_ack, sw_SC_Curve_Climb_on_ack, st_SC_Curve_Climb_on_ack, sf_SC_Curve_Climb_on_ack, sy_⟩,
    SC_Curve_Climb_on_expiry := ⟨⟨_, ci_Curve⟩, sm_SC_Curve_Climb_on_expiry, sw_SC_Curve_Climb_on_expiry, st_SC_Curve_Climb_on_expiry, sf_SC_Curve_Climb_on_expiry, sy_⟩,
    SC_Curve_Climb_on_sample := ⟨⟨_, ci_Curve⟩, sm_SC_Curve_Climb_on_sample, sw_SC_Curve_Climb_on_sample, st_SC_Curve_Climb_on_sample, sf_SC_Curve_Climb_on_sample, sy_⟩,
    SC_Curve_Curve_init_ := ⟨⟨_, ci_Curve⟩, sm_SC_Curve_Curve_init_, sw_SC_Curve_Curve_init_, st_SC_Curve_Curve_init_, sf_SC_Curve_Curve_init_, sy_⟩,
    SC_Curve_Curve_on_ack := ⟨⟨_, ci_Curve⟩, sm_SC_Curve_Curve_on_ack, sw_SC_Curve_Curve_on_ack, st_SC_Curve_Curve_on_ack, sf_SC_Curve_Curve_on_ack, sy_⟩,
    SC_Curve_Curve_grow := ⟨⟨_, ci_Curve⟩, sm_SC_Curve_Curve_grow, sw_SC_Curve_Curve_grow, st_SC_Curve_Curve_grow, sf_SC_Curve_Curve_grow, sy_⟩,
    SC_Curve_Curve_on_expiry := ⟨⟨_, ci_Curve⟩, sm_SC_Curve_Curve_on_expiry, sw_SC_Curve_Curve_on_expiry, st_SC_Curve_Curve_on_expiry, sf_SC_Curve_Curve_on_expiry, sy_⟩,
    SC_Curve_Curve_on_sample := ⟨⟨_, ci_Curve⟩, sm_SC_Curve_Curve_on_sample, sw_SC_Curve_Curve_on_sample, st_SC_Curve_Curve_on_sample, sf_SC_Curve_Curve_on_sample, sy_⟩,
    b_bool := PySem.W.mg_none_of X G z_bool,
    b_int := PySem.W.mg_none_of X G z_int,
    b_isinstance := PySem.W.mg_none_of X G z_isinstance,
    b_len := PySem.W.mg_none_of X G z_len,
    b_max := PySem.W.mg_none_of X G z_max,
    b_min := PySem.W.mg_none_of X G z_min,
    b_property := PySem.W.mg_none_of X G z_property,
    b_range := PySem.W.mg_none_of X G z_range,
    b_sum := PySem.W.mg_none_of X G z_sum,
    b_super := PySem.W.mg_none_of X G z_super }
  exact ⟨T.fd_law, fun s v => .of_eq rfl, fun base _ _ => ok_law (P := l.prog) (w := w) (base := base) T⟩
theorem walk {l : PySem.W.OpenLaw} {q : Program} {loose : List Str} {XP : (Str → Option Value) → Heap → Prop} {YP : World → Heap → Prop} {d : DefRec} {K : Params → PySem.W.Frag} (hn : l.most = some 63) (hdf : d.params.defaults = [])
    (hY : ∀ (w : World) (h : Heap), YP w h → (K w.params).In h)
    (F : ∀ (w : World) (mg : Str → Option Value) (fa : Addr) (h : Heap), (K w.params).In h → h.Ns mainGlobals mg → mg d.name = some (.ref fa) →
      ∃ fd : FuncData, (∀ (s : Shared) (u : Value), BindsTo s fd ⟨[u], []⟩ [("script", u)]) ∧ ∀ base : Heap, (K w.params).In base → base.Ns mainGlobals mg → FnOk l.prog w (K w.params) mg base CX0 12 fa fd ["script"] (sp_law (K w.params))) :
    PySem.W.WalkO q loose XP YP l.row.toRowW d [] (fun f vs => PySem.call f vs) :=
  L2.walk_of (CX := fun _ => CX0) (n := 63) (k := 12) (x := "script") (sp := fun w => sp_law (K w.params)) hn (by decide) hdf ⟨rfl, by decide, by decide⟩ hY F (fun _ _ a ns hl _ hS => ⟨a, ns, rfl, hS, hl, fun _ => rfl⟩) fun _ _ _ _ _ z => z
end My

instance : My.SupP PySem.Challenge.rw_lossway_k22_curve_law.prog := ⟨by decide +kernel, by decide +kernel⟩
open PySem PySem.W PyProof.Rows in
set_option maxRecDepth 100000 in
set_option maxHeartbeats 0 in
theorem PySem.Challenge.cw_lossway_k22_curve_law_holds : PySem.Challenge.rw_lossway_k22_curve_law.Holds := by
  w_on; o_law; k_head; (case hw => w_witness2)
  k_fill
  refine My.walk (l := PySem.Challenge.rw_lossway_k22_curve_law) rfl rfl (fun w h Y => PySem.W.kIn_of Y) ?F
  case F =>
    intro w mg fa h KX G hmg
    refine' My.all_mk KX G hmg ?aC_Control ?pg_Control ?hd_Control ?po_Control ?sa_Control ?mk_Control ?kc_Control ?n_Control_unit ?n_Control_window ?n_Control_threshold ?n_Control_credit ?n_Control_stalled ?rd_Control ?ga_Control ?va_Control_GREATEST ?aC_Climb ?pg_Climb ?hd_Climb ?po_Climb ?sa_Climb ?n_Climb_unit ?n_Climb_window ?n_Climb_threshold ?n_Climb_credit ?n_Climb_stalled ?aC_Curve ?pg_Curve ?hd_Curve ?po_Curve ?sa_Curve ?mk_Curve ?kc_Curve ?n_Curve_unit ?n_Curve_window ?n_Curve_threshold ?n_Curve_credit ?n_Curve_stalled ?n_Curve_peak ?n_Curve_span ?n_Curve_born ?aC_LossError ?aC_InvalidNumber ?xl_InvalidNumber ?sa_InvalidNumber ?xx_InvalidNumber ?xt_InvalidNumber ?xk_InvalidNumber ?xi_InvalidNumber ?xg_InvalidNumber ?xh_InvalidNumber ?xy_InvalidNumber ?xc_InvalidNumber ?xr_InvalidNumber ?nX_InvalidNumber ?aC_InvalidSetting ?xl_InvalidSetting ?sa_InvalidSetting ?xx_InvalidSetting ?xt_InvalidSetting ?xk_InvalidSetting ?xi_InvalidSetting ?xg_InvalidSetting ?xh_InvalidSetting ?xy_InvalidSetting ?xc_InvalidSetting ?xr_InvalidSetting ?nX_InvalidSetting ?x_get ?x_tk ?Me_InvalidNumber_InvalidNumber ?xf_InvalidNumber_init_ ?l_InvalidNumber_init_ ?e_InvalidNumber_init_ ?k_InvalidNumber_init_ ?xf_InvalidSetting_init_ ?l_InvalidSetting_init_ ?e_InvalidSetting_init_ ?k_InvalidSetting_init_ ?a_is_integer_ ?l_is_integer ?e_is_integer ?k_is_integer ?a_is_between_ ?l_is_between ?e_is_between ?k_is_between ?a_require_new_bytes_ ?l_require_new_bytes ?e_require_new_bytes ?k_require_new_bytes ?a_Control_init__ ?i_Control_init_ ?l_Control_init_ ?e_Control_init_ ?k_Control_init_ ?a_Control_starting_ ?pg_Control_starting ?pt_Control_starting ?rc_Control_starting ?l_Control_starting ?e_Control_starting ?k_Control_starting ?a_Control_on_ack_ ?i_Control_on_ack ?l_Control_on_ack ?e_Control_on_ack ?k_Control_on_ack ?a_Control_on_expiry_ ?i_Control_on_expiry ?l_Control_on_expiry ?e_Control_on_expiry ?k_Control_on_expiry ?a_Control_on_sample_ ?i_Control_on_sample ?l_Control_on_sample ?e_Control_on_sample ?k_Control_on_sample ?a_Control_set_window_ ?i_Control_set_window ?l_Control_set_window ?e_Control_set_window ?k_Control_set_window ?a_Climb_on_ack_ ?i_Climb_on_ack ?l_Climb_on_ack ?e_Climb_on_ack ?k_Climb_on_ack ?lk_Climb_on_ack ?lx_Climb_on_ack ?a_Climb_grow_ ?i_Climb_grow ?l_Climb_grow ?e_Climb_grow ?k_Climb_grow ?a_Climb_step_ ?i_Climb_step ?l_Climb_step ?e_Climb_step ?k_Climb_step ?a_Climb_on_expiry_ ?i_Climb_on_expiry ?l_Climb_on_expiry ?e_Climb_on_expiry ?k_Climb_on_expiry ?lk_Climb_on_expiry ?lx_Climb_on_expiry ?a_Climb_on_sample_ ?i_Climb_on_sample ?l_Climb_on_sample ?e_Climb_on_sample ?k_Climb_on_sample ?lk_Climb_on_sample ?lx_Climb_on_sample ?a_Curve_init__ ?i_Curve_init_ ?l_Curve_init_ ?e_Curve_init_ ?k_Curve_init_ ?lk_Curve_init_ ?lx_Curve_init_ ?a_Curve_on_ack_ ?i_Curve_on_ack ?l_Curve_on_ack ?e_Curve_on_ack ?k_Curve_on_ack ?lk_Curve_on_ack ?lx_Curve_on_ack ?a_Curve_grow_ ?i_Curve_grow ?l_Curve_grow ?e_Curve_grow ?k_Curve_grow ?lk_Curve_grow ?lx_Curve_grow ?a_Curve_on_loss_ ?i_Curve_on_loss ?l_Curve_on_loss ?e_Curve_on_loss ?k_Curve_on_loss ?a_Curve_span_to_ ?i_Curve_span_to ?l_Curve_span_to ?e_Curve_span_to ?k_Curve_span_to ?a_Curve_on_expiry_ ?i_Curve_on_expiry ?l_Curve_on_expiry ?e_Curve_on_expiry ?k_Curve_on_expiry ?lk_Curve_on_expiry ?lx_Curve_on_expiry ?a_Curve_on_sample_ ?i_Curve_on_sample ?l_Curve_on_sample ?e_Curve_on_sample ?k_Curve_on_sample ?lk_Curve_on_sample ?lx_Curve_on_sample ?a__law_cell_ ?l__law_cell ?e__law_cell ?k__law_cell ?a__law_rounds_ ?l__law_rounds ?e__law_rounds ?k__law_rounds ?a__law_box_ ?l__law_box ?e__law_box ?k__law_box ?a__law_draw_ ?l__law_draw ?e__law_draw ?k__law_draw ?a__law_unit_ ?l__law_unit ?e__law_unit ?k__law_unit ?a__law_count_ ?l__law_count ?e__law_count ?k__law_count ?a__law_load_ ?l__law_load ?e__law_load ?k__law_load ?a__law_later_ ?l__law_later ?e__law_later ?k__law_later ?a__law_bad_ ?l__law_bad ?e__law_bad ?k__law_bad ?a__law_refused_ ?l__law_refused ?e__law_refused ?k__law_refused ?a__law_whole_ ?l__law_whole ?e__law_whole ?k__law_whole ?a__law_truth_ ?l__law_truth ?e__law_truth ?k__law_truth ?a__law_base_ ?l__law_base ?e__law_base ?k__law_base ?a__law_grown_ ?l__law_grown ?e__law_grown ?k__law_grown ?a__law_follow_ ?l__law_follow ?e__law_follow ?k__law_follow ?a__law_holds_ ?l__law_holds ?e__law_holds ?k__law_holds ?a__law_follows_ ?l__law_follows ?e__law_follows ?k__law_follows ?a__law_acked_ ?l__law_acked ?e__law_acked ?k__law_acked ?a__law_many_ ?l__law_many ?e__law_many ?k__law_many ?a__law_lost_ ?l__law_lost ?e__law_lost ?k__law_lost ?a__law_expired_ ?l__law_expired ?e__law_expired ?k__law_expired ?a__law_deed_ ?l__law_deed ?e__law_deed ?k__law_deed ?a__law_meet_ ?l__law_meet ?e__law_meet ?k__law_meet ?a__law_all_hold_ ?l__law_all_hold ?e__law_all_hold ?k__law_all_hold ?a_law_ ?l_law ?e_law ?k_law ?ih_Curve_starting ?ih_Curve_set_window ?ih_Curve_step ?ih_Climb_init_ ?mk_Climb ?kc_Climb ?ci_Climb ?ci_Curve ?sm_SC_Curve_Climb_on_ack ?sw_SC_Curve_Climb_on_ack ?st_SC_Curve_Climb_on_ack ?sf_SC_Curve_Climb_on_ack ?sm_SC_Curve_Climb_on_expiry ?sw_SC_Curve_Climb_on_expiry ?st_SC_Curve_Climb_on_expiry ?sf_SC_Curve_Climb_on_expiry ?sm_SC_Curve_Climb_on_sample ?sw_SC_Curve_Climb_on_sample ?st_SC_Curve_Climb_on_sample ?sf_SC_Curve_Climb_on_sample ?sm_SC_Curve_Curve_init_ ?sw_SC_Curve_Curve_init_ ?st_SC_Curve_Curve_init_ ?sf_SC_Curve_Curve_init_ ?sm_SC_Curve_Curve_on_ack ?sw_SC_Curve_Curve_on_ack ?st_SC_Curve_Curve_on_ack ?sf_SC_Curve_Curve_on_ack ?sm_SC_Curve_Curve_grow ?sw_SC_Curve_Curve_grow ?st_SC_Curve_Curve_grow ?sf_SC_Curve_Curve_grow ?sm_SC_Curve_Curve_on_expiry ?sw_SC_Curve_Curve_on_expiry ?st_SC_Curve_Curve_on_expiry ?sf_SC_Curve_Curve_on_expiry ?sm_SC_Curve_Curve_on_sample ?sw_SC_Curve_Curve_on_sample ?st_SC_Curve_Curve_on_sample ?sf_SC_Curve_Curve_on_sample ?sy_ ?z_bool ?z_int ?z_isinstance ?z_len ?z_max ?z_min ?z_property ?z_range ?z_sum ?z_super ?xm__InvalidNumber ?xm__InvalidSetting ?w_Control_GREATEST ?gt_Climb_on_ack ?gt_Climb_on_expiry ?gt_Climb_on_sample ?gt_Curve_init_ ?gt_Curve_on_ack ?gt_Curve_grow ?gt_Curve_on_expiry ?gt_Curve_on_sample
    (case aC_Control => k_is)
    (case pg_Control => k_is)
    (case hd_Control => k_is)
    (case po_Control => k_is)
    (case sa_Control => k_is)
    (case mk_Control => k_is)
    (case kc_Control => k_is)
    (case n_Control_unit => k_is)
    (case n_Control_window => k_is)
    (case n_Control_threshold => k_is)
    (case n_Control_credit => k_is)
    (case n_Control_stalled => k_is)
    (case rd_Control => k_is)
    (case ga_Control => k_is)
    (case va_Control_GREATEST => k_is)
    (case aC_Climb => k_is)
    (case pg_Climb => k_is)
    (case hd_Climb => k_is)
    (case po_Climb => k_is)
    (case sa_Climb => k_is)
    (case n_Climb_unit => k_is)
    (case n_Climb_window => k_is)
    (case n_Climb_threshold => k_is)
    (case n_Climb_credit => k_is)
    (case n_Climb_stalled => k_is)
    (case aC_Curve => k_is)
    (case pg_Curve => k_is)
    (case hd_Curve => k_is)
    (case po_Curve => k_is)
    (case sa_Curve => k_is)
    (case mk_Curve => k_is)
    (case kc_Curve => k_is)
    (case n_Curve_unit => k_is)
    (case n_Curve_window => k_is)
    (case n_Curve_threshold => k_is)
    (case n_Curve_credit => k_is)
    (case n_Curve_stalled => k_is)
    (case n_Curve_peak => k_is)
    (case n_Curve_span => k_is)
    (case n_Curve_born => k_is)
    (case aC_LossError => k_is)
    (case aC_InvalidNumber => k_is)
    (case xl_InvalidNumber => k_is)
    (case sa_InvalidNumber => k_is)
    (case xx_InvalidNumber => k_is)
    (case xt_InvalidNumber => k_is)
    (case xk_InvalidNumber => k_is)
    (case xi_InvalidNumber => k_is)
    (case xg_InvalidNumber => k_is)
    (case xh_InvalidNumber => k_is)
    (case xy_InvalidNumber => k_is)
    (case xc_InvalidNumber => k_is)
    (case xr_InvalidNumber => k_is)
    (case nX_InvalidNumber => k_is)
    (case aC_InvalidSetting => k_is)
    (case xl_InvalidSetting => k_is)
    (case sa_InvalidSetting => k_is)
    (case xx_InvalidSetting => k_is)
    (case xt_InvalidSetting => k_is)
    (case xk_InvalidSetting => k_is)
    (case xi_InvalidSetting => k_is)
    (case xg_InvalidSetting => k_is)
    (case xh_InvalidSetting => k_is)
    (case xy_InvalidSetting => k_is)
    (case xc_InvalidSetting => k_is)
    (case xr_InvalidSetting => k_is)
    (case nX_InvalidSetting => k_is)
    (case x_get => k_is)
    (case x_tk => k_is)
    (case Me_InvalidNumber_InvalidNumber => kts_exm)
    (case xf_InvalidNumber_init_ => k_is)
    (case l_InvalidNumber_init_ => k_is)
    (case e_InvalidNumber_init_ => k_is)
    (case k_InvalidNumber_init_ => k_is)
    (case xf_InvalidSetting_init_ => k_is)
    (case l_InvalidSetting_init_ => k_is)
    (case e_InvalidSetting_init_ => k_is)
    (case k_InvalidSetting_init_ => k_is)
    (case a_is_integer_ => k_is)
    (case l_is_integer => k_is)
    (case e_is_integer => k_is)
    (case k_is_integer => k_is)
    (case a_is_between_ => k_is)
    (case l_is_between => k_is)
    (case e_is_between => k_is)
    (case k_is_between => k_is)
    (case a_require_new_bytes_ => k_is)
    (case l_require_new_bytes => k_is)
    (case e_require_new_bytes => k_is)
    (case k_require_new_bytes => k_is)
    (case a_Control_init__ => k_is)
    (case i_Control_init_ => k_is)
    (case l_Control_init_ => k_is)
    (case e_Control_init_ => k_is)
    (case k_Control_init_ => k_is)
    (case a_Control_starting_ => k_is)
    (case pg_Control_starting => k_is)
    (case pt_Control_starting => k_is)
    (case rc_Control_starting => k_is)
    (case l_Control_starting => k_is)
    (case e_Control_starting => k_is)
    (case k_Control_starting => k_is)
    (case a_Control_on_ack_ => k_is)
    (case i_Control_on_ack => k_is)
    (case l_Control_on_ack => k_is)
    (case e_Control_on_ack => k_is)
    (case k_Control_on_ack => k_is)
    (case a_Control_on_expiry_ => k_is)
    (case i_Control_on_expiry => k_is)
    (case l_Control_on_expiry => k_is)
    (case e_Control_on_expiry => k_is)
    (case k_Control_on_expiry => k_is)
    (case a_Control_on_sample_ => k_is)
    (case i_Control_on_sample => k_is)
    (case l_Control_on_sample => k_is)
    (case e_Control_on_sample => k_is)
    (case k_Control_on_sample => k_is)
    (case a_Control_set_window_ => k_is)
    (case i_Control_set_window => k_is)
    (case l_Control_set_window => k_is)
    (case e_Control_set_window => k_is)
    (case k_Control_set_window => k_is)
    (case a_Climb_on_ack_ => k_is)
    (case i_Climb_on_ack => k_is)
    (case l_Climb_on_ack => k_is)
    (case e_Climb_on_ack => k_is)
    (case k_Climb_on_ack => k_is)
    (case lk_Climb_on_ack => k_is)
    (case lx_Climb_on_ack => k_is)
    (case a_Climb_grow_ => k_is)
    (case i_Climb_grow => k_is)
    (case l_Climb_grow => k_is)
    (case e_Climb_grow => k_is)
    (case k_Climb_grow => k_is)
    (case a_Climb_step_ => k_is)
    (case i_Climb_step => k_is)
    (case l_Climb_step => k_is)
    (case e_Climb_step => k_is)
    (case k_Climb_step => k_is)
    (case a_Climb_on_expiry_ => k_is)
    (case i_Climb_on_expiry => k_is)
    (case l_Climb_on_expiry => k_is)
    (case e_Climb_on_expiry => k_is)
    (case k_Climb_on_expiry => k_is)
    (case lk_Climb_on_expiry => k_is)
    (case lx_Climb_on_expiry => k_is)
    (case a_Climb_on_sample_ => k_is)
    (case i_Climb_on_sample => k_is)
    (case l_Climb_on_sample => k_is)
    (case e_Climb_on_sample => k_is)
    (case k_Climb_on_sample => k_is)
    (case lk_Climb_on_sample => k_is)
    (case lx_Climb_on_sample => k_is)
    (case a_Curve_init__ => k_is)
    (case i_Curve_init_ => k_is)
    (case l_Curve_init_ => k_is)
    (case e_Curve_init_ => k_is)
    (case k_Curve_init_ => k_is)
    (case lk_Curve_init_ => k_is)
    (case lx_Curve_init_ => k_is)
    (case a_Curve_on_ack_ => k_is)
    (case i_Curve_on_ack => k_is)
    (case l_Curve_on_ack => k_is)
    (case e_Curve_on_ack => k_is)
    (case k_Curve_on_ack => k_is)
    (case lk_Curve_on_ack => k_is)
    (case lx_Curve_on_ack => k_is)
    (case a_Curve_grow_ => k_is)
    (case i_Curve_grow => k_is)
    (case l_Curve_grow => k_is)
    (case e_Curve_grow => k_is)
    (case k_Curve_grow => k_is)
    (case lk_Curve_grow => k_is)
    (case lx_Curve_grow => k_is)
    (case a_Curve_on_loss_ => k_is)
    (case i_Curve_on_loss => k_is)
    (case l_Curve_on_loss => k_is)
    (case e_Curve_on_loss => k_is)
    (case k_Curve_on_loss => k_is)
    (case a_Curve_span_to_ => k_is)
    (case i_Curve_span_to => k_is)
    (case l_Curve_span_to => k_is)
    (case e_Curve_span_to => k_is)
    (case k_Curve_span_to => k_is)
    (case a_Curve_on_expiry_ => k_is)
    (case i_Curve_on_expiry => k_is)
    (case l_Curve_on_expiry => k_is)
    (case e_Curve_on_expiry => k_is)
    (case k_Curve_on_expiry => k_is)
    (case lk_Curve_on_expiry => k_is)
    (case lx_Curve_on_expiry => k_is)
    (case a_Curve_on_sample_ => k_is)
    (case i_Curve_on_sample => k_is)
    (case l_Curve_on_sample => k_is)
    (case e_Curve_on_sample => k_is)
    (case k_Curve_on_sample => k_is)
    (case lk_Curve_on_sample => k_is)
    (case lx_Curve_on_sample => k_is)
    (case a__law_cell_ => k_is)
    (case l__law_cell => k_is)
    (case e__law_cell => k_is)
    (case k__law_cell => k_is)
    (case a__law_rounds_ => k_is)
    (case l__law_rounds => k_is)
    (case e__law_rounds => k_is)
    (case k__law_rounds => k_is)
    (case a__law_box_ => k_is)
    (case l__law_box => k_is)
    (case e__law_box => k_is)
    (case k__law_box => k_is)
    (case a__law_draw_ => k_is)
    (case l__law_draw => k_is)
    (case e__law_draw => k_is)
    (case k__law_draw => k_is)
    (case a__law_unit_ => k_is)
    (case l__law_unit => k_is)
    (case e__law_unit => k_is)
    (case k__law_unit => k_is)
    (case a__law_count_ => k_is)
    (case l__law_count => k_is)
    (case e__law_count => k_is)
    (case k__law_count => k_is)
    (case a__law_load_ => k_is)
    (case l__law_load => k_is)
    (case e__law_load => k_is)
    (case k__law_load => k_is)
    (case a__law_later_ => k_is)
    (case l__law_later => k_is)
    (case e__law_later => k_is)
    (case k__law_later => k_is)
    (case a__law_bad_ => k_is)
    (case l__law_bad => k_is)
    (case e__law_bad => k_is)
    (case k__law_bad => k_is)
    (case a__law_refused_ => k_is)
    (case l__law_refused => k_is)
    (case e__law_refused => k_is)
    (case k__law_refused => k_is)
    (case a__law_whole_ => k_is)
    (case l__law_whole => k_is)
    (case e__law_whole => k_is)
    (case k__law_whole => k_is)
    (case a__law_truth_ => k_is)
    (case l__law_truth => k_is)
    (case e__law_truth => k_is)
    (case k__law_truth => k_is)
    (case a__law_base_ => k_is)
    (case l__law_base => k_is)
    (case e__law_base => k_is)
    (case k__law_base => k_is)
    (case a__law_grown_ => k_is)
    (case l__law_grown => k_is)
    (case e__law_grown => k_is)
    (case k__law_grown => k_is)
    (case a__law_follow_ => k_is)
    (case l__law_follow => k_is)
    (case e__law_follow => k_is)
    (case k__law_follow => k_is)
    (case a__law_holds_ => k_is)
    (case l__law_holds => k_is)
    (case e__law_holds => k_is)
    (case k__law_holds => k_is)
    (case a__law_follows_ => k_is)
    (case l__law_follows => k_is)
    (case e__law_follows => k_is)
    (case k__law_follows => k_is)
    (case a__law_acked_ => k_is)
    (case l__law_acked => k_is)
    (case e__law_acked => k_is)
    (case k__law_acked => k_is)
    (case a__law_many_ => k_is)
    (case l__law_many => k_is)
    (case e__law_many => k_is)
    (case k__law_many => k_is)
    (case a__law_lost_ => k_is)
    (case l__law_lost => k_is)
    (case e__law_lost => k_is)
    (case k__law_lost => k_is)
    (case a__law_expired_ => k_is)
    (case l__law_expired => k_is)
    (case e__law_expired => k_is)
    (case k__law_expired => k_is)
    (case a__law_deed_ => k_is)
    (case l__law_deed => k_is)
    (case e__law_deed => k_is)
    (case k__law_deed => k_is)
    (case a__law_meet_ => k_is)
    (case l__law_meet => k_is)
    (case e__law_meet => k_is)
    (case k__law_meet => k_is)
    (case a__law_all_hold_ => k_is)
    (case l__law_all_hold => k_is)
    (case e__law_all_hold => k_is)
    (case k__law_all_hold => k_is)
    (case a_law_ => k_is)
    (case l_law => k_is)
    (case e_law => k_is)
    (case k_law => k_is)
    (case ih_Curve_starting => k_is)
    (case ih_Curve_set_window => k_is)
    (case ih_Curve_step => k_is)
    (case ih_Climb_init_ => k_is)
    (case mk_Climb => k_is)
    (case kc_Climb => k_is)
    (case ci_Climb => k_is)
    (case ci_Curve => k_is)
    (case sm_SC_Curve_Climb_on_ack => k_is)
    (case sw_SC_Curve_Climb_on_ack => ks_is)
    (case st_SC_Curve_Climb_on_ack => k_is)
    (case sf_SC_Curve_Climb_on_ack => k_is)
    (case sm_SC_Curve_Climb_on_expiry => k_is)
    (case sw_SC_Curve_Climb_on_expiry => ks_is)
    (case st_SC_Curve_Climb_on_expiry => k_is)
    (case sf_SC_Curve_Climb_on_expiry => k_is)
    (case sm_SC_Curve_Climb_on_sample => k_is)
    (case sw_SC_Curve_Climb_on_sample => ks_is)
    (case st_SC_Curve_Climb_on_sample => k_is)
    (case sf_SC_Curve_Climb_on_sample => k_is)
    (case sm_SC_Curve_Curve_init_ => k_is)
    (case sw_SC_Curve_Curve_init_ => ks_is)
    (case st_SC_Curve_Curve_init_ => k_is)
    (case sf_SC_Curve_Curve_init_ => k_is)
    (case sm_SC_Curve_Curve_on_ack => k_is)
    (case sw_SC_Curve_Curve_on_ack => ks_is)
    (case st_SC_Curve_Curve_on_ack => k_is)
    (case sf_SC_Curve_Curve_on_ack => k_is)
    (case sm_SC_Curve_Curve_grow => k_is)
    (case sw_SC_Curve_Curve_grow => ks_is)
    (case st_SC_Curve_Curve_grow => k_is)
    (case sf_SC_Curve_Curve_grow => k_is)
    (case sm_SC_Curve_Curve_on_expiry => k_is)
    (case sw_SC_Curve_Curve_on_expiry => ks_is)
    (case st_SC_Curve_Curve_on_expiry => k_is)
    (case sf_SC_Curve_Curve_on_expiry => k_is)
    (case sm_SC_Curve_Curve_on_sample => k_is)
    (case sw_SC_Curve_Curve_on_sample => ks_is)
    (case st_SC_Curve_Curve_on_sample => k_is)
    (case sf_SC_Curve_Curve_on_sample => k_is)
    (case sy_ => k_is)
    (case z_bool => k_is)
    (case z_int => k_is)
    (case z_isinstance => k_is)
    (case z_len => k_is)
    (case z_max => k_is)
    (case z_min => k_is)
    (case z_property => k_is)
    (case z_range => k_is)
    (case z_sum => k_is)
    (case z_super => k_is)
    (case xm__InvalidNumber => decide +kernel)
    (case xm__InvalidSetting => decide +kernel)
    (case w_Control_GREATEST => exact ⟨_, rfl⟩)
    (case gt_Climb_on_ack => rfl)
    (case gt_Climb_on_expiry => rfl)
    (case gt_Climb_on_sample => rfl)
    (case gt_Curve_init_ => rfl)
    (case gt_Curve_on_ack => rfl)
    (case gt_Curve_grow => rfl)
    (case gt_Curve_on_expiry => rfl)
    (case gt_Curve_on_sample => rfl)
