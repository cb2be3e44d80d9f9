import PyProof.Rows.All
import Wide.All
import OpenK.AllK
import Wide.FinOn
import HandS.ForMost
import HandS.IsInst
import HandS.ClsMeth
import HandS.Codes
import HandS.Exc
import HandS.ExcOwn
import HandS.ExcInit
import HandS.ExcField
import HandS.ExcIs
import HandS.TryMany
import HandS.WordsExc
import HandS.CallSlots
import HandS.More
import KE.KExcIs
import KE.GoesEnum
import KE.GoesMore
import HandS.Defaults
import HandS.Property
import HandS.Zip
import HandS.Text
import HandS.Wide
import KE.KSuper
import KE.RegKSuper
import HandS.Nested
import HandS.MakeKw
import PySem.Challenge.RW_lossway_k24_controls_made
set_option Elab.async false
set_option maxRecDepth 100000
namespace My
open PySem L2
set_option linter.all false

/-! ### an own `in` -/
section
variable {X : Cx} {CX : CXT} {k : Nat} {C g : Addr} {fd : FuncData} {ps : List Str} {sp : Sp} {E : XK}
def rOwnIn (C : Addr) (m : Bool → Bool) (sp : Sp) (E : XK) : R2 := fun x y H Q => ∃ a dx fs, y = .ref a ∧ H a = some (.ins C dx fs) ∧ sp [.ref a, x] H (fun v H' => ∃ b, v = .bl b ∧ Q (.bl (m b)) H') E
theorem op_notInOwn (mm : Meth X.K C "__contains__" g) (F : FnOk X.prog X.w X.K X.mg X.base CX k g fd ps sp) (hr : Room k X.A) (hb : Binds X.K fd ps []) (hx : Passes CX X E) : OpR X (compareOp .NotIn) (rOwnIn C not sp E) := by
  intro pins s σ H x y v u Q I rx ry h
  obtain ⟨a, dx, fs, rfl, ha, q⟩ := h
  cases (show u = Value.ref a from ry)
  obtain ⟨mA, O, _⟩ := ins_get I.hok ha
  obtain ⟨od, J, _⟩ := O.look
  obtain ⟨m, hF⟩ := I.fr
  refine PySem.W.notIn_K hF I.ok.mod.kin J mm.at_ mm.fn ?_
  refine wpAny_mono (run_fn (us := [.ref a, v]) (vs := [.ref a, x]) (ds := []) (dvs := []) F hr hb .nil hx I (.cons rfl (.cons rx .nil)) q) (fun w s' z => ?_) fun _ _ x => x
  obtain ⟨z', H', I', rz, b, eb, qz⟩ := z
  subst eb
  cases (show w = Value.bool b from rz)
  exact wpAny_truthy_bool ⟨.bl (!b), H', I', rfl, qz⟩
theorem op_inOwn (mm : Meth X.K C "__contains__" g) (F : FnOk X.prog X.w X.K X.mg X.base CX k g fd ps sp) (hr : Room k X.A) (hb : Binds X.K fd ps []) (hx : Passes CX X E) : OpR X (compareOp .In) (rOwnIn C id sp E) := by
  intro pins s σ H x y v u Q I rx ry h
  obtain ⟨a, dx, fs, rfl, ha, q⟩ := h
  cases (show u = Value.ref a from ry)
  obtain ⟨mA, O, _⟩ := ins_get I.hok ha
  obtain ⟨od, J, _⟩ := O.look
  obtain ⟨m, hF⟩ := I.fr
  refine PySem.W.in_K hF I.ok.mod.kin J mm.at_ mm.fn ?_
  refine wpAny_mono (run_fn (us := [.ref a, v]) (vs := [.ref a, x]) (ds := []) (dvs := []) F hr hb .nil hx I (.cons rfl (.cons rx .nil)) q) (fun w s' z => ?_) fun _ _ x => x
  obtain ⟨z', H', I', rz, b, eb, qz⟩ := z
  subst eb
  cases (show w = Value.bool b from rz)
  exact wpAny_truthy_bool ⟨.bl b, H', I', rfl, qz⟩
end

/-! ### heaps -/
/-- all that was tracked stands, but what is at a -/
def SameX (a : Addr) (H H' : Hp) : Prop := ∀ b o, b ≠ a → H b = some o → H' b = some o
theorem SameX.refl {a : Addr} {H : Hp} : SameX a H H := fun _ _ _ h => h
theorem SameX.trans {a : Addr} {H H1 H2 : Hp} (x : SameX a H H1) (y : SameX a H1 H2) : SameX a H H2 := fun b o n h => y b o n (x b o n h)
theorem SameX.upd {a : Addr} {H : Hp} {o : HO} : SameX a H (L2.upd H a o) := fun b _ n h => by
  rw [upd_ne n]
  exact h
theorem SameX.upd' {a : Addr} {H H1 : Hp} {o : HO} (x : SameX a H H1) : SameX a H (L2.upd H1 a o) := x.trans .upd
theorem SameX.of {a : Addr} {H H1 : Hp} (x : Same H H1) : SameX a H H1 := fun b o _ h => x b o h
theorem Same.new {H : Hp} {p : Addr} {o : HO} (h : H p = none) : Same H (upd H p o) := fun b u e => by
  rw [upd_ne (ne_of_none e h)]
  exact e
theorem SqL.now {K : PySem.W.Frag} {H : Hp} {a : Addr} {xs : List V} (h : H a = some (.lst xs)) : SqL K H a xs := SqL.of h

/-! ### the purse -/
/-- a purse's rows -/
def pur (c : Addr) (p r n s : Int) : List V := [.ref c, .int p, .int r, .int n, .int s]
structure Purse (a c : Addr) (H : Hp) : Prop where
  ex : ∃ (cs : List Int) (p : Nat) (r n s : Int), H a = some (.lst (pur c p r n s)) ∧ H c = some (.lst (cs.map V.int)) ∧ (∀ x ∈ cs, 0 ≤ x) ∧ p ≤ cs.length ∧ cs.length ≤ 63 ∧ 0 ≤ r ∧ 0 ≤ s ∧ s < 2147483647
theorem pur_ne {H : Hp} {a c c' : Addr} {p r n s : Int} {cs : List Int} (h : H a = some (.lst (pur c p r n s))) (h' : H c' = some (.lst (cs.map V.int))) : c' ≠ a := ne_of h' h (by
  intro e
  injection e with e
  cases cs with
  | nil => cases e
  | cons x r => injection e with e1 _; cases e1)
theorem lk1 {m f : Str} {v : V} (h : (m == f) = false) : List.lookup m [(f, v)] = none := by
  simp only [List.lookup, h]
theorem bl_t {p : Prop} [Decidable p] (h : p) : V.bl (decide p) = V.bl true := congrArg V.bl (decide_eq_true h)
theorem bl_f {p : Prop} [Decidable p] (h : ¬ p) : V.bl (decide p) = V.bl false := congrArg V.bl (decide_eq_false h)
theorem bln_t {p : Prop} [Decidable p] (h : p) : V.bl (!decide p) = V.bl false := by rw [decide_eq_true h]; rfl
theorem bln_f {p : Prop} [Decidable p] (h : ¬ p) : V.bl (!decide p) = V.bl true := by rw [decide_eq_false h]; rfl
theorem int_ne {a b : Int} (h : ¬ a = b) : ¬ V.int a = V.int b := fun e => h (V.int.inj e)
theorem int_eq {a b : Int} (h : a = b) : V.int a = V.int b := congrArg V.int h

theorem Purse.there {a c : Addr} {H : Hp} (P : Purse a c H) : (∃ xs, H a = some (.lst xs)) ∧ ∃ ys, H c = some (.lst ys) := by
  obtain ⟨cs, p, r, n, s, h1, h2, _⟩ := P.ex
  exact ⟨⟨_, h1⟩, _, h2⟩
/-- a purse stands where both of its lists stand -/
theorem Purse.keep {a c : Addr} {H H' : Hp} (P : Purse a c H) (h : H' a = H a) (h' : H' c = H c) : Purse a c H' := by
  obtain ⟨cs, p, r, n, s, h1, h2, q⟩ := P.ex
  exact ⟨cs, p, r, n, s, h.trans h1, h'.trans h2, q⟩
theorem Purse.same {a c : Addr} {H H' : Hp} (P : Purse a c H) (s : Same H H') : Purse a c H' := by
  obtain ⟨cs, p, r, n, z, h1, h2, q⟩ := P.ex
  exact ⟨cs, p, r, n, z, s _ _ h1, s _ _ h2, q⟩
theorem Purse.on {a c b : Addr} {H H' : Hp} (P : Purse a c H) (s : SameX b H H') (na : a ≠ b) (nc : c ≠ b) : Purse a c H' := by
  obtain ⟨cs, p, r, n, z, h1, h2, q⟩ := P.ex
  exact ⟨cs, p, r, n, z, s _ _ na h1, s _ _ nc h2, q⟩
theorem small1000' {n : Nat} (h : n < 100000) : n < sizeLine := Nat.lt_of_lt_of_le h (by decide)
theorem sqT_sm {K : PySem.W.Frag} {H H' : Hp} {a : Addr} {xs : List V} (h : SqT K H a xs) (s : Same H H') : SqT K H' a xs := by
  rcases h with (h | ⟨o, h⟩) | h
  · exact .inl (.inl (s _ _ h))
  · exact .inl (.inr ⟨o, s _ _ h⟩)
  · exact .inr h
/-! ### several except clauses, each with or without a name -/
section
open PySem.Spec PyProof.Rows
variable {X : Cx}
/-- a clause: its class, the slot of its name, its suite -/
abbrev Cl := Value × Option Nat × (Addr → Value → Option Addr → TS)
def unN (D : Ends) (i : Nat) : Ends := { nx := fun σ H => D.nx (σ.set i none) H, rt := D.rt, bk := fun σ H => D.bk (σ.set i none) H, ct := fun σ H => D.ct (σ.set i none) H }
def clGo (D : Ends) (o : Option Nat) (t : TS) (a : Addr) (σ : L2.St) (H : Hp) : Prop := match o with
  | none => t D σ H
  | some i => t (unN D i) (σ.set i (some (.ref a))) H
def wCl (K : PySem.W.Frag) (Wout : WX) (D : Ends) : List Cl → WX
  | [] => Wout
  | (c, o, ts) :: r => fun cls d σ H => ∃ b, PySem.W.exmOne K cls c = some b ∧ (b = true → ∀ a, H a = none → clGo D o (ts a cls d) a σ H) ∧ (b = false → wCl K Wout D r cls d σ H)
inductive ClOk (X : Cx) : List ExceptHandler → List Cl → Prop
  | nil : ClOk X [] []
  | bare {x : Str} {c : Value} {ts : Addr → Value → Option Addr → TS} {b0 : Stmt} {su : List Stmt} {np ps : Pos} {hs : List ExceptHandler} {l : List Cl} (nm : Names X x c)
      (ok : ∀ (a : Addr) (oe : Obj) (cls : Value) (d : Option Addr) (pn : List (Addr × Obj)), Zc cls d oe → (∃ vs, oe.data = .fields vs) → PSs (X.suite a ((a, oe) :: pn)) (b0 :: su) (ts a cls d)) (rest : ClOk X hs l) :
      ClOk X (.ExceptHandler (some (.Name x np)) none (b0 :: su) ps :: hs) ((c, none, ts) :: l)
  | named {x n : Str} {i : Nat} {c : Value} {ts : Addr → Value → Option Addr → TS} {b0 : Stmt} {su : List Stmt} {np ps : Pos} {hs : List ExceptHandler} {l : List Cl} (nd : X.N.Nodup) (hi : X.N[i]? = some n) (lc : X.env.kindOf n = some .local) (nm : Names X x c)
      (ok : ∀ (a : Addr) (oe : Obj) (cls : Value) (d : Option Addr) (pn : List (Addr × Obj)), Zc cls d oe → (∃ vs, oe.data = .fields vs) → PSs (X.suite a ((a, oe) :: pn)) (b0 :: su) (ts a cls d)) (rest : ClOk X hs l) :
      ClOk X (.ExceptHandler (some (.Name x np)) (some n) (b0 :: su) ps :: hs) ((c, some i, ts) :: l)
theorem ps_try_cl {body : List Stmt} {h0 : ExceptHandler} {hs : List ExceptHandler} {l : List Cl} {pos : Pos} {tb : WX → TS} {Wout : WX} (st : X.stack = X.env :: X.outer) (fr : X.env.frame = some X.env.locals) (tk : Takes X Wout)
    (hb : ∀ (W : WX) (pn : List (Addr × Obj)) (xe : Value → Shared → Prop), Takes (X.tr pn xe) W → PassesOwn (model X.prog X.w) X.A X.env xe → PSs (X.tr pn xe) body (tb W))
    (hh : ClOk X (h0 :: hs) l) : PS X (.Try body (h0 :: hs) [] [] pos) (fun D σ H => tb (wCl X.K Wout D l) D σ H) := by
  refine ⟨fun pins s σ H D I h => ?_⟩
  have ok := I.ok
  have frs0 : X.A.frames = some (X.env :: X.outer) := by
    rw [ok.frames, st]
  refine wpAny_Try_except (wpAny_mono ((hb (wCl X.K Wout D l) (X.pn ++ pins) (fun e t1 => wpAny (model X.prog X.w) X.A (noteFrame e X.env) (fun _ t2 =>
    wpAny (model X.prog X.w) X.A (setFlight e none) (fun _ t3 => wpAny (model X.prog X.w) X.A (handleBy e X.env (h0 :: hs)) (SP X pins D) X.xe t3) X.xe t2) X.xe t1)
      (fun u s' xx => ?_) PassesOwn.looking).run [] s σ H D (I.toTry _) h) (fun f s1 hsp => ?_) (fun _ _ z => z))
  · obtain ⟨a, B, sI, pins', σ', H', cls, d, rfl, J', nb, up, sky, na, os, ag, w⟩ := xx
    have J := J'.ofTry ok
    have sky2 : Sky B (X.env :: X.outer) a (Zc cls d) X.env.locals s'.heap := by
      rw [← st]
      exact sky
    refine Sky.land Zc.steady frs0 fr sky2 fun g1 fl1 up1 => ?_
    have J1 : Inv X pins σ' H' { s' with heap := g1 } := J.landed nb fl1.1 (up.trans up1) os ag
    obtain ⟨o1, vs1, at1, z1, dt1⟩ := fl1.there
    have off : a ∉ frs (X.env :: X.outer) := fun hm => by
      obtain ⟨_, o', e', hnf⟩ := fl1.2.2.1.mem hm
      rw [at1] at e'
      cases e'
      exact hnf _ dt1
    have offL : a ≠ X.env.locals := fun z => off (List.mem_filterMap.mpr ⟨X.env, List.mem_cons_self, by rw [fr, z]⟩)
    have offF : a ∉ X.fs := fun hm => by
      obtain ⟨e, he, q⟩ := List.mem_filterMap.mp hm
      exact off (List.mem_filterMap.mpr ⟨e, List.mem_cons_of_mem _ he, q⟩)
    have S1 := J1.suite at1 dt1 na offL offF
    have LT : PySem.W.Looks (model X.prog X.w) g1 (typeOf (.ref a)) cls := fun A Q E s k q => wpAny_typeOf_ref (k _ _ at1) (by rw [z1.1]; exact q)
    have ask : ∀ {x : Str} {np : Pos} {c : Value}, Names X x c → ∀ {Q : Value → Shared → Prop} {E : Value → Shared → Prop}, Q c { s' with heap := g1 } →
        wpAny (model X.prog X.w) (X.A.mark (some (.ref a))) (eval (.Name x np) X.env) Q E { s' with heap := g1 } := fun {x np c} nm {Q E} q => by
      obtain ⟨hg, hdb, h1 | ⟨h1, h2, h3⟩⟩ := nm
      · exact ld_glob (X := X.suite a ((a, o1) :: (X.pn ++ pins))) S1 hg h1 q hdb
      · exact ld_blt (X := X.suite a ((a, o1) :: (X.pn ++ pins))) S1 hg h1 h2 q h3 hdb
    have go : ∀ {hs' : List ExceptHandler} {l' : List Cl}, ClOk X hs' l' → wCl X.K Wout D l' cls d σ' H' → wpAny (model X.prog X.w) X.A (handleBy (.ref a) X.env hs') (SP X pins D) X.xe { s' with heap := g1 } := by
      intro hs' l' hk
      induction hk with
      | nil =>
        intro w
        refine wpAny_handleBy_nil ?_
        obtain ⟨_, _, _, oe, vs, Tr, _, _, he, hz, hd, h1, _⟩ := id fl1
        unfold PySem.passOn
        refine wpAny_bind (wpAny_field he hd h1 ?_)
        rw [if_neg (show ¬ ((Value.ref Tr == Value.none) = true) from by simp)]
        have last : wpAny (model X.prog X.w) X.A (setFlight (.ref a) X.env.frame) (fun _ t => wpAny (model X.prog X.w) X.A (throw (.ref a) : Sem Flow) (SP X pins D) X.xe t) X.xe { s' with heap := g1 } := by
          rw [fr]
          refine HandSPX.setFlight_upZ fl1 fun g2 hh2 up2 => wpAny_throw (tk _ _ ?_)
          exact ⟨a, B, sI, pins, σ', H', cls, d, rfl, J, nb, (up.trans up1).trans up2, .inr (.inr (by rw [st]; exact hh2)), na, os, ag, w⟩
        first
          | exact wpAny_bind (wpAny_pure (wpAny_bind last))
          | exact wpAny_bind last
      | bare nm su rest ih =>
        intro w
        obtain ⟨b, hb1, yes, no⟩ := w
        have LM := PySem.W.exm_one (M := model X.prog X.w) J1.kIn LT hb1
        refine wpAny_handleBy_cons (codeAny_handlers_test (ask nm (LM.here ?_))) (fun q => by cases q)
        cases b with
        | false => exact ih (no rfl)
        | true =>
          refine codeAny_handlers_suite (HandSPX.lands_againZ fl1 fun g2 fl2 up2 => ?_)
          have J2 : Inv X pins σ' H' { s' with heap := g2 } := J.landed nb fl2.1 ((up.trans up1).trans up2) os ag
          obtain ⟨o2, vs2, at2, z2, dt2⟩ := fl2.there
          refine wpAny_mono ((su a o2 cls d (X.pn ++ pins) z2 ⟨_, dt2⟩).run [] _ _ H' _ (J2.suite at2 dt2 na offL offF) (yes rfl a na)) (fun f t hsp => ?_) (fun _ _ z => z.elim)
          cases f with
          | ret u =>
            obtain ⟨v6, σ6, H6, S6, r6, q6⟩ := hsp
            exact ⟨_, _, _, S6.unsuite ok, r6, q6⟩
          | next => exact let ⟨_, _, S6, q6⟩ := hsp; ⟨_, _, S6.unsuite ok, q6⟩
          | brk => exact let ⟨_, _, S6, q6⟩ := hsp; ⟨_, _, S6.unsuite ok, q6⟩
          | cont => exact let ⟨_, _, S6, q6⟩ := hsp; ⟨_, _, S6.unsuite ok, q6⟩
      | named nd hi lc nm su rest ih =>
        intro w
        obtain ⟨b, hb1, yes, no⟩ := w
        have LM := PySem.W.exm_one (M := model X.prog X.w) J1.kIn LT hb1
        refine wpAny_handleBy_cons (codeAny_handlers_test (ask nm (LM.here ?_))) (fun q => by cases q)
        cases b with
        | false => exact ih (no rfl)
        | true =>
          refine codeAny_handlers_suite_as (HandSPX.lands_againZ fl1 fun g2 fl2 up2 => ?_)
          have J2 : Inv X pins σ' H' { s' with heap := g2 } := J.landed nb fl2.1 ((up.trans up1).trans up2) os ag
          obtain ⟨o2, vs2, at2, z2, dt2⟩ := fl2.there
          refine store_ok (X := X.suite a ((a, o2) :: (X.pn ++ pins))) (v := .ref a) (J2.suite at2 dt2 na offL offF) nd hi (.inl lc) rfl (fun t S5 => ?_) (.inr lc)
          refine wpAny_mono ((su a o2 cls d (X.pn ++ pins) z2 ⟨_, dt2⟩).run [] t _ H' _ S5 (yes rfl a na)) (fun f t6 hsp => ?_) (fun _ _ z => z.elim)
          cases f with
          | next =>
            obtain ⟨σ6, H6, S6, q6⟩ := hsp
            exact gone_ok (S6.unsuite ok) nd hi lc fun s7 J7 => ⟨_, _, J7, q6⟩
          | brk =>
            obtain ⟨σ6, H6, S6, q6⟩ := hsp
            exact gone_ok (S6.unsuite ok) nd hi lc fun s7 J7 => ⟨_, _, J7, q6⟩
          | cont =>
            obtain ⟨σ6, H6, S6, q6⟩ := hsp
            exact gone_ok (S6.unsuite ok) nd hi lc fun s7 J7 => ⟨_, _, J7, q6⟩
          | ret u =>
            obtain ⟨v6, σ6, H6, S6, r6, q6⟩ := hsp
            exact gone_ok (S6.unsuite ok) nd hi lc fun s7 J7 => ⟨_, _, _, J7, r6, q6⟩
    exact go hh w
  · cases f with
    | ret u => exact let ⟨v, σ', H', J', r, q⟩ := hsp; ⟨v, σ', H', J'.ofTry ok, r, q⟩
    | next =>
      obtain ⟨σ', H', J', q⟩ := hsp
      exact wpAny_execs_nil ⟨σ', H', J'.ofTry ok, q⟩
    | brk => exact let ⟨σ', H', J', q⟩ := hsp; ⟨σ', H', J'.ofTry ok, q⟩
    | cont => exact let ⟨σ', H', J', q⟩ := hsp; ⟨σ', H', J'.ofTry ok, q⟩
end
/-! ### own exceptions -/
/-- what the written part says of an own exception class: the class at C, its __init__ at f -/
structure XCls (K : PySem.W.Frag) (mg : Str → Option Value) (nm : Str) (C f : Addr) : Prop where
  g : mg nm = some (.ref C)
  o : OexC K C
  i : PySem.W.findIn K (.ref C) "__init__" = some (some (.ref f))
  t : PySem.W.typeIn K (.ref f) = some (.type "function")
  x : XfC K C
  e : ExcC K C
theorem xcls_mk {K : PySem.W.Frag} {mg : Str → Option Value} {nm : Str} {C f : Addr} {n q : Str} {N : Addr} {bs bm : List Value} {sn : List Str} {sub : List Value} {ab : Bool} {col : _} {dd : Option Addr} {k0 k1 k2 k3 k5 : Option Value}
    (g : mg nm = some (.ref C)) (l : K.lookup C = some (excClassObj n q C N bs bm true sn sub ab col dd k0 k1 k2 k3 k5 "ValueError.__new__")) (bm' : PySem.HandSPX.refsVE bm = true) (sa : PySem.W.findIn K (.ref C) "__setattr__" = some (some (.builtin "object.__setattr__")))
    (ex : PySem.W.subIn K (.ref C) (.type "BaseException") = some true) (ty : PySem.W.typeIn K (.ref C) = some (.type "type")) (kp : PySem.W.keepIn K (.ref C) = true) (i : PySem.W.findIn K (.ref C) "__init__" = some (some (.ref f)))
    (t : PySem.W.typeIn K (.ref f) = some (.type "function")) (ga : PySem.W.findIn K (.ref C) "__getattribute__" = some (some (.builtin "BaseException.__getattribute__"))) (gg : PySem.W.findIn K (.ref C) "__getattr__" = some none) (hd : PySem.W.hasDictIn K C = true)
    (ha : PySem.W.findIn K (.ref C) "__class__" = some (some (.builtin "object.__class__"))) (hn : PySem.W.specialIn K (.builtin "object.__class__") "__get__" = some (some (.builtin "getset_descriptor.__get__")))
    (ht : PySem.W.takesIn K (.builtin "object.__class__") = some true) (hm : PySem.W.mroIn K C (.type "object") = some true) : XCls K mg nm C f :=
  ⟨g, ⟨⟨n, q, N, bs, bm, sn, sub, ab, col, dd, k0, k1, k2, k3, k5, l, bm'⟩, sa, ex, ty, kp⟩, i, t, ⟨ga, gg, ex, hd⟩, ⟨ga, gg, ex, hd, ha, hn, ht, hm⟩⟩
/-- __init__ of such a class: one field is stored -/
def sp_xinit (K : PySem.W.Frag) (f : Str) : Sp := fun vs H Q _ => ∃ (a C : Addr) (v : V), vs = [.ref a, v] ∧ OexC K C ∧ PySem.W.findIn K (.ref C) f = some none ∧ H a = some (exo a C none) ∧
  ∀ dx, H dx = none → dx ≠ a → Q .non (upd (upd H dx (exd dx [(f, v)])) a (exo a C (some dx)))
/-- raise C(v): what follows holds wherever the new error's dict is told, all else standing -/
theorem mkO_of {K : PySem.W.Frag} {f : Str} {C : Addr} {v : V} {H : Hp} {E : XK} (O : OexC K C) (hn : PySem.W.findIn K (.ref C) f = some none) (k : ∀ d H', H d = none → Same H H' → H' d = some (.xd [(f, v)]) → E (.ref C) (some d) H') :
    [v].length ≤ 1000 ∧ ∀ a, H a = none → sp_xinit K f (.ref a :: ([v] ++ [])) (upd H a (exo a C none))
      (fun w H2 => w = .non ∧ ∃ (d : Addr) (fs : List (Str × V)), H2 a = some (exo a C (some d)) ∧ H2 d = some (exd d fs) ∧ H d = none ∧ E (.ref C) (some d) (upd (del H2 a) d (.xd fs))) (fun _ _ _ => False) := by
  refine ⟨Nat.succ_le_succ (Nat.zero_le _), fun a ha => ⟨a, C, v, rfl, O, hn, upd_same, fun dx hdx ne => ⟨rfl, dx, [(f, v)], upd_same, ?_, ?_, ?_⟩⟩⟩
  · rw [upd_ne ne]
    exact upd_same
  · rw [upd_ne ne] at hdx
    exact hdx
  · have hdx0 : H dx = none := by
      rw [upd_ne ne] at hdx
      exact hdx
    refine k dx _ hdx0 (fun b o e => ?_) upd_same
    have nb : b ≠ dx := ne_of_none e hdx0
    have na : b ≠ a := ne_of_none e ha
    rw [upd_ne nb, del_ne na, upd_ne na, upd_ne nb, upd_ne na]
    exact e
section
variable {X : Cx} {a : Addr} {oe : Obj} {cls : Value} {d : Option Addr} {pn : List (Addr × Obj)} {n : Str}
/-- e.n in a suite, e of whichever class it is -/
def tXg (K : PySem.W.Frag) (a : Addr) (cls : Value) (d : Option Addr) (f : Str) (te : TE) : TE := fun σ H Q => te σ H fun x H1 => x = .ref a ∧ ∃ (C dd : Addr) (fs : List (Str × V)) (v : V), cls = .ref C ∧ XfC K C ∧ PySem.W.findIn K (.ref C) f = some none ∧ d = some dd ∧ H1 dd = some (.xd fs) ∧ fs.lookup f = some v ∧ Q v H1
theorem pe_xg {e : Expr} {te : TE} {pos : Pos} (hz : Zc cls d oe) (hf : ∃ vs, oe.data = .fields vs) (he : PE (X.suite a ((a, oe) :: pn)) e te)
    (hb : attributeBase e n X.env (eval e X.env) = eval e X.env := by rfl) : PE (X.suite a ((a, oe) :: pn)) (.Attribute e n pos) (tXg X.K a cls d n te) := by
  refine ⟨fun pins s σ H Q I h => ?_⟩
  refine attr_of hb (thn (he.run pins s σ H _ I h) fun u s1 hh => ?_)
  obtain ⟨x, H1, I1, rx, ex, C, dd, fs, v, ec, T, hno, ed, ea, l, q⟩ := hh
  subst ex ec ed
  obtain rfl : u = Value.ref a := rx
  obtain ⟨mA, hns, hr⟩ := (show ObjOk X.prog X.w H1 s1.heap dd (.xd fs) from I1.hok dd _ ea)
  obtain ⟨od, ho, hl⟩ := lookIn_ns hns
  obtain ⟨u, hu, ru⟩ := RelO.some_of (v := v) (o := mA n) (by rw [← l]; exact hr n)
  obtain ⟨vs, hv⟩ := hf
  have J : PySem.W.InstAt s1.heap a oe C (some od) := ⟨(I1.pin (a, oe) (List.mem_append_left _ List.mem_cons_self)).1, hz.1, by unfold PySem.W.notCls; rw [hv] <;> rfl, by rw [hz.2]; exact ho⟩
  exact PySem.HandSPX.exc_get I1.kIn J T.ga T.gg T.exC (PySem.W.findObj_own T.hdC hno rfl (by rw [hl, hu])) (handed_of ru) ⟨v, H1, I1.tok _, ru, q⟩
/-- isinstance(e, c) in a suite -/
def rIsX (K : PySem.W.Frag) (a : Addr) (cls : Value) (d : Option Addr) : List V → Hp → VK → Prop := fun xs H Q => ∃ (c : V) (cv : Value) (b : Bool) (D dd : Addr) (fs : List (Str × V)), xs = [.ref a, c] ∧ (∀ u, RelV c u → u = cv) ∧ cls = .ref D ∧ ExcC K D ∧ d = some dd ∧ H dd = some (.xd fs) ∧
  PySem.W.kitOne K (.ref D) cv = some b ∧ Q (.bl b) H
theorem call_isX (hz : Zc cls d oe) (hf : ∃ vs, oe.data = .fields vs) : CallR (X.suite a ((a, oe) :: pn)) (.builtin "isinstance") (rIsX X.K a cls d) := by
  intro pins s σ H xs us Q I r h
  obtain ⟨c, cv, b, D, dd, fs, rfl, hcv, ec, C, ed, ea, e, q⟩ := h
  subst ec ed
  obtain ⟨u1, u2, rfl, r1, r2⟩ := vals2 r
  cases (show u1 = Value.ref a from r1)
  cases (hcv _ r2)
  obtain ⟨mA, hns, hr⟩ := (show ObjOk X.prog X.w H s.heap dd (.xd fs) from I.hok dd _ ea)
  obtain ⟨od, ho, hl⟩ := lookIn_ns hns
  obtain ⟨vs, hv⟩ := hf
  have J : PySem.W.InstAt s.heap a oe D (some od) := ⟨(I.pin (a, oe) (List.mem_append_left _ List.mem_cons_self)).1, hz.1, by unfold PySem.W.notCls; rw [hv] <;> rfl, by rw [hz.2]; exact ho⟩
  obtain ⟨cd, hc, _⟩ := PySem.W.any_some C.hd
  exact PySem.W.kia_one (PySem.W.kitx_exc (by rw [hc]; rfl) C.hg C.hk C.hs C.ha C.hn C.ht C.hm) I.kIn J e (fun z => nomatch z) fun tk => ⟨.bl b, H, I.tok tk, rfl, q⟩
end
section
variable {X : Cx} {CX' : CXT} {k : Nat} {f C : Addr} {fd : FuncData} {ps : List Str} {sp : Sp} {E : St → XK} {x m : Str} {p pos apos : Pos} {e o : Expr} {es : List Expr} {ta : TE} {t : TA}
/-- o.m(..), what it lets out wished for at the caller's slots -/
def tMethX (C : Addr) (m : Str) (sp : Sp) (E : St → XK) (ta : TE) (t : TA) : TE := fun σ H Q => ta σ H fun x H1 => ∃ a dx fs, x = .ref a ∧ H1 a = some (.ins C dx fs) ∧ fs.lookup m = none ∧ t σ H1 fun vs H2 => sp (x :: vs) H2 Q (E σ)
theorem pe_methX {pl : Sem Bool} (he : PE X o ta) (c : Cls X.K C) (hm : Meth X.K C m f) (F : FnOk X.prog X.w X.K X.mg X.base CX' k f fd ps sp) (hr : Room k X.A) (hb : Binds X.K fd ps []) (hx : ∀ σ, PassesAt CX' X σ (E σ)) (ha : PA X (e :: es) t)
    (hst : starEach (e :: es) X.env = (false, eval e X.env) :: starEach es X.env := by rfl) (hpl : (PySem.backTo pos (starEach es X.env)).any (·.1) = false := by rfl)
    (ht : eval (.Call (.Attribute o m apos) (e :: es) [] pos) X.env = (eval o X.env >>= fun ov => standAt apos.atName >>= fun _ => holding [ov] (getMethod ov m pl) >>= fun fr => callWith pos fr.1 fr.2 (PySem.backTo pos (starEach (e :: es) X.env)) (backToKw pos (keywordEach [] X.env))) := by rfl) :
    PE X (.Call (.Attribute o m apos) (e :: es) [] pos) (tMethX C m sp E ta t) := by
  refine ⟨fun pins s σ H Q I h => ?_⟩
  refine PySem.W.methodCall_KW (pl := pl) (thn (he.run pins s σ H _ I h) fun u s1 ⟨x, H1, I1, rx, a, dx, fs, ex, ea, l, q⟩ => ?_) ht
  subst ex
  obtain rfl : u = Value.ref a := rx
  refine getmeth_ok I1 ea c hm l ?_
  refine PySem.W.callWith_K (h₀ := X.base) I1.ok.mod.kin hm.kp (thn (ha.run pos pins s1 σ H1 _ I1 q) fun us s2 ⟨vs, H2, I2, r, q2⟩ => ⟨I2.kIn, ?_⟩) hst hpl
  exact run_fnS (us := .ref a :: us) (vs := .ref a :: vs) F hr hb (hx σ) I2 (.cons rfl r) q2
end
/-- a class that is only named -/
structure GCls (mg : Str → Option Value) (nm : Str) (C : Addr) : Prop where
  g : mg nm = some (.ref C)
/-- what a callee lets out, whatever the slots hold -/
def anyW (n : Nat) (W : WX) : XK := fun cls d H => ∀ σ : L2.St, σ.length = n → W cls d σ H
theorem passes_any {X : Cx} {W : WX} (n : Nat) (tk : Takes X W) (hn : X.N.length = n := by rfl) : Passes (L2.CX X.prog X.w) X (anyW n W) :=
  fun _ σ _ _ e s' I c => tk e s' (XE.of_call I (fun cls d H' h => h σ (I.len.trans hn)) c)
/-! ### super() -/
section
open PySem.Spec PyProof.Rows
/-- the text's own file -/
class SupP (prog : Program) : Prop where
  file : ((prog.main.file : Str) == ("/claim/cut.py" : Str)) = true
  top : (prog.main.scope.names.lookup ("super" : Str)).isSome = false
instance {CX : CXT} {P : Program} {w : World} {K : PySem.W.Frag} {mg : Str → Option Value} {base : Heap} {N : List Str} {qual : Str} {scope : Scope} {f : Addr} {cd : Value} {A : Around} {outer : List Env} {s : Shared} {H : Hp} {E : XK} [h : SupP P] : SupP (cxOf CX P w K mg base N qual scope f cd A outer s H E).prog := h
instance {CX : CXT} {P : Program} {w : World} {K : PySem.W.Frag} {mg : Str → Option Value} {base : Heap} {N : List Str} {F : NdefX.NF} {f : Addr} {A : Around} {outer : List Env} {s : Shared} {H : Hp} {E : XK} [h : SupP P] : SupP (NdefX.ncx CX P w K mg base N F f A outer s H E).prog := h
/-- what the written part says of a def that says super(): its own record, its code, the cell of its class -/
structure SupK (K : PySem.W.Frag) (f cda cc D : Addr) (me : Str) : Prop where
  fn : ∃ (oc : Value) (od : Option Addr) (fd : FuncData) (osl : Array (Option Value)) (ar : Arg), K.lookup f = some ⟨oc, od, .func fd, osl⟩ ∧ (fd.params.posonlyargs ++ fd.params.args).head? = some ar ∧ ar.arg = me
  code : ∃ (ccl : Value) (cdd : Option Addr) (vs : Array Value) (ccs : Array (Option Value)) (tf : Tok), K.lookup cda = some ⟨ccl, cdd, .fields vs, ccs⟩ ∧ vs[2]? = some (.str "/claim/cut.py" tf)
  cell : ∃ (cl : Value) (cld : Option Addr) (csl : Array (Option Value)), K.lookup cc = some ⟨cl, cld, .cell (some (.ref D)), csl⟩
  cls : ∃ cd, PySem.W.clsIn K D = some cd
/-- .. of the class C whose object asks for m above D -/
structure SupC (K : PySem.W.Frag) (C D : Addr) (m : Str) (g : Addr) : Prop where
  cls : ∃ cd, PySem.W.clsIn K C = some cd
  sub : PySem.W.mroIn K C (.ref D) = some true
  at_ : PySem.W.ks_superIn K C D m = some (some (.ref g))
  ty : PySem.W.typeIn K (.ref g) = some (.type "function")
  fn : PySem.W.fnIn K g = true
  any : PySem.W.nsIn K PySem.cStatics "thirdparty.any" = some none
/-- .. and of the def's frame -/
structure SupE (X : Cx) (f cda cc : Addr) (me : Str) : Prop where
  fu : X.env.func = some f
  co : X.env.code = .ref cda
  ce : X.env.cells.lookup ("__class__" : Str) = some cc
  ks : X.env.scope.names.lookup ("super" : Str) = some .globalImplicit
  kc : X.env.scope.names.lookup ("__class__" : Str) = some .free
  ka : X.env.scope.names.lookup me = some .local
  n0 : X.N[0]? = some me
  mg : X.mg "super" = none
variable {X : Cx} {f cda cc D : Addr} {me : Str} {pins : List (Addr × Obj)} {σ : L2.St} {H : Hp} {s : Shared}
theorem super_get {body : List Stmt} {p0 p1 : Pos} {m : Str} {whole : Sem Value} {A : Around} {E : Value → Shared → Prop} {Q : Value → Shared → Prop} {a C : Addr} {ox : Obj} {odx : Option Obj}
    [SP0 : SupP X.prog] (S : SupK X.K f cda cc D me) (V : SupE X f cda cc me) (I : Inv X pins σ H s) (h0 : σ[0]? = some (some (.ref a))) (J : PySem.W.InstAt s.heap a ox C odx) (hsub : PySem.W.mroIn X.K C (.ref D) = some true) (hat : (m == ("__class__" : Str)) = false)
    (h : ∀ so h', (∀ b o, s.heap.get? b = some o → h'.get? b = some o) → so = s.heap.objs.size → h'.get? so = some (PySem.W.ks_superObj D a C) → Q (.ref so) { s with heap := h' }) :
    _root_.PySem.wpAt (model X.prog X.w) A (.func body X.env) (attributeBase (.Call (.Name "super" p0) [] [] p1) m X.env whole) Q E s := by
  obtain ⟨oc, od, fd, osl, ar, hf, hp, rfl⟩ := S.fn
  obtain ⟨ccl, cdd, vs, ccs, tf, hcode, hvs⟩ := S.code
  obtain ⟨cl, cld, csl, hcell⟩ := S.cell
  obtain ⟨cdD, hD⟩ := S.cls
  have KI : X.K.In s.heap := I.kIn
  obtain ⟨oD, hD1, hD2⟩ : ∃ oD, s.heap.get? D = some oD ∧ oD.data = .cls cdD := by
    unfold PySem.W.clsIn at hD
    split at hD
    · rename_i c d cd' sl ho
      cases hD
      exact ⟨_, KI _ _ ho, rfl⟩
    · cases hD
  obtain ⟨mL, hns, hl⟩ := I.loc
  obtain ⟨u, ru, lk⟩ := hl 0 ar.arg (.ref a) V.n0 h0 (.inl V.ka)
  cases (show u = Value.ref a from ru)
  have hv : mL ar.arg = some (.ref a) := by
    rcases lk with ⟨_, e⟩ | ⟨e, _⟩
    · exact e
    · rcases e with e | e <;> (rw [show X.env.kindOf ar.arg = some .local from V.ka] at e; cases e)
  obtain ⟨mb, h1, h2⟩ := I.mod.blt
  refine PySem.ks_wpAt_super_base (env := X.env) V.ks V.kc hat V.fu (KI _ _ hf) rfl hp V.co (KI _ _ hcode) rfl hvs SP0.file SP0.top ?_
  refine PySem.W.ks_loadName_global I.ok.kind V.ks (PySem.Calls.loadGlobal_builtin (by rw [I.ok.glob]; exact I.mod.glob.keeps I.bk) V.mg (by rw [I.ok.blt]; exact h1.keeps I.bk) ((h2 "super" (by decide)).trans (show bootBuiltins "super" = some (.type "super") by decide +kernel)) ⟨rfl, ?_⟩)
  refine wpAny_loadName_free I.ok.kind V.kc V.ce ⟨_, KI _ _ hcell, rfl⟩ ?_
  refine wpAny_loadName_local I.ok.kind V.ka hns hv ?_
  obtain ⟨hh, g, d, t, os⟩ := s
  refine PySem.ks_wpAny_isType_cls hD1 hD2 ⟨rfl, ?_⟩
  refine PySem.ks_wpAny_call_super hD1 hD2 J.at_ J.cls (fun c e => ?_) (PySem.W.looks_mroIn KI hsub) (fun h' e k => ?_)
  · have := J.no
    unfold PySem.W.notCls at this
    rw [e] at this
    exact Bool.noConfusion this
  · exact h _ _ k rfl e
/-- a statement, statements, run in the code of a def's body -/
structure PSA (X : Cx) (body : List Stmt) (st : Stmt) (t : TS) : Prop where
  run : ∀ (pins : List (Addr × Obj)) (s : Shared) (σ : L2.St) (H : Hp) (D : Ends), Inv X pins σ H s → t D σ H → _root_.PySem.wpAt (model X.prog X.w) X.A (.func body X.env) (exec st X.env) (SP X pins D) X.xe s
structure PSsA (X : Cx) (body : List Stmt) (ss : List Stmt) (t : TS) : Prop where
  run : ∀ (pins : List (Addr × Obj)) (s : Shared) (σ : L2.St) (H : Hp) (D : Ends), Inv X pins σ H s → t D σ H → _root_.PySem.wpAt (model X.prog X.w) X.A (.func body X.env) (execs ss X.env) (SP X pins D) X.xe s
variable {body : List Stmt} {st : Stmt} {ss : List Stmt} {t u : TS}
theorem psa_of (h : PS X st t) : PSA X body st t := ⟨fun pins s σ H D I q => wpAt_of_wpAny (h.run pins s σ H D I q)⟩
theorem pssa_of (h : PSs X ss t) : PSsA X body ss t := ⟨fun pins s σ H D I q => wpAt_of_wpAny (h.run pins s σ H D I q)⟩
theorem pssa_cons (h : PSA X body st t) (r : PSsA X body ss u) : PSsA X body (st :: ss) (tSeq t u) := by
  refine ⟨fun pins s σ H D I q => PySem.ks_wpAt_execs_cons (PySem.ks_wpAt_mono (h.run pins s σ H _ I q) (fun f s' hs => ?_) fun _ _ z => z)⟩
  cases f with
  | next =>
    obtain ⟨σ', H', I', q'⟩ := hs
    exact r.run pins s' σ' H' D I' q'
  | ret v => exact hs
  | brk => exact hs
  | cont => exact hs
theorem pssa_one (h : PSA X body st t) : PSsA X body [st] t := by
  refine ⟨fun pins s σ H D I q => PySem.ks_wpAt_execs_cons (PySem.ks_wpAt_mono (h.run pins s σ H _ I q) (fun f s' hs => ?_) fun _ _ z => z)⟩
  cases f with
  | next =>
    obtain ⟨σ', H', I', q'⟩ := hs
    exact wpAt_of_wpAny (pss_nil.run pins s' σ' H' D I' q')
  | ret v => exact hs
  | brk => exact hs
  | cont => exact hs
theorem psa_if {c : Expr} {a b : List Stmt} {tc : TT} {pos : Pos} (hc : PT X c tc) (ha : PSsA X body a t) (hb : PSsA X body b u) : PSA X body (.If c a b pos) (tIfS tc t u) := by
  refine ⟨fun pins s σ H D I h => ?_⟩
  refine PySem.ks_wpAt_If (PySem.ks_wpAt_mono (wpAt_of_wpAny (hc.run pins s σ H _ I h)) (fun d s1 ⟨H1, I1, q1⟩ => ?_) fun _ _ z => z)
  cases d with
  | true => exact ha.run pins s1 σ H1 D I1 q1
  | false => exact hb.run pins s1 σ H1 D I1 q1
/-- super().m(e, ..), its answer let go -/
def tSup (K : PySem.W.Frag) (D : Addr) (m : Str) (g : Addr) (sp : Sp) (E : XK) (t : TA) : TS := fun Dn σ H => ∃ a C dx fs, σ[0]? = some (some (.ref a)) ∧ H a = some (.ins C dx fs) ∧ SupC K C D m g ∧ t σ H fun vs H1 => sp (.ref a :: vs) H1 (fun _ H2 => Dn.nx σ H2) E
theorem psa_super {p0 p1 apos pos pos' : Pos} {m : Str} {g : Addr} {CX : CXT} {k : Nat} {sp : Sp} {E : XK} {e : Expr} {es : List Expr} {ta : TA} [SP0 : SupP X.prog] (S : SupK X.K f cda cc D me) (V : SupE X f cda cc me) (F : FnR X.prog X.w X.K X.mg X.base CX k g sp) (hr : Room k X.A) (hx : Passes CX X E) (ha : PA X (e :: es) ta)
    (hat : (m == ("__class__" : Str)) = false := by decide)
    (he : eval (.Call (.Attribute (.Call (.Name "super" p0) [] [] p1) m apos) (e :: es) [] pos) X.env = (do
      let ov ← attributeBase (.Call (.Name "super" p0) [] [] p1) m X.env (eval (.Call (.Name "super" p0) [] [] p1) X.env)
      standAt apos.atName
      let (f, first) ← holding [ov] (getMethod ov m (pure false))
      callWith pos f first (backTo pos (starEach (e :: es) X.env)) []) := by rfl)
    (hst : starEach (e :: es) X.env = (false, eval e X.env) :: starEach es X.env := by rfl) (hpl : (backTo pos (starEach es X.env)).any (·.1) = false := by rfl) (hi : interactive X.env = false := by rfl)
    (hs : swapsWith (.Call (.Attribute (.Call (.Name "super" p0) [] [] p1) m apos) (e :: es) [] pos) none pos'.line X.env = pure false := by rfl) :
    PSA X body (.Expr (.Call (.Attribute (.Call (.Name "super" p0) [] [] p1) m apos) (e :: es) [] pos) pos') (tSup X.K D m g sp E ta) := by
  refine ⟨fun pins s σ H Dn I h => ?_⟩
  obtain ⟨a, C, dx, fs, h0, hA, SC, q⟩ := h
  obtain ⟨mA, O, _⟩ := ins_get I.hok hA
  obtain ⟨od, J, _⟩ := O.look
  obtain ⟨cd, hcd⟩ := SC.cls
  refine PySem.ks_wpAt_Expr_any ?_ hi hs
  refine PySem.ks_wpAt_MethodCall ?_ he
  refine super_get S V I h0 J SC.sub hat fun so h' kp hso hobj => ?_
  have I1 : Inv X pins σ H { s with heap := h' } := I.kept (t' := s.toks) kp
  have KI : X.K.In h' := I1.kIn
  obtain ⟨mA', O', _⟩ := ins_get I1.hok hA
  obtain ⟨od', J1, _⟩ := O'.look
  obtain ⟨of, hof, hofc⟩ : ∃ of, h'.get? g = some of ∧ of.cls = .type "function" := by
    have ht' : (X.K.lookup g).map (·.cls) = some (.type "function") := SC.ty
    cases z : X.K.lookup g with
    | none => rw [z] at ht'; cases ht'
    | some of => rw [z] at ht'; exact ⟨of, KI _ _ z, Option.some.inj ht'⟩
  have hal : PySem.W.alongIn X.K m ((cd.mro.dropWhile (· != .ref D)).drop 1) = some (some (.ref g)) := by
    have := SC.at_
    unfold PySem.W.ks_superIn at this
    rw [hcd] at this
    exact this
  obtain ⟨hh, gg, dd, tt, os⟩ := s
  refine PySem.ks_wpAny_getMethod_super hobj (PySem.W.looks_opaque KI SC.any) (l₀ := cd.mro) (fun A Q E s k q => wpAny_bind ((PySem.W.looks_clsIn KI hcd) A _ E s k (wpAny_pure q))) rfl KI hal hof hofc (PySem.W.ks_ne KI J1 hcd) hat ?_
  have I2 := ClX.met_new (g := g) (C := a) I1
  refine wpAny_mono (ClX.callwith_cm I2 (ClX.base_none I1 (Nat.le_refl _)) SC.fn (thn (ha.run pos _ _ σ H _ I2 q) fun us s3 ⟨vs, H1, I3, r, q3⟩ => ⟨⟨ClX.pin_at I3, I3.kIn⟩, ClX.run_cm F hr hx I3 r q3⟩) hst hpl) (fun v s' hv => ?_) fun _ _ z => z
  obtain ⟨_, H', I', _, q'⟩ := hv
  exact ⟨σ, H', I', q'⟩
end
/-! ### a def that says super() -/
section
open PySem.Spec PyProof.Rows
structure FunC (K : PySem.W.Frag) (x qual : Str) (st : Stmt) (f cda cc : Addr) (fd : FuncData) : Prop where
  ex : ∃ (oc : Value) (od : Option Addr) (dV kV doc pm : Value) (an : Option Addr) (ct : Value) (osl : Array (Option Value)),
    fd = PySem.W.fnX x qual (defArgs st) (defBody st) (defScope st) [("__class__", cc)] dV kV doc pm an (.ref cda) ct ∧ K.lookup f = some ⟨oc, od, .func fd, osl⟩ ∧ PySem.W.codeIn K (.ref cda) qual = true
  kp : PySem.W.keepIn K (.ref f) = true
abbrev nfS (x qual : Str) (st : Stmt) (cda cc : Addr) : NdefX.NF := ⟨x, qual, defArgs st, defBody st, defScope st, [("__class__", cc)], cda⟩
theorem FunC.okX {CX : CXT} {P : Program} {w : World} {K : PySem.W.Frag} {mg : Str → Option Value} {base : Heap} {x qual : Str} {st : Stmt} {f cda cc D : Addr} {fd : FuncData} {N ps : List Str} {k : Nat} {sp : Sp} (F : FunC K x qual st f cda cc fd)
    (hc : ∃ (cl : Value) (cld : Option Addr) (csl : Array (Option Value)), K.lookup cc = some ⟨cl, cld, .cell (some (.ref D)), csl⟩) (S : NdefX.NScope N ps ["__class__"] (defScope st)) (len : ∀ vs H Q E, sp vs H Q E → vs.length = ps.length)
    (hbody : ∀ (A : Around) (outer : List Env) (s : Shared) (H : Hp) (vs : List V) (Q : VK) (E : XK), Room k (A.deeper (NdefX.envF (nfS x qual st cda cc) f s.heap.objs.size)) → sp vs H Q E →
      ∃ t, PSsA (NdefX.ncx CX P w K mg base N (nfS x qual st cda cc) f A outer s H E) (defBody st) (defBody st) t ∧ t { nx := fun _ H' => Q .non H', rt := Q } (NdefX.startF N vs [none]) H) : FnOk P w K mg base CX (k + 1) f fd ps sp := by
  obtain ⟨oc, od, dV, kV, doc, pm, an, ct, osl, rfl, lk, hcd⟩ := F.ex
  refine ⟨len, fun A outer s H args us vs Q E hr e0 hb r hsp => ?_⟩
  have hl := len _ _ _ _ hsp
  have KX : K.In s.heap := e0.mod.kin.keeps fun b o e => (e0.bs b o e).1
  have lim : s.heap.NoLimit := e0.mod.nolimit.keeps fun b o e => (e0.bs b o e).1
  obtain ⟨cl, cld, csl, hcell⟩ := hc
  have C : NdefX.CellsAt [("__class__", cc)] ["__class__"] [none] s.heap H := by
    refine ⟨rfl, fun y c e => ?_, fun x y c e1 e2 => ?_, fun i y hi => ?_⟩
    · simp only [List.lookup] at e
      split at e
      · cases e
        exact ⟨(e0.bs _ _ (e0.mod.kin _ _ hcell)).2, some (.ref D), ⟨_, KX _ _ hcell, rfl⟩⟩
      · cases e
    · simp only [List.lookup] at e1 e2
      split at e1
      · split at e2
        · rename_i q1 _ q2
          rw [beq_iff_eq.mp q1, beq_iff_eq.mp q2]
        · cases e2
      · cases e1
    · cases i with
      | zero =>
        cases hi
        exact ⟨cc, rfl, fun v hv => by cases hv⟩
      | succ i => cases hi
  refine PySem.ks_codeAny_call_defAt (body := defBody st) (binds := ps.zip us) hr.depth (KX _ _ lk) rfl lim (PySem.W.codeRec_of KX hcd) rfl hb S.nocell (fun ⟨n, _⟩ hy => S.par n (List.of_mem_zip hy).1) (fun h₁ hns kp => ?_) S.co S.gen S.kind
  obtain ⟨t, ht, hq⟩ := hbody A outer s H vs Q E (hr.deeper _) hsp
  have I : Inv (NdefX.ncx CX P w K mg base N (nfS x qual st cda cc) f A outer s H E) [] (NdefX.startF N vs [none]) H { s with heap := h₁, toks := s.toks + (ps.zip us).length } := NdefX.inv_startN S hr.hd e0 hl r C hns kp
  refine PySem.ks_wpAt_mono (ht.run [] _ (NdefX.startF N vs [none]) H _ I hq) (fun fl s' hs => ?_) fun e s' hs => hs
  have fin : ∀ {σ' : L2.St} {H' : Hp} {v : V} {u : Value}, Inv (NdefX.ncx CX P w K mg base N (nfS x qual st cda cc) f A outer s H E) [] σ' H' s' → L2.RelV v u → Q v H' → CE outer P w H s Q u s' :=
    fun {σ' H' v u} J rv q => ⟨v, H', J.os, J.bare, J.base, J.hok, rv, q⟩
  cases fl with
  | ret u =>
    obtain ⟨v, σ', H', J, rv, q⟩ := hs
    exact fin J rv q
  | next =>
    obtain ⟨σ', H', J, q⟩ := hs
    exact fin (v := V.non) (u := Value.none) J rfl q
  | brk =>
    obtain ⟨_, _, _, q⟩ := hs
    exact False.elim q
  | cont =>
    obtain ⟨_, _, _, q⟩ := hs
    exact False.elim q
end
def top (i : Nat) : Stmt := PySem.Challenge.pw_lossway_k24_controls_made.main.body.getD i (.Pass ⟨0, 0, 0, 0⟩)
abbrev s_InvalidNumber_init_ : Stmt := inClass (top 2) 0
theorem st_InvalidNumber_init_ {t : TS} {D : Ends} {H : Hp} {v0 v1 : V} (h : t D [some v0, some v1] H) : t D (L2.start ["self", "number"] [v0, v1]) H := h
theorem sc_InvalidNumber_init_ : FnScope ["self", "number"] ["self", "number"] (defScope s_InvalidNumber_init_) := ⟨rfl, rfl, rfl, by decide +kernel, rfl, by decide +kernel, by decide +kernel⟩
abbrev s_InvalidSetting_init_ : Stmt := inClass (top 3) 0
theorem st_InvalidSetting_init_ {t : TS} {D : Ends} {H : Hp} {v0 v1 : V} (h : t D [some v0, some v1] H) : t D (L2.start ["self", "setting"] [v0, v1]) H := h
theorem sc_InvalidSetting_init_ : FnScope ["self", "setting"] ["self", "setting"] (defScope s_InvalidSetting_init_) := ⟨rfl, rfl, rfl, by decide +kernel, rfl, by decide +kernel, by decide +kernel⟩
abbrev s_is_integer : Stmt := top 5
theorem st_is_integer {t : TS} {D : Ends} {H : Hp} {v0 : V} (h : t D [some v0] H) : t D (L2.start ["value"] [v0]) H := h
theorem sc_is_integer : FnScope ["value"] ["value"] (defScope s_is_integer) := ⟨rfl, rfl, rfl, by decide +kernel, rfl, by decide +kernel, by decide +kernel⟩
abbrev s_is_between : Stmt := top 6
theorem st_is_between {t : TS} {D : Ends} {H : Hp} {v0 v1 v2 : V} (h : t D [some v0, some v1, some v2] H) : t D (L2.start ["value", "low", "high"] [v0, v1, v2]) H := h
theorem sc_is_between : FnScope ["value", "low", "high"] ["value", "low", "high"] (defScope s_is_between) := ⟨rfl, rfl, rfl, by decide +kernel, rfl, by decide +kernel, by decide +kernel⟩
abbrev s_require_new_bytes : Stmt := top 9
theorem st_require_new_bytes {t : TS} {D : Ends} {H : Hp} {v0 : V} (h : t D [some v0] H) : t D (L2.start ["count"] [v0]) H := h
theorem sc_require_new_bytes : FnScope ["count"] ["count"] (defScope s_require_new_bytes) := ⟨rfl, rfl, rfl, by decide +kernel, rfl, by decide +kernel, by decide +kernel⟩
abbrev s_Control_init_ : Stmt := inClass (top 10) 2
theorem st_Control_init_ {t : TS} {D : Ends} {H : Hp} {v0 v1 : V} (h : t D [some v0, some v1] H) : t D (L2.start ["self", "unit"] [v0, v1]) H := h
theorem sc_Control_init_ : FnScope ["self", "unit"] ["self", "unit"] (defScope s_Control_init_) := ⟨rfl, rfl, rfl, by decide +kernel, rfl, by decide +kernel, by decide +kernel⟩
abbrev s_Control_starting : Stmt := inClass (top 10) 3
theorem st_Control_starting {t : TS} {D : Ends} {H : Hp} {v0 : V} (h : t D [some v0] H) : t D (L2.start ["self"] [v0]) H := h
theorem sc_Control_starting : FnScope ["self"] ["self"] (defScope s_Control_starting) := ⟨rfl, rfl, rfl, by decide +kernel, rfl, by decide +kernel, by decide +kernel⟩
abbrev s_Control_on_ack : Stmt := inClass (top 10) 4
theorem st_Control_on_ack {t : TS} {D : Ends} {H : Hp} {v0 v1 v2 v3 : V} (h : t D [some v0, some v1, some v2, some v3] H) : t D (L2.start ["self", "count", "flight", "now"] [v0, v1, v2, v3]) H := h
theorem sc_Control_on_ack : FnScope ["self", "count", "flight", "now"] ["self", "count", "flight", "now"] (defScope s_Control_on_ack) := ⟨rfl, rfl, rfl, by decide +kernel, rfl, by decide +kernel, by decide +kernel⟩
abbrev s_Control_grow : Stmt := inClass (top 10) 5
theorem st_Control_grow {t : TS} {D : Ends} {H : Hp} {v0 v1 v2 : V} (h : t D [some v0, some v1, some v2] H) : t D (L2.start ["self", "count", "now"] [v0, v1, v2]) H := h
theorem sc_Control_grow : FnScope ["self", "count", "now"] ["self", "count", "now"] (defScope s_Control_grow) := ⟨rfl, rfl, rfl, by decide +kernel, rfl, by decide +kernel, by decide +kernel⟩
abbrev s_Control_on_loss : Stmt := inClass (top 10) 6
theorem st_Control_on_loss {t : TS} {D : Ends} {H : Hp} {v0 v1 v2 : V} (h : t D [some v0, some v1, some v2] H) : t D (L2.start ["self", "flight", "now"] [v0, v1, v2]) H := h
theorem sc_Control_on_loss : FnScope ["self", "flight", "now"] ["self", "flight", "now"] (defScope s_Control_on_loss) := ⟨rfl, rfl, rfl, by decide +kernel, rfl, by decide +kernel, by decide +kernel⟩
abbrev s_Control_on_expiry : Stmt := inClass (top 10) 7
theorem st_Control_on_expiry {t : TS} {D : Ends} {H : Hp} {v0 v1 v2 : V} (h : t D [some v0, some v1, some v2] H) : t D (L2.start ["self", "flight", "now"] [v0, v1, v2]) H := h
theorem sc_Control_on_expiry : FnScope ["self", "flight", "now"] ["self", "flight", "now"] (defScope s_Control_on_expiry) := ⟨rfl, rfl, rfl, by decide +kernel, rfl, by decide +kernel, by decide +kernel⟩
abbrev s_Control_on_sample : Stmt := inClass (top 10) 8
theorem st_Control_on_sample {t : TS} {D : Ends} {H : Hp} {v0 v1 : V} (h : t D [some v0, some v1] H) : t D (L2.start ["self", "ticks"] [v0, v1]) H := h
theorem sc_Control_on_sample : FnScope ["self", "ticks"] ["self", "ticks"] (defScope s_Control_on_sample) := ⟨rfl, rfl, rfl, by decide +kernel, rfl, by decide +kernel, by decide +kernel⟩
abbrev s_Control_set_window : Stmt := inClass (top 10) 9
theorem st_Control_set_window {t : TS} {D : Ends} {H : Hp} {v0 v1 : V} (h : t D [some v0, some v1] H) : t D (L2.start ["self", "window"] [v0, v1]) H := h
theorem sc_Control_set_window : FnScope ["self", "window"] ["self", "window"] (defScope s_Control_set_window) := ⟨rfl, rfl, rfl, by decide +kernel, rfl, by decide +kernel, by decide +kernel⟩
abbrev s_Fixed_init_ : Stmt := inClass (top 11) 1
theorem st_Fixed_init_ {t : TS} {D : Ends} {H : Hp} {v0 v1 v2 : V} (h : t D [some v0, some v1, some v2, none] H) : t D (NdefX.startF ["self", "unit", "pieces", "__class__"] [v0, v1, v2] [none]) H := h
theorem se_Fixed_init_ : (defScope s_Fixed_init_).names.lookup ("super" : Str) = some .globalImplicit ∧ (defScope s_Fixed_init_).names.lookup ("__class__" : Str) = some .free ∧ (defScope s_Fixed_init_).names.lookup ("self" : Str) = some .local := by decide +kernel
theorem sc_Fixed_init_ : NdefX.NScope ["self", "unit", "pieces", "__class__"] ["self", "unit", "pieces"] ["__class__"] (defScope s_Fixed_init_) := NdefX.nscope_by (by decide +kernel)
abbrev s_Fixed_on_ack : Stmt := inClass (top 11) 2
theorem st_Fixed_on_ack {t : TS} {D : Ends} {H : Hp} {v0 v1 v2 v3 : V} (h : t D [some v0, some v1, some v2, some v3] H) : t D (L2.start ["self", "count", "flight", "now"] [v0, v1, v2, v3]) H := h
theorem sc_Fixed_on_ack : FnScope ["self", "count", "flight", "now"] ["self", "count", "flight", "now"] (defScope s_Fixed_on_ack) := ⟨rfl, rfl, rfl, by decide +kernel, rfl, by decide +kernel, by decide +kernel⟩
abbrev s_Fixed_grow : Stmt := inClass (top 11) 3
theorem st_Fixed_grow {t : TS} {D : Ends} {H : Hp} {v0 v1 v2 : V} (h : t D [some v0, some v1, some v2] H) : t D (L2.start ["self", "count", "now"] [v0, v1, v2]) H := h
theorem sc_Fixed_grow : FnScope ["self", "count", "now"] ["self", "count", "now"] (defScope s_Fixed_grow) := ⟨rfl, rfl, rfl, by decide +kernel, rfl, by decide +kernel, by decide +kernel⟩
abbrev s_Fixed_on_loss : Stmt := inClass (top 11) 4
theorem st_Fixed_on_loss {t : TS} {D : Ends} {H : Hp} {v0 v1 v2 : V} (h : t D [some v0, some v1, some v2] H) : t D (L2.start ["self", "flight", "now"] [v0, v1, v2]) H := h
theorem sc_Fixed_on_loss : FnScope ["self", "flight", "now"] ["self", "flight", "now"] (defScope s_Fixed_on_loss) := ⟨rfl, rfl, rfl, by decide +kernel, rfl, by decide +kernel, by decide +kernel⟩
abbrev s_Fixed_on_expiry : Stmt := inClass (top 11) 5
theorem st_Fixed_on_expiry {t : TS} {D : Ends} {H : Hp} {v0 v1 v2 : V} (h : t D [some v0, some v1, some v2] H) : t D (L2.start ["self", "flight", "now"] [v0, v1, v2]) H := h
theorem sc_Fixed_on_expiry : FnScope ["self", "flight", "now"] ["self", "flight", "now"] (defScope s_Fixed_on_expiry) := ⟨rfl, rfl, rfl, by decide +kernel, rfl, by decide +kernel, by decide +kernel⟩
abbrev s_Fixed_on_sample : Stmt := inClass (top 11) 6
theorem st_Fixed_on_sample {t : TS} {D : Ends} {H : Hp} {v0 v1 : V} (h : t D [some v0, some v1] H) : t D (L2.start ["self", "ticks"] [v0, v1]) H := h
theorem sc_Fixed_on_sample : FnScope ["self", "ticks"] ["self", "ticks"] (defScope s_Fixed_on_sample) := ⟨rfl, rfl, rfl, by decide +kernel, rfl, by decide +kernel, by decide +kernel⟩
abbrev s_Climb_on_ack : Stmt := inClass (top 12) 1
theorem st_Climb_on_ack {t : TS} {D : Ends} {H : Hp} {v0 v1 v2 v3 : V} (h : t D [some v0, some v1, some v2, some v3, none] H) : t D (NdefX.startF ["self", "count", "flight", "now", "__class__"] [v0, v1, v2, v3] [none]) H := h
theorem se_Climb_on_ack : (defScope s_Climb_on_ack).names.lookup ("super" : Str) = some .globalImplicit ∧ (defScope s_Climb_on_ack).names.lookup ("__class__" : Str) = some .free ∧ (defScope s_Climb_on_ack).names.lookup ("self" : Str) = some .local := by decide +kernel
theorem sc_Climb_on_ack : NdefX.NScope ["self", "count", "flight", "now", "__class__"] ["self", "count", "flight", "now"] ["__class__"] (defScope s_Climb_on_ack) := NdefX.nscope_by (by decide +kernel)
abbrev s_Climb_grow : Stmt := inClass (top 12) 2
theorem st_Climb_grow {t : TS} {D : Ends} {H : Hp} {v0 v1 v2 : V} (h : t D [some v0, some v1, some v2] H) : t D (L2.start ["self", "count", "now"] [v0, v1, v2]) H := h
theorem sc_Climb_grow : FnScope ["self", "count", "now"] ["self", "count", "now"] (defScope s_Climb_grow) := ⟨rfl, rfl, rfl, by decide +kernel, rfl, by decide +kernel, by decide +kernel⟩
abbrev s_Climb_step : Stmt := inClass (top 12) 3
theorem st_Climb_step {t : TS} {D : Ends} {H : Hp} {v0 : V} (h : t D [some v0] H) : t D (L2.start ["self"] [v0]) H := h
theorem sc_Climb_step : FnScope ["self"] ["self"] (defScope s_Climb_step) := ⟨rfl, rfl, rfl, by decide +kernel, rfl, by decide +kernel, by decide +kernel⟩
abbrev s_Climb_on_loss : Stmt := inClass (top 12) 4
theorem st_Climb_on_loss {t : TS} {D : Ends} {H : Hp} {v0 v1 v2 : V} (h : t D [some v0, some v1, some v2, none] H) : t D (NdefX.startF ["self", "flight", "now", "__class__"] [v0, v1, v2] [none]) H := h
theorem se_Climb_on_loss : (defScope s_Climb_on_loss).names.lookup ("super" : Str) = some .globalImplicit ∧ (defScope s_Climb_on_loss).names.lookup ("__class__" : Str) = some .free ∧ (defScope s_Climb_on_loss).names.lookup ("self" : Str) = some .local := by decide +kernel
theorem sc_Climb_on_loss : NdefX.NScope ["self", "flight", "now", "__class__"] ["self", "flight", "now"] ["__class__"] (defScope s_Climb_on_loss) := NdefX.nscope_by (by decide +kernel)
abbrev s_Climb_on_expiry : Stmt := inClass (top 12) 5
theorem st_Climb_on_expiry {t : TS} {D : Ends} {H : Hp} {v0 v1 v2 : V} (h : t D [some v0, some v1, some v2, none] H) : t D (NdefX.startF ["self", "flight", "now", "__class__"] [v0, v1, v2] [none]) H := h
theorem se_Climb_on_expiry : (defScope s_Climb_on_expiry).names.lookup ("super" : Str) = some .globalImplicit ∧ (defScope s_Climb_on_expiry).names.lookup ("__class__" : Str) = some .free ∧ (defScope s_Climb_on_expiry).names.lookup ("self" : Str) = some .local := by decide +kernel
theorem sc_Climb_on_expiry : NdefX.NScope ["self", "flight", "now", "__class__"] ["self", "flight", "now"] ["__class__"] (defScope s_Climb_on_expiry) := NdefX.nscope_by (by decide +kernel)
abbrev s_Climb_on_sample : Stmt := inClass (top 12) 6
theorem st_Climb_on_sample {t : TS} {D : Ends} {H : Hp} {v0 v1 : V} (h : t D [some v0, some v1, none] H) : t D (NdefX.startF ["self", "ticks", "__class__"] [v0, v1] [none]) H := h
theorem se_Climb_on_sample : (defScope s_Climb_on_sample).names.lookup ("super" : Str) = some .globalImplicit ∧ (defScope s_Climb_on_sample).names.lookup ("__class__" : Str) = some .free ∧ (defScope s_Climb_on_sample).names.lookup ("self" : Str) = some .local := by decide +kernel
theorem sc_Climb_on_sample : NdefX.NScope ["self", "ticks", "__class__"] ["self", "ticks"] ["__class__"] (defScope s_Climb_on_sample) := NdefX.nscope_by (by decide +kernel)
abbrev s_is_kind : Stmt := top 15
theorem st_is_kind {t : TS} {D : Ends} {H : Hp} {v0 : V} (h : t D [some v0] H) : t D (L2.start ["value"] [v0]) H := h
theorem sc_is_kind : FnScope ["value"] ["value"] (defScope s_is_kind) := ⟨rfl, rfl, rfl, by decide +kernel, rfl, by decide +kernel, by decide +kernel⟩
abbrev s_Curve_init_ : Stmt := inClass (top 16) 1
theorem st_Curve_init_ {t : TS} {D : Ends} {H : Hp} {v0 v1 : V} (h : t D [some v0, some v1, none] H) : t D (NdefX.startF ["self", "unit", "__class__"] [v0, v1] [none]) H := h
theorem se_Curve_init_ : (defScope s_Curve_init_).names.lookup ("super" : Str) = some .globalImplicit ∧ (defScope s_Curve_init_).names.lookup ("__class__" : Str) = some .free ∧ (defScope s_Curve_init_).names.lookup ("self" : Str) = some .local := by decide +kernel
theorem sc_Curve_init_ : NdefX.NScope ["self", "unit", "__class__"] ["self", "unit"] ["__class__"] (defScope s_Curve_init_) := NdefX.nscope_by (by decide +kernel)
abbrev s_Curve_on_ack : Stmt := inClass (top 16) 2
theorem st_Curve_on_ack {t : TS} {D : Ends} {H : Hp} {v0 v1 v2 v3 : V} (h : t D [some v0, some v1, some v2, some v3, none] H) : t D (NdefX.startF ["self", "count", "flight", "now", "__class__"] [v0, v1, v2, v3] [none]) H := h
theorem se_Curve_on_ack : (defScope s_Curve_on_ack).names.lookup ("super" : Str) = some .globalImplicit ∧ (defScope s_Curve_on_ack).names.lookup ("__class__" : Str) = some .free ∧ (defScope s_Curve_on_ack).names.lookup ("self" : Str) = some .local := by decide +kernel
theorem sc_Curve_on_ack : NdefX.NScope ["self", "count", "flight", "now", "__class__"] ["self", "count", "flight", "now"] ["__class__"] (defScope s_Curve_on_ack) := NdefX.nscope_by (by decide +kernel)
abbrev s_Curve_grow : Stmt := inClass (top 16) 3
theorem st_Curve_grow {t : TS} {D : Ends} {H : Hp} {v0 v1 v2 : V} (h : t D [some v0, some v1, some v2, none, none] H) : t D (NdefX.startF ["self", "count", "now", "__class__", "target"] [v0, v1, v2] [none]) H := h
theorem se_Curve_grow : (defScope s_Curve_grow).names.lookup ("super" : Str) = some .globalImplicit ∧ (defScope s_Curve_grow).names.lookup ("__class__" : Str) = some .free ∧ (defScope s_Curve_grow).names.lookup ("self" : Str) = some .local := by decide +kernel
theorem sc_Curve_grow : NdefX.NScope ["self", "count", "now", "__class__", "target"] ["self", "count", "now"] ["__class__"] (defScope s_Curve_grow) := NdefX.nscope_by (by decide +kernel)
abbrev s_Curve_on_loss : Stmt := inClass (top 16) 4
theorem st_Curve_on_loss {t : TS} {D : Ends} {H : Hp} {v0 v1 v2 : V} (h : t D [some v0, some v1, some v2] H) : t D (L2.start ["self", "flight", "now"] [v0, v1, v2]) H := h
theorem sc_Curve_on_loss : FnScope ["self", "flight", "now"] ["self", "flight", "now"] (defScope s_Curve_on_loss) := ⟨rfl, rfl, rfl, by decide +kernel, rfl, by decide +kernel, by decide +kernel⟩
abbrev s_Curve_span_to : Stmt := inClass (top 16) 5
theorem st_Curve_span_to {t : TS} {D : Ends} {H : Hp} {v0 v1 : V} (h : t D [some v0, some v1, none] H) : t D (L2.start ["self", "peak", "span"] [v0, v1]) H := h
theorem sc_Curve_span_to : FnScope ["self", "peak", "span"] ["self", "peak"] (defScope s_Curve_span_to) := ⟨rfl, rfl, rfl, by decide +kernel, rfl, by decide +kernel, by decide +kernel⟩
abbrev s_Curve_on_expiry : Stmt := inClass (top 16) 6
theorem st_Curve_on_expiry {t : TS} {D : Ends} {H : Hp} {v0 v1 v2 : V} (h : t D [some v0, some v1, some v2, none] H) : t D (NdefX.startF ["self", "flight", "now", "__class__"] [v0, v1, v2] [none]) H := h
theorem se_Curve_on_expiry : (defScope s_Curve_on_expiry).names.lookup ("super" : Str) = some .globalImplicit ∧ (defScope s_Curve_on_expiry).names.lookup ("__class__" : Str) = some .free ∧ (defScope s_Curve_on_expiry).names.lookup ("self" : Str) = some .local := by decide +kernel
theorem sc_Curve_on_expiry : NdefX.NScope ["self", "flight", "now", "__class__"] ["self", "flight", "now"] ["__class__"] (defScope s_Curve_on_expiry) := NdefX.nscope_by (by decide +kernel)
abbrev s_Curve_on_sample : Stmt := inClass (top 16) 7
theorem st_Curve_on_sample {t : TS} {D : Ends} {H : Hp} {v0 v1 : V} (h : t D [some v0, some v1, none] H) : t D (NdefX.startF ["self", "ticks", "__class__"] [v0, v1] [none]) H := h
theorem se_Curve_on_sample : (defScope s_Curve_on_sample).names.lookup ("super" : Str) = some .globalImplicit ∧ (defScope s_Curve_on_sample).names.lookup ("__class__" : Str) = some .free ∧ (defScope s_Curve_on_sample).names.lookup ("self" : Str) = some .local := by decide +kernel
theorem sc_Curve_on_sample : NdefX.NScope ["self", "ticks", "__class__"] ["self", "ticks"] ["__class__"] (defScope s_Curve_on_sample) := NdefX.nscope_by (by decide +kernel)
abbrev s_Delay_init_ : Stmt := inClass (top 17) 1
theorem st_Delay_init_ {t : TS} {D : Ends} {H : Hp} {v0 v1 : V} (h : t D [some v0, some v1, none] H) : t D (NdefX.startF ["self", "unit", "__class__"] [v0, v1] [none]) H := h
theorem se_Delay_init_ : (defScope s_Delay_init_).names.lookup ("super" : Str) = some .globalImplicit ∧ (defScope s_Delay_init_).names.lookup ("__class__" : Str) = some .free ∧ (defScope s_Delay_init_).names.lookup ("self" : Str) = some .local := by decide +kernel
theorem sc_Delay_init_ : NdefX.NScope ["self", "unit", "__class__"] ["self", "unit"] ["__class__"] (defScope s_Delay_init_) := NdefX.nscope_by (by decide +kernel)
abbrev s_Delay_on_ack : Stmt := inClass (top 17) 2
theorem st_Delay_on_ack {t : TS} {D : Ends} {H : Hp} {v0 v1 v2 v3 : V} (h : t D [some v0, some v1, some v2, some v3, none] H) : t D (NdefX.startF ["self", "count", "flight", "now", "__class__"] [v0, v1, v2, v3] [none]) H := h
theorem se_Delay_on_ack : (defScope s_Delay_on_ack).names.lookup ("super" : Str) = some .globalImplicit ∧ (defScope s_Delay_on_ack).names.lookup ("__class__" : Str) = some .free ∧ (defScope s_Delay_on_ack).names.lookup ("self" : Str) = some .local := by decide +kernel
theorem sc_Delay_on_ack : NdefX.NScope ["self", "count", "flight", "now", "__class__"] ["self", "count", "flight", "now"] ["__class__"] (defScope s_Delay_on_ack) := NdefX.nscope_by (by decide +kernel)
abbrev s_Delay_grow : Stmt := inClass (top 17) 3
theorem st_Delay_grow {t : TS} {D : Ends} {H : Hp} {v0 v1 v2 : V} (h : t D [some v0, some v1, some v2, none] H) : t D (NdefX.startF ["self", "count", "now", "__class__"] [v0, v1, v2] [none]) H := h
theorem se_Delay_grow : (defScope s_Delay_grow).names.lookup ("super" : Str) = some .globalImplicit ∧ (defScope s_Delay_grow).names.lookup ("__class__" : Str) = some .free ∧ (defScope s_Delay_grow).names.lookup ("self" : Str) = some .local := by decide +kernel
theorem sc_Delay_grow : NdefX.NScope ["self", "count", "now", "__class__"] ["self", "count", "now"] ["__class__"] (defScope s_Delay_grow) := NdefX.nscope_by (by decide +kernel)
abbrev s_Delay_step : Stmt := inClass (top 17) 4
theorem st_Delay_step {t : TS} {D : Ends} {H : Hp} {v0 : V} (h : t D [some v0, none] H) : t D (L2.start ["self", "surplus"] [v0]) H := h
theorem sc_Delay_step : FnScope ["self", "surplus"] ["self"] (defScope s_Delay_step) := ⟨rfl, rfl, rfl, by decide +kernel, rfl, by decide +kernel, by decide +kernel⟩
abbrev s_Delay_surplus : Stmt := inClass (top 17) 5
theorem st_Delay_surplus {t : TS} {D : Ends} {H : Hp} {v0 : V} (h : t D [some v0] H) : t D (L2.start ["self"] [v0]) H := h
theorem sc_Delay_surplus : FnScope ["self"] ["self"] (defScope s_Delay_surplus) := ⟨rfl, rfl, rfl, by decide +kernel, rfl, by decide +kernel, by decide +kernel⟩
abbrev s_Delay_on_loss : Stmt := inClass (top 17) 6
theorem st_Delay_on_loss {t : TS} {D : Ends} {H : Hp} {v0 v1 v2 : V} (h : t D [some v0, some v1, some v2, none] H) : t D (NdefX.startF ["self", "flight", "now", "__class__"] [v0, v1, v2] [none]) H := h
theorem se_Delay_on_loss : (defScope s_Delay_on_loss).names.lookup ("super" : Str) = some .globalImplicit ∧ (defScope s_Delay_on_loss).names.lookup ("__class__" : Str) = some .free ∧ (defScope s_Delay_on_loss).names.lookup ("self" : Str) = some .local := by decide +kernel
theorem sc_Delay_on_loss : NdefX.NScope ["self", "flight", "now", "__class__"] ["self", "flight", "now"] ["__class__"] (defScope s_Delay_on_loss) := NdefX.nscope_by (by decide +kernel)
abbrev s_Delay_on_expiry : Stmt := inClass (top 17) 7
theorem st_Delay_on_expiry {t : TS} {D : Ends} {H : Hp} {v0 v1 v2 : V} (h : t D [some v0, some v1, some v2, none] H) : t D (NdefX.startF ["self", "flight", "now", "__class__"] [v0, v1, v2] [none]) H := h
theorem se_Delay_on_expiry : (defScope s_Delay_on_expiry).names.lookup ("super" : Str) = some .globalImplicit ∧ (defScope s_Delay_on_expiry).names.lookup ("__class__" : Str) = some .free ∧ (defScope s_Delay_on_expiry).names.lookup ("self" : Str) = some .local := by decide +kernel
theorem sc_Delay_on_expiry : NdefX.NScope ["self", "flight", "now", "__class__"] ["self", "flight", "now"] ["__class__"] (defScope s_Delay_on_expiry) := NdefX.nscope_by (by decide +kernel)
abbrev s_Delay_on_sample : Stmt := inClass (top 17) 8
theorem st_Delay_on_sample {t : TS} {D : Ends} {H : Hp} {v0 v1 : V} (h : t D [some v0, some v1] H) : t D (L2.start ["self", "ticks"] [v0, v1]) H := h
theorem sc_Delay_on_sample : FnScope ["self", "ticks"] ["self", "ticks"] (defScope s_Delay_on_sample) := ⟨rfl, rfl, rfl, by decide +kernel, rfl, by decide +kernel, by decide +kernel⟩
abbrev s_control_of : Stmt := top 18
theorem st_control_of {t : TS} {D : Ends} {H : Hp} {v0 v1 : V} (h : t D [some v0, some v1] H) : t D (L2.start ["kind", "unit"] [v0, v1]) H := h
theorem sc_control_of : FnScope ["kind", "unit"] ["kind", "unit"] (defScope s_control_of) := ⟨rfl, rfl, rfl, by decide +kernel, rfl, by decide +kernel, by decide +kernel⟩
abbrev s__law_cell : Stmt := top 20
theorem st__law_cell {t : TS} {D : Ends} {H : Hp} {v0 v1 : V} (h : t D [some v0, some v1] H) : t D (L2.start ["script", "k"] [v0, v1]) H := h
theorem sc__law_cell : FnScope ["script", "k"] ["script", "k"] (defScope s__law_cell) := ⟨rfl, rfl, rfl, by decide +kernel, rfl, by decide +kernel, by decide +kernel⟩
abbrev s__law_rounds : Stmt := top 21
theorem st__law_rounds {t : TS} {D : Ends} {H : Hp} {v0 : V} (h : t D [some v0] H) : t D (L2.start ["script"] [v0]) H := h
theorem sc__law_rounds : FnScope ["script"] ["script"] (defScope s__law_rounds) := ⟨rfl, rfl, rfl, by decide +kernel, rfl, by decide +kernel, by decide +kernel⟩
abbrev s__law_box : Stmt := top 22
theorem st__law_box {t : TS} {D : Ends} {H : Hp} {v0 : V} (h : t D [some v0] H) : t D (L2.start ["cell"] [v0]) H := h
theorem sc__law_box : FnScope ["cell"] ["cell"] (defScope s__law_box) := ⟨rfl, rfl, rfl, by decide +kernel, rfl, by decide +kernel, by decide +kernel⟩
abbrev s__law_draw : Stmt := top 23
theorem st__law_draw {t : TS} {D : Ends} {H : Hp} {v0 v1 : V} (h : t D [some v0, some v1, none, none, none] H) : t D (L2.start ["box", "size", "digit", "first", "second"] [v0, v1]) H := h
theorem sc__law_draw : FnScope ["box", "size", "digit", "first", "second"] ["box", "size"] (defScope s__law_draw) := ⟨rfl, rfl, rfl, by decide +kernel, rfl, by decide +kernel, by decide +kernel⟩
abbrev s__law_unit : Stmt := top 24
theorem st__law_unit {t : TS} {D : Ends} {H : Hp} {v0 : V} (h : t D [some v0, none] H) : t D (L2.start ["box", "way"] [v0]) H := h
theorem sc__law_unit : FnScope ["box", "way"] ["box"] (defScope s__law_unit) := ⟨rfl, rfl, rfl, by decide +kernel, rfl, by decide +kernel, by decide +kernel⟩
abbrev s__law_whole : Stmt := top 25
theorem st__law_whole {t : TS} {D : Ends} {H : Hp} {v0 v1 : V} (h : t D [some v0, some v1] H) : t D (L2.start ["value", "wanted"] [v0, v1]) H := h
theorem sc__law_whole : FnScope ["value", "wanted"] ["value", "wanted"] (defScope s__law_whole) := ⟨rfl, rfl, rfl, by decide +kernel, rfl, by decide +kernel, by decide +kernel⟩
abbrev s__law_truth : Stmt := top 26
theorem st__law_truth {t : TS} {D : Ends} {H : Hp} {v0 v1 : V} (h : t D [some v0, some v1] H) : t D (L2.start ["value", "wanted"] [v0, v1]) H := h
theorem sc__law_truth : FnScope ["value", "wanted"] ["value", "wanted"] (defScope s__law_truth) := ⟨rfl, rfl, rfl, by decide +kernel, rfl, by decide +kernel, by decide +kernel⟩
abbrev s__law_base : Stmt := top 27
theorem st__law_base {t : TS} {D : Ends} {H : Hp} {v0 v1 : V} (h : t D [some v0, some v1] H) : t D (L2.start ["control", "state"] [v0, v1]) H := h
theorem sc__law_base : FnScope ["control", "state"] ["control", "state"] (defScope s__law_base) := ⟨rfl, rfl, rfl, by decide +kernel, rfl, by decide +kernel, by decide +kernel⟩
abbrev s__law_make : Stmt := top 28
theorem st__law_make {t : TS} {D : Ends} {H : Hp} {v0 v1 v2 : V} (h : t D [some v0, some v1, some v2] H) : t D (L2.start ["which", "unit", "pieces"] [v0, v1, v2]) H := h
theorem sc__law_make : FnScope ["which", "unit", "pieces"] ["which", "unit", "pieces"] (defScope s__law_make) := ⟨rfl, rfl, rfl, by decide +kernel, rfl, by decide +kernel, by decide +kernel⟩
abbrev s__law_word : Stmt := top 29
theorem st__law_word {t : TS} {D : Ends} {H : Hp} {v0 : V} (h : t D [some v0, none] H) : t D (L2.start ["which", "words"] [v0]) H := h
theorem sc__law_word : FnScope ["which", "words"] ["which"] (defScope s__law_word) := ⟨rfl, rfl, rfl, by decide +kernel, rfl, by decide +kernel, by decide +kernel⟩
abbrev s__law_times : Stmt := top 30
theorem st__law_times {t : TS} {D : Ends} {H : Hp} {v0 v1 : V} (h : t D [some v0, some v1] H) : t D (L2.start ["which", "pieces"] [v0, v1]) H := h
theorem sc__law_times : FnScope ["which", "pieces"] ["which", "pieces"] (defScope s__law_times) := ⟨rfl, rfl, rfl, by decide +kernel, rfl, by decide +kernel, by decide +kernel⟩
abbrev s__law_classed : Stmt := top 31
theorem st__law_classed {t : TS} {D : Ends} {H : Hp} {v0 v1 : V} (h : t D [some v0, some v1] H) : t D (L2.start ["control", "word"] [v0, v1]) H := h
theorem sc__law_classed : FnScope ["control", "word"] ["control", "word"] (defScope s__law_classed) := ⟨rfl, rfl, rfl, by decide +kernel, rfl, by decide +kernel, by decide +kernel⟩
abbrev s__law_fresh : Stmt := top 32
theorem st__law_fresh {t : TS} {D : Ends} {H : Hp} {v0 v1 v2 v3 : V} (h : t D [some v0, some v1, some v2, some v3, none] H) : t D (L2.start ["control", "which", "unit", "pieces", "word"] [v0, v1, v2, v3]) H := h
theorem sc__law_fresh : FnScope ["control", "which", "unit", "pieces", "word"] ["control", "which", "unit", "pieces"] (defScope s__law_fresh) := ⟨rfl, rfl, rfl, by decide +kernel, rfl, by decide +kernel, by decide +kernel⟩
abbrev s__law_bad : Stmt := top 33
theorem st__law_bad {t : TS} {D : Ends} {H : Hp} {v0 v1 : V} (h : t D [some v0, some v1, none] H) : t D (L2.start ["box", "most", "way"] [v0, v1]) H := h
theorem sc__law_bad : FnScope ["box", "most", "way"] ["box", "most"] (defScope s__law_bad) := ⟨rfl, rfl, rfl, by decide +kernel, rfl, by decide +kernel, by decide +kernel⟩
abbrev s__law_refusal : Stmt := top 34
theorem st__law_refusal {t : TS} {D : Ends} {H : Hp} {v0 v1 v2 : V} (h : t D [some v0, some v1, some v2, none] H) : t D (L2.start ["which", "unit", "pieces", "error"] [v0, v1, v2]) H := h
theorem sc__law_refusal : FnScope ["which", "unit", "pieces", "error"] ["which", "unit", "pieces"] (defScope s__law_refusal) := ⟨rfl, rfl, rfl, by decide +kernel, rfl, by decide +kernel, by decide +kernel⟩
abbrev s__law_stranger : Stmt := top 35
theorem st__law_stranger {t : TS} {D : Ends} {H : Hp} {v0 v1 : V} (h : t D [some v0, some v1, none] H) : t D (L2.start ["kind", "unit", "error"] [v0, v1]) H := h
theorem sc__law_stranger : FnScope ["kind", "unit", "error"] ["kind", "unit"] (defScope s__law_stranger) := ⟨rfl, rfl, rfl, by decide +kernel, rfl, by decide +kernel, by decide +kernel⟩
abbrev s__law_apart : Stmt := top 36
theorem st__law_apart {t : TS} {D : Ends} {H : Hp} {v0 v1 v2 v3 : V} (h : t D [some v0, some v1, some v2, some v3, none, none, none, none] H) : t D (L2.start ["which", "unit", "pieces", "box", "one", "two", "load", "three"] [v0, v1, v2, v3]) H := h
theorem sc__law_apart : FnScope ["which", "unit", "pieces", "box", "one", "two", "load", "three"] ["which", "unit", "pieces", "box"] (defScope s__law_apart) := ⟨rfl, rfl, rfl, by decide +kernel, rfl, by decide +kernel, by decide +kernel⟩
abbrev s__law_units : Stmt := top 37
theorem st__law_units {t : TS} {D : Ends} {H : Hp} {v0 v1 v2 : V} (h : t D [some v0, some v1, some v2, none, none, none, none] H) : t D (L2.start ["which", "pieces", "box", "bad", "odd", "end", "good"] [v0, v1, v2]) H := h
theorem sc__law_units : FnScope ["which", "pieces", "box", "bad", "odd", "end", "good"] ["which", "pieces", "box"] (defScope s__law_units) := ⟨rfl, rfl, rfl, by decide +kernel, rfl, by decide +kernel, by decide +kernel⟩
abbrev s__law_pieces : Stmt := top 38
theorem st__law_pieces {t : TS} {D : Ends} {H : Hp} {v0 v1 v2 : V} (h : t D [some v0, some v1, some v2, none, none, none] H) : t D (L2.start ["unit", "pieces", "box", "which", "end", "good"] [v0, v1, v2]) H := h
theorem sc__law_pieces : FnScope ["unit", "pieces", "box", "which", "end", "good"] ["unit", "pieces", "box"] (defScope s__law_pieces) := ⟨rfl, rfl, rfl, by decide +kernel, rfl, by decide +kernel, by decide +kernel⟩
abbrev s__law_kinds : Stmt := top 39
theorem st__law_kinds {t : TS} {D : Ends} {H : Hp} {v0 v1 v2 : V} (h : t D [some v0, some v1, some v2, none, none, none, none, none] H) : t D (L2.start ["unit", "pieces", "box", "word", "odds", "odd", "bad", "which"] [v0, v1, v2]) H := h
theorem sc__law_kinds : FnScope ["unit", "pieces", "box", "word", "odds", "odd", "bad", "which"] ["unit", "pieces", "box"] (defScope s__law_kinds) := ⟨rfl, rfl, rfl, by decide +kernel, rfl, by decide +kernel, by decide +kernel⟩
abbrev s__law_refused : Stmt := top 40
theorem st__law_refused {t : TS} {D : Ends} {H : Hp} {v0 v1 v2 v3 : V} (h : t D [some v0, some v1, some v2, some v3, none] H) : t D (L2.start ["control", "bad", "grows", "now", "error"] [v0, v1, v2, v3]) H := h
theorem sc__law_refused : FnScope ["control", "bad", "grows", "now", "error"] ["control", "bad", "grows", "now"] (defScope s__law_refused) := ⟨rfl, rfl, rfl, by decide +kernel, rfl, by decide +kernel, by decide +kernel⟩
abbrev s__law_counts : Stmt := top 41
theorem st__law_counts {t : TS} {D : Ends} {H : Hp} {v0 v1 v2 v3 : V} (h : t D [some v0, some v1, some v2, some v3, none, none, none, none, none] H) : t D (L2.start ["which", "unit", "pieces", "box", "control", "load", "state", "grows", "count"] [v0, v1, v2, v3]) H := h
theorem sc__law_counts : FnScope ["which", "unit", "pieces", "box", "control", "load", "state", "grows", "count"] ["which", "unit", "pieces", "box"] (defScope s__law_counts) := ⟨rfl, rfl, rfl, by decide +kernel, rfl, by decide +kernel, by decide +kernel⟩
abbrev s__law_names : Stmt := top 42
theorem st__law_names {t : TS} {D : Ends} {H : Hp} (h : t D [none] H) : t D (L2.start ["word"] []) H := h
theorem sc__law_names : FnScope ["word"] [] (defScope s__law_names) := ⟨rfl, rfl, rfl, by decide +kernel, rfl, by decide +kernel, by decide +kernel⟩
abbrev s__law_question : Stmt := top 43
theorem st__law_question {t : TS} {D : Ends} {H : Hp} {v0 : V} (h : t D [some v0, none, none, none, none] H) : t D (L2.start ["box", "which", "choice", "unit", "pieces"] [v0]) H := h
theorem sc__law_question : FnScope ["box", "which", "choice", "unit", "pieces"] ["box"] (defScope s__law_question) := ⟨rfl, rfl, rfl, by decide +kernel, rfl, by decide +kernel, by decide +kernel⟩
abbrev s_law : Stmt := top 44
theorem st_law {t : TS} {D : Ends} {H : Hp} {v0 : V} (h : t D [some v0, none] H) : t D (L2.start ["script", "k"] [v0]) H := h
theorem sc_law : FnScope ["script", "k"] ["script"] (defScope s_law) := ⟨rfl, rfl, rfl, by decide +kernel, rfl, by decide +kernel, by decide +kernel⟩

set_option maxHeartbeats 0 in
structure Txt (K : PySem.W.Frag) (mg : Str → Option Value) where
  c_Control : Addr
  g_Control : mg "Control" = some (.ref c_Control)
  cl_Control : Cls K c_Control
  n_Control_unit : NoAttr K c_Control "unit"
  n_Control_window : NoAttr K c_Control "window"
  n_Control_threshold : NoAttr K c_Control "threshold"
  n_Control_credit : NoAttr K c_Control "credit"
  n_Control_stalled : NoAttr K c_Control "stalled"
  mc_Control : Value
  R_Control : ClX.CRead K c_Control mc_Control
  V_Control_GREATEST : ∃ u, ClX.CVal K c_Control mc_Control "GREATEST" (.int 4194304) u
  V_Control_KIND : ∃ u, ClX.CVal K c_Control mc_Control "KIND" (.str "base") u
  I_Control_KIND : ∃ u, Con K c_Control "KIND" (.str "base") u
  c_Fixed : Addr
  g_Fixed : mg "Fixed" = some (.ref c_Fixed)
  cl_Fixed : Cls K c_Fixed
  n_Fixed_unit : NoAttr K c_Fixed "unit"
  n_Fixed_window : NoAttr K c_Fixed "window"
  n_Fixed_threshold : NoAttr K c_Fixed "threshold"
  n_Fixed_credit : NoAttr K c_Fixed "credit"
  n_Fixed_stalled : NoAttr K c_Fixed "stalled"
  mc_Fixed : Value
  R_Fixed : ClX.CRead K c_Fixed mc_Fixed
  V_Fixed_KIND : ∃ u, ClX.CVal K c_Fixed mc_Fixed "KIND" (.str "fixed") u
  I_Fixed_KIND : ∃ u, Con K c_Fixed "KIND" (.str "fixed") u
  c_Climb : Addr
  g_Climb : mg "Climb" = some (.ref c_Climb)
  cl_Climb : Cls K c_Climb
  n_Climb_unit : NoAttr K c_Climb "unit"
  n_Climb_window : NoAttr K c_Climb "window"
  n_Climb_threshold : NoAttr K c_Climb "threshold"
  n_Climb_credit : NoAttr K c_Climb "credit"
  n_Climb_stalled : NoAttr K c_Climb "stalled"
  mc_Climb : Value
  R_Climb : ClX.CRead K c_Climb mc_Climb
  V_Climb_KIND : ∃ u, ClX.CVal K c_Climb mc_Climb "KIND" (.str "climb") u
  I_Climb_KIND : ∃ u, Con K c_Climb "KIND" (.str "climb") u
  c_Curve : Addr
  g_Curve : mg "Curve" = some (.ref c_Curve)
  cl_Curve : Cls K c_Curve
  n_Curve_unit : NoAttr K c_Curve "unit"
  n_Curve_window : NoAttr K c_Curve "window"
  n_Curve_threshold : NoAttr K c_Curve "threshold"
  n_Curve_credit : NoAttr K c_Curve "credit"
  n_Curve_stalled : NoAttr K c_Curve "stalled"
  n_Curve_peak : NoAttr K c_Curve "peak"
  n_Curve_span : NoAttr K c_Curve "span"
  n_Curve_born : NoAttr K c_Curve "born"
  mc_Curve : Value
  R_Curve : ClX.CRead K c_Curve mc_Curve
  V_Curve_KIND : ∃ u, ClX.CVal K c_Curve mc_Curve "KIND" (.str "curve") u
  I_Curve_KIND : ∃ u, Con K c_Curve "KIND" (.str "curve") u
  c_Delay : Addr
  g_Delay : mg "Delay" = some (.ref c_Delay)
  cl_Delay : Cls K c_Delay
  n_Delay_unit : NoAttr K c_Delay "unit"
  n_Delay_window : NoAttr K c_Delay "window"
  n_Delay_threshold : NoAttr K c_Delay "threshold"
  n_Delay_credit : NoAttr K c_Delay "credit"
  n_Delay_stalled : NoAttr K c_Delay "stalled"
  n_Delay_least : NoAttr K c_Delay "least"
  n_Delay_latest : NoAttr K c_Delay "latest"
  n_Delay_samples : NoAttr K c_Delay "samples"
  mc_Delay : Value
  R_Delay : ClX.CRead K c_Delay mc_Delay
  V_Delay_KIND : ∃ u, ClX.CVal K c_Delay mc_Delay "KIND" (.str "delay") u
  I_Delay_KIND : ∃ u, Con K c_Delay "KIND" (.str "delay") u
  c_LossError : Addr
  c_InvalidNumber : Addr
  c_InvalidSetting : Addr
  a_InvalidNumber_init_ : Addr
  fd_InvalidNumber_init_ : FuncData
  F_InvalidNumber_init_ : Fun K "__init__" "InvalidNumber.__init__" s_InvalidNumber_init_ a_InvalidNumber_init_ fd_InvalidNumber_init_
  B_InvalidNumber_init_ : Binds K fd_InvalidNumber_init_ ["self", "number"] []
  a_InvalidSetting_init_ : Addr
  fd_InvalidSetting_init_ : FuncData
  F_InvalidSetting_init_ : Fun K "__init__" "InvalidSetting.__init__" s_InvalidSetting_init_ a_InvalidSetting_init_ fd_InvalidSetting_init_
  B_InvalidSetting_init_ : Binds K fd_InvalidSetting_init_ ["self", "setting"] []
  a_is_integer : Addr
  fd_is_integer : FuncData
  F_is_integer : Fun K "is_integer" "is_integer" s_is_integer a_is_integer fd_is_integer
  B_is_integer : Binds K fd_is_integer ["value"] []
  g_is_integer : mg "is_integer" = some (.ref a_is_integer)
  a_is_between : Addr
  fd_is_between : FuncData
  F_is_between : Fun K "is_between" "is_between" s_is_between a_is_between fd_is_between
  B_is_between : Binds K fd_is_between ["value", "low", "high"] []
  g_is_between : mg "is_between" = some (.ref a_is_between)
  a_require_new_bytes : Addr
  fd_require_new_bytes : FuncData
  F_require_new_bytes : Fun K "require_new_bytes" "require_new_bytes" s_require_new_bytes a_require_new_bytes fd_require_new_bytes
  B_require_new_bytes : Binds K fd_require_new_bytes ["count"] []
  g_require_new_bytes : mg "require_new_bytes" = some (.ref a_require_new_bytes)
  a_Control_init_ : Addr
  fd_Control_init_ : FuncData
  F_Control_init_ : Fun K "__init__" "Control.__init__" s_Control_init_ a_Control_init_ fd_Control_init_
  B_Control_init_ : Binds K fd_Control_init_ ["self", "unit"] []
  M_Control : Mk K c_Control a_Control_init_
  a_Control_starting : Addr
  fd_Control_starting : FuncData
  F_Control_starting : Fun K "starting" "Control.starting" s_Control_starting a_Control_starting fd_Control_starting
  B_Control_starting : Binds K fd_Control_starting ["self"] []
  p_Control_starting : Addr
  PR_Control_starting : PropOf K c_Control "starting" p_Control_starting a_Control_starting
  a_Control_on_ack : Addr
  fd_Control_on_ack : FuncData
  F_Control_on_ack : Fun K "on_ack" "Control.on_ack" s_Control_on_ack a_Control_on_ack fd_Control_on_ack
  B_Control_on_ack : Binds K fd_Control_on_ack ["self", "count", "flight", "now"] []
  m_Control_on_ack : Meth K c_Control "on_ack" a_Control_on_ack
  a_Control_grow : Addr
  fd_Control_grow : FuncData
  F_Control_grow : Fun K "grow" "Control.grow" s_Control_grow a_Control_grow fd_Control_grow
  B_Control_grow : Binds K fd_Control_grow ["self", "count", "now"] []
  m_Control_grow : Meth K c_Control "grow" a_Control_grow
  a_Control_on_loss : Addr
  fd_Control_on_loss : FuncData
  F_Control_on_loss : Fun K "on_loss" "Control.on_loss" s_Control_on_loss a_Control_on_loss fd_Control_on_loss
  B_Control_on_loss : Binds K fd_Control_on_loss ["self", "flight", "now"] []
  m_Control_on_loss : Meth K c_Control "on_loss" a_Control_on_loss
  a_Control_on_expiry : Addr
  fd_Control_on_expiry : FuncData
  F_Control_on_expiry : Fun K "on_expiry" "Control.on_expiry" s_Control_on_expiry a_Control_on_expiry fd_Control_on_expiry
  B_Control_on_expiry : Binds K fd_Control_on_expiry ["self", "flight", "now"] []
  m_Control_on_expiry : Meth K c_Control "on_expiry" a_Control_on_expiry
  a_Control_on_sample : Addr
  fd_Control_on_sample : FuncData
  F_Control_on_sample : Fun K "on_sample" "Control.on_sample" s_Control_on_sample a_Control_on_sample fd_Control_on_sample
  B_Control_on_sample : Binds K fd_Control_on_sample ["self", "ticks"] []
  m_Control_on_sample : Meth K c_Control "on_sample" a_Control_on_sample
  a_Control_set_window : Addr
  fd_Control_set_window : FuncData
  F_Control_set_window : Fun K "_set_window" "Control._set_window" s_Control_set_window a_Control_set_window fd_Control_set_window
  B_Control_set_window : Binds K fd_Control_set_window ["self", "window"] []
  m_Control_set_window : Meth K c_Control "_set_window" a_Control_set_window
  a_Fixed_init_ : Addr
  fd_Fixed_init_ : FuncData
  cda_Fixed_init_ : Addr
  cc_Fixed_init_ : Addr
  F_Fixed_init_ : FunC K "__init__" "Fixed.__init__" s_Fixed_init_ a_Fixed_init_ cda_Fixed_init_ cc_Fixed_init_ fd_Fixed_init_
  SK_Fixed_init_ : SupK K a_Fixed_init_ cda_Fixed_init_ cc_Fixed_init_ c_Fixed "self"
  ds_Fixed_init_ : List Value
  VD_Fixed_init_ : L2.Vals [(.int 8)] ds_Fixed_init_
  BD_Fixed_init_ : Binds K fd_Fixed_init_ ["self", "unit", "pieces"] ds_Fixed_init_
  B_Fixed_init_ : Binds K fd_Fixed_init_ ["self", "unit", "pieces"] []
  BK_Fixed_init_ : KBn K fd_Fixed_init_ ["self", "unit", "pieces"] 2 ["pieces"] (fun us ws => us ++ ws) (fun vs zs => vs ++ zs)
  M_Fixed : Mk K c_Fixed a_Fixed_init_
  a_Fixed_on_ack : Addr
  fd_Fixed_on_ack : FuncData
  F_Fixed_on_ack : Fun K "on_ack" "Fixed.on_ack" s_Fixed_on_ack a_Fixed_on_ack fd_Fixed_on_ack
  B_Fixed_on_ack : Binds K fd_Fixed_on_ack ["self", "count", "flight", "now"] []
  m_Fixed_on_ack : Meth K c_Fixed "on_ack" a_Fixed_on_ack
  a_Fixed_grow : Addr
  fd_Fixed_grow : FuncData
  F_Fixed_grow : Fun K "grow" "Fixed.grow" s_Fixed_grow a_Fixed_grow fd_Fixed_grow
  B_Fixed_grow : Binds K fd_Fixed_grow ["self", "count", "now"] []
  m_Fixed_grow : Meth K c_Fixed "grow" a_Fixed_grow
  a_Fixed_on_loss : Addr
  fd_Fixed_on_loss : FuncData
  F_Fixed_on_loss : Fun K "on_loss" "Fixed.on_loss" s_Fixed_on_loss a_Fixed_on_loss fd_Fixed_on_loss
  B_Fixed_on_loss : Binds K fd_Fixed_on_loss ["self", "flight", "now"] []
  m_Fixed_on_loss : Meth K c_Fixed "on_loss" a_Fixed_on_loss
  a_Fixed_on_expiry : Addr
  fd_Fixed_on_expiry : FuncData
  F_Fixed_on_expiry : Fun K "on_expiry" "Fixed.on_expiry" s_Fixed_on_expiry a_Fixed_on_expiry fd_Fixed_on_expiry
  B_Fixed_on_expiry : Binds K fd_Fixed_on_expiry ["self", "flight", "now"] []
  m_Fixed_on_expiry : Meth K c_Fixed "on_expiry" a_Fixed_on_expiry
  a_Fixed_on_sample : Addr
  fd_Fixed_on_sample : FuncData
  F_Fixed_on_sample : Fun K "on_sample" "Fixed.on_sample" s_Fixed_on_sample a_Fixed_on_sample fd_Fixed_on_sample
  B_Fixed_on_sample : Binds K fd_Fixed_on_sample ["self", "ticks"] []
  m_Fixed_on_sample : Meth K c_Fixed "on_sample" a_Fixed_on_sample
  a_Climb_on_ack : Addr
  fd_Climb_on_ack : FuncData
  cda_Climb_on_ack : Addr
  cc_Climb_on_ack : Addr
  F_Climb_on_ack : FunC K "on_ack" "Climb.on_ack" s_Climb_on_ack a_Climb_on_ack cda_Climb_on_ack cc_Climb_on_ack fd_Climb_on_ack
  SK_Climb_on_ack : SupK K a_Climb_on_ack cda_Climb_on_ack cc_Climb_on_ack c_Climb "self"
  B_Climb_on_ack : Binds K fd_Climb_on_ack ["self", "count", "flight", "now"] []
  m_Climb_on_ack : Meth K c_Climb "on_ack" a_Climb_on_ack
  a_Climb_grow : Addr
  fd_Climb_grow : FuncData
  F_Climb_grow : Fun K "grow" "Climb.grow" s_Climb_grow a_Climb_grow fd_Climb_grow
  B_Climb_grow : Binds K fd_Climb_grow ["self", "count", "now"] []
  m_Climb_grow : Meth K c_Climb "grow" a_Climb_grow
  a_Climb_step : Addr
  fd_Climb_step : FuncData
  F_Climb_step : Fun K "_step" "Climb._step" s_Climb_step a_Climb_step fd_Climb_step
  B_Climb_step : Binds K fd_Climb_step ["self"] []
  m_Climb_step : Meth K c_Climb "_step" a_Climb_step
  a_Climb_on_loss : Addr
  fd_Climb_on_loss : FuncData
  cda_Climb_on_loss : Addr
  cc_Climb_on_loss : Addr
  F_Climb_on_loss : FunC K "on_loss" "Climb.on_loss" s_Climb_on_loss a_Climb_on_loss cda_Climb_on_loss cc_Climb_on_loss fd_Climb_on_loss
  SK_Climb_on_loss : SupK K a_Climb_on_loss cda_Climb_on_loss cc_Climb_on_loss c_Climb "self"
  B_Climb_on_loss : Binds K fd_Climb_on_loss ["self", "flight", "now"] []
  m_Climb_on_loss : Meth K c_Climb "on_loss" a_Climb_on_loss
  a_Climb_on_expiry : Addr
  fd_Climb_on_expiry : FuncData
  cda_Climb_on_expiry : Addr
  cc_Climb_on_expiry : Addr
  F_Climb_on_expiry : FunC K "on_expiry" "Climb.on_expiry" s_Climb_on_expiry a_Climb_on_expiry cda_Climb_on_expiry cc_Climb_on_expiry fd_Climb_on_expiry
  SK_Climb_on_expiry : SupK K a_Climb_on_expiry cda_Climb_on_expiry cc_Climb_on_expiry c_Climb "self"
  B_Climb_on_expiry : Binds K fd_Climb_on_expiry ["self", "flight", "now"] []
  m_Climb_on_expiry : Meth K c_Climb "on_expiry" a_Climb_on_expiry
  a_Climb_on_sample : Addr
  fd_Climb_on_sample : FuncData
  cda_Climb_on_sample : Addr
  cc_Climb_on_sample : Addr
  F_Climb_on_sample : FunC K "on_sample" "Climb.on_sample" s_Climb_on_sample a_Climb_on_sample cda_Climb_on_sample cc_Climb_on_sample fd_Climb_on_sample
  SK_Climb_on_sample : SupK K a_Climb_on_sample cda_Climb_on_sample cc_Climb_on_sample c_Climb "self"
  B_Climb_on_sample : Binds K fd_Climb_on_sample ["self", "ticks"] []
  m_Climb_on_sample : Meth K c_Climb "on_sample" a_Climb_on_sample
  a_is_kind : Addr
  fd_is_kind : FuncData
  F_is_kind : Fun K "is_kind" "is_kind" s_is_kind a_is_kind fd_is_kind
  B_is_kind : Binds K fd_is_kind ["value"] []
  g_is_kind : mg "is_kind" = some (.ref a_is_kind)
  a_Curve_init_ : Addr
  fd_Curve_init_ : FuncData
  cda_Curve_init_ : Addr
  cc_Curve_init_ : Addr
  F_Curve_init_ : FunC K "__init__" "Curve.__init__" s_Curve_init_ a_Curve_init_ cda_Curve_init_ cc_Curve_init_ fd_Curve_init_
  SK_Curve_init_ : SupK K a_Curve_init_ cda_Curve_init_ cc_Curve_init_ c_Curve "self"
  B_Curve_init_ : Binds K fd_Curve_init_ ["self", "unit"] []
  M_Curve : Mk K c_Curve a_Curve_init_
  a_Curve_on_ack : Addr
  fd_Curve_on_ack : FuncData
  cda_Curve_on_ack : Addr
  cc_Curve_on_ack : Addr
  F_Curve_on_ack : FunC K "on_ack" "Curve.on_ack" s_Curve_on_ack a_Curve_on_ack cda_Curve_on_ack cc_Curve_on_ack fd_Curve_on_ack
  SK_Curve_on_ack : SupK K a_Curve_on_ack cda_Curve_on_ack cc_Curve_on_ack c_Curve "self"
  B_Curve_on_ack : Binds K fd_Curve_on_ack ["self", "count", "flight", "now"] []
  m_Curve_on_ack : Meth K c_Curve "on_ack" a_Curve_on_ack
  a_Curve_grow : Addr
  fd_Curve_grow : FuncData
  cda_Curve_grow : Addr
  cc_Curve_grow : Addr
  F_Curve_grow : FunC K "grow" "Curve.grow" s_Curve_grow a_Curve_grow cda_Curve_grow cc_Curve_grow fd_Curve_grow
  SK_Curve_grow : SupK K a_Curve_grow cda_Curve_grow cc_Curve_grow c_Curve "self"
  B_Curve_grow : Binds K fd_Curve_grow ["self", "count", "now"] []
  m_Curve_grow : Meth K c_Curve "grow" a_Curve_grow
  a_Curve_on_loss : Addr
  fd_Curve_on_loss : FuncData
  F_Curve_on_loss : Fun K "on_loss" "Curve.on_loss" s_Curve_on_loss a_Curve_on_loss fd_Curve_on_loss
  B_Curve_on_loss : Binds K fd_Curve_on_loss ["self", "flight", "now"] []
  m_Curve_on_loss : Meth K c_Curve "on_loss" a_Curve_on_loss
  a_Curve_span_to : Addr
  fd_Curve_span_to : FuncData
  F_Curve_span_to : Fun K "_span_to" "Curve._span_to" s_Curve_span_to a_Curve_span_to fd_Curve_span_to
  B_Curve_span_to : Binds K fd_Curve_span_to ["self", "peak"] []
  m_Curve_span_to : Meth K c_Curve "_span_to" a_Curve_span_to
  a_Curve_on_expiry : Addr
  fd_Curve_on_expiry : FuncData
  cda_Curve_on_expiry : Addr
  cc_Curve_on_expiry : Addr
  F_Curve_on_expiry : FunC K "on_expiry" "Curve.on_expiry" s_Curve_on_expiry a_Curve_on_expiry cda_Curve_on_expiry cc_Curve_on_expiry fd_Curve_on_expiry
  SK_Curve_on_expiry : SupK K a_Curve_on_expiry cda_Curve_on_expiry cc_Curve_on_expiry c_Curve "self"
  B_Curve_on_expiry : Binds K fd_Curve_on_expiry ["self", "flight", "now"] []
  m_Curve_on_expiry : Meth K c_Curve "on_expiry" a_Curve_on_expiry
  a_Curve_on_sample : Addr
  fd_Curve_on_sample : FuncData
  cda_Curve_on_sample : Addr
  cc_Curve_on_sample : Addr
  F_Curve_on_sample : FunC K "on_sample" "Curve.on_sample" s_Curve_on_sample a_Curve_on_sample cda_Curve_on_sample cc_Curve_on_sample fd_Curve_on_sample
  SK_Curve_on_sample : SupK K a_Curve_on_sample cda_Curve_on_sample cc_Curve_on_sample c_Curve "self"
  B_Curve_on_sample : Binds K fd_Curve_on_sample ["self", "ticks"] []
  m_Curve_on_sample : Meth K c_Curve "on_sample" a_Curve_on_sample
  a_Delay_init_ : Addr
  fd_Delay_init_ : FuncData
  cda_Delay_init_ : Addr
  cc_Delay_init_ : Addr
  F_Delay_init_ : FunC K "__init__" "Delay.__init__" s_Delay_init_ a_Delay_init_ cda_Delay_init_ cc_Delay_init_ fd_Delay_init_
  SK_Delay_init_ : SupK K a_Delay_init_ cda_Delay_init_ cc_Delay_init_ c_Delay "self"
  B_Delay_init_ : Binds K fd_Delay_init_ ["self", "unit"] []
  M_Delay : Mk K c_Delay a_Delay_init_
  a_Delay_on_ack : Addr
  fd_Delay_on_ack : FuncData
  cda_Delay_on_ack : Addr
  cc_Delay_on_ack : Addr
  F_Delay_on_ack : FunC K "on_ack" "Delay.on_ack" s_Delay_on_ack a_Delay_on_ack cda_Delay_on_ack cc_Delay_on_ack fd_Delay_on_ack
  SK_Delay_on_ack : SupK K a_Delay_on_ack cda_Delay_on_ack cc_Delay_on_ack c_Delay "self"
  B_Delay_on_ack : Binds K fd_Delay_on_ack ["self", "count", "flight", "now"] []
  m_Delay_on_ack : Meth K c_Delay "on_ack" a_Delay_on_ack
  a_Delay_grow : Addr
  fd_Delay_grow : FuncData
  cda_Delay_grow : Addr
  cc_Delay_grow : Addr
  F_Delay_grow : FunC K "grow" "Delay.grow" s_Delay_grow a_Delay_grow cda_Delay_grow cc_Delay_grow fd_Delay_grow
  SK_Delay_grow : SupK K a_Delay_grow cda_Delay_grow cc_Delay_grow c_Delay "self"
  B_Delay_grow : Binds K fd_Delay_grow ["self", "count", "now"] []
  m_Delay_grow : Meth K c_Delay "grow" a_Delay_grow
  a_Delay_step : Addr
  fd_Delay_step : FuncData
  F_Delay_step : Fun K "_step" "Delay._step" s_Delay_step a_Delay_step fd_Delay_step
  B_Delay_step : Binds K fd_Delay_step ["self"] []
  m_Delay_step : Meth K c_Delay "_step" a_Delay_step
  a_Delay_surplus : Addr
  fd_Delay_surplus : FuncData
  F_Delay_surplus : Fun K "_surplus" "Delay._surplus" s_Delay_surplus a_Delay_surplus fd_Delay_surplus
  B_Delay_surplus : Binds K fd_Delay_surplus ["self"] []
  m_Delay_surplus : Meth K c_Delay "_surplus" a_Delay_surplus
  a_Delay_on_loss : Addr
  fd_Delay_on_loss : FuncData
  cda_Delay_on_loss : Addr
  cc_Delay_on_loss : Addr
  F_Delay_on_loss : FunC K "on_loss" "Delay.on_loss" s_Delay_on_loss a_Delay_on_loss cda_Delay_on_loss cc_Delay_on_loss fd_Delay_on_loss
  SK_Delay_on_loss : SupK K a_Delay_on_loss cda_Delay_on_loss cc_Delay_on_loss c_Delay "self"
  B_Delay_on_loss : Binds K fd_Delay_on_loss ["self", "flight", "now"] []
  m_Delay_on_loss : Meth K c_Delay "on_loss" a_Delay_on_loss
  a_Delay_on_expiry : Addr
  fd_Delay_on_expiry : FuncData
  cda_Delay_on_expiry : Addr
  cc_Delay_on_expiry : Addr
  F_Delay_on_expiry : FunC K "on_expiry" "Delay.on_expiry" s_Delay_on_expiry a_Delay_on_expiry cda_Delay_on_expiry cc_Delay_on_expiry fd_Delay_on_expiry
  SK_Delay_on_expiry : SupK K a_Delay_on_expiry cda_Delay_on_expiry cc_Delay_on_expiry c_Delay "self"
  B_Delay_on_expiry : Binds K fd_Delay_on_expiry ["self", "flight", "now"] []
  m_Delay_on_expiry : Meth K c_Delay "on_expiry" a_Delay_on_expiry
  a_Delay_on_sample : Addr
  fd_Delay_on_sample : FuncData
  F_Delay_on_sample : Fun K "on_sample" "Delay.on_sample" s_Delay_on_sample a_Delay_on_sample fd_Delay_on_sample
  B_Delay_on_sample : Binds K fd_Delay_on_sample ["self", "ticks"] []
  m_Delay_on_sample : Meth K c_Delay "on_sample" a_Delay_on_sample
  a_control_of : Addr
  fd_control_of : FuncData
  F_control_of : Fun K "control_of" "control_of" s_control_of a_control_of fd_control_of
  B_control_of : Binds K fd_control_of ["kind", "unit"] []
  g_control_of : mg "control_of" = some (.ref a_control_of)
  a__law_cell : Addr
  fd__law_cell : FuncData
  F__law_cell : Fun K "_law_cell" "_law_cell" s__law_cell a__law_cell fd__law_cell
  B__law_cell : Binds K fd__law_cell ["script", "k"] []
  g__law_cell : mg "_law_cell" = some (.ref a__law_cell)
  a__law_rounds : Addr
  fd__law_rounds : FuncData
  F__law_rounds : Fun K "_law_rounds" "_law_rounds" s__law_rounds a__law_rounds fd__law_rounds
  B__law_rounds : Binds K fd__law_rounds ["script"] []
  g__law_rounds : mg "_law_rounds" = some (.ref a__law_rounds)
  a__law_box : Addr
  fd__law_box : FuncData
  F__law_box : Fun K "_law_box" "_law_box" s__law_box a__law_box fd__law_box
  B__law_box : Binds K fd__law_box ["cell"] []
  g__law_box : mg "_law_box" = some (.ref a__law_box)
  a__law_draw : Addr
  fd__law_draw : FuncData
  F__law_draw : Fun K "_law_draw" "_law_draw" s__law_draw a__law_draw fd__law_draw
  B__law_draw : Binds K fd__law_draw ["box", "size"] []
  g__law_draw : mg "_law_draw" = some (.ref a__law_draw)
  a__law_unit : Addr
  fd__law_unit : FuncData
  F__law_unit : Fun K "_law_unit" "_law_unit" s__law_unit a__law_unit fd__law_unit
  B__law_unit : Binds K fd__law_unit ["box"] []
  g__law_unit : mg "_law_unit" = some (.ref a__law_unit)
  a__law_whole : Addr
  fd__law_whole : FuncData
  F__law_whole : Fun K "_law_whole" "_law_whole" s__law_whole a__law_whole fd__law_whole
  B__law_whole : Binds K fd__law_whole ["value", "wanted"] []
  g__law_whole : mg "_law_whole" = some (.ref a__law_whole)
  a__law_truth : Addr
  fd__law_truth : FuncData
  F__law_truth : Fun K "_law_truth" "_law_truth" s__law_truth a__law_truth fd__law_truth
  B__law_truth : Binds K fd__law_truth ["value", "wanted"] []
  g__law_truth : mg "_law_truth" = some (.ref a__law_truth)
  a__law_base : Addr
  fd__law_base : FuncData
  F__law_base : Fun K "_law_base" "_law_base" s__law_base a__law_base fd__law_base
  B__law_base : Binds K fd__law_base ["control", "state"] []
  g__law_base : mg "_law_base" = some (.ref a__law_base)
  a__law_make : Addr
  fd__law_make : FuncData
  F__law_make : Fun K "_law_make" "_law_make" s__law_make a__law_make fd__law_make
  B__law_make : Binds K fd__law_make ["which", "unit", "pieces"] []
  g__law_make : mg "_law_make" = some (.ref a__law_make)
  a__law_word : Addr
  fd__law_word : FuncData
  F__law_word : Fun K "_law_word" "_law_word" s__law_word a__law_word fd__law_word
  B__law_word : Binds K fd__law_word ["which"] []
  g__law_word : mg "_law_word" = some (.ref a__law_word)
  a__law_times : Addr
  fd__law_times : FuncData
  F__law_times : Fun K "_law_times" "_law_times" s__law_times a__law_times fd__law_times
  B__law_times : Binds K fd__law_times ["which", "pieces"] []
  g__law_times : mg "_law_times" = some (.ref a__law_times)
  a__law_classed : Addr
  fd__law_classed : FuncData
  F__law_classed : Fun K "_law_classed" "_law_classed" s__law_classed a__law_classed fd__law_classed
  B__law_classed : Binds K fd__law_classed ["control", "word"] []
  g__law_classed : mg "_law_classed" = some (.ref a__law_classed)
  a__law_fresh : Addr
  fd__law_fresh : FuncData
  F__law_fresh : Fun K "_law_fresh" "_law_fresh" s__law_fresh a__law_fresh fd__law_fresh
  B__law_fresh : Binds K fd__law_fresh ["control", "which", "unit", "pieces"] []
  g__law_fresh : mg "_law_fresh" = some (.ref a__law_fresh)
  a__law_bad : Addr
  fd__law_bad : FuncData
  F__law_bad : Fun K "_law_bad" "_law_bad" s__law_bad a__law_bad fd__law_bad
  B__law_bad : Binds K fd__law_bad ["box", "most"] []
  g__law_bad : mg "_law_bad" = some (.ref a__law_bad)
  a__law_refusal : Addr
  fd__law_refusal : FuncData
  F__law_refusal : Fun K "_law_refusal" "_law_refusal" s__law_refusal a__law_refusal fd__law_refusal
  B__law_refusal : Binds K fd__law_refusal ["which", "unit", "pieces"] []
  g__law_refusal : mg "_law_refusal" = some (.ref a__law_refusal)
  a__law_stranger : Addr
  fd__law_stranger : FuncData
  F__law_stranger : Fun K "_law_stranger" "_law_stranger" s__law_stranger a__law_stranger fd__law_stranger
  B__law_stranger : Binds K fd__law_stranger ["kind", "unit"] []
  g__law_stranger : mg "_law_stranger" = some (.ref a__law_stranger)
  a__law_apart : Addr
  fd__law_apart : FuncData
  F__law_apart : Fun K "_law_apart" "_law_apart" s__law_apart a__law_apart fd__law_apart
  B__law_apart : Binds K fd__law_apart ["which", "unit", "pieces", "box"] []
  g__law_apart : mg "_law_apart" = some (.ref a__law_apart)
  a__law_units : Addr
  fd__law_units : FuncData
  F__law_units : Fun K "_law_units" "_law_units" s__law_units a__law_units fd__law_units
  B__law_units : Binds K fd__law_units ["which", "pieces", "box"] []
  g__law_units : mg "_law_units" = some (.ref a__law_units)
  a__law_pieces : Addr
  fd__law_pieces : FuncData
  F__law_pieces : Fun K "_law_pieces" "_law_pieces" s__law_pieces a__law_pieces fd__law_pieces
  B__law_pieces : Binds K fd__law_pieces ["unit", "pieces", "box"] []
  g__law_pieces : mg "_law_pieces" = some (.ref a__law_pieces)
  a__law_kinds : Addr
  fd__law_kinds : FuncData
  F__law_kinds : Fun K "_law_kinds" "_law_kinds" s__law_kinds a__law_kinds fd__law_kinds
  B__law_kinds : Binds K fd__law_kinds ["unit", "pieces", "box"] []
  g__law_kinds : mg "_law_kinds" = some (.ref a__law_kinds)
  a__law_refused : Addr
  fd__law_refused : FuncData
  F__law_refused : Fun K "_law_refused" "_law_refused" s__law_refused a__law_refused fd__law_refused
  B__law_refused : Binds K fd__law_refused ["control", "bad", "grows", "now"] []
  g__law_refused : mg "_law_refused" = some (.ref a__law_refused)
  a__law_counts : Addr
  fd__law_counts : FuncData
  F__law_counts : Fun K "_law_counts" "_law_counts" s__law_counts a__law_counts fd__law_counts
  B__law_counts : Binds K fd__law_counts ["which", "unit", "pieces", "box"] []
  g__law_counts : mg "_law_counts" = some (.ref a__law_counts)
  a__law_names : Addr
  fd__law_names : FuncData
  F__law_names : Fun K "_law_names" "_law_names" s__law_names a__law_names fd__law_names
  B__law_names : Binds K fd__law_names [] []
  g__law_names : mg "_law_names" = some (.ref a__law_names)
  a__law_question : Addr
  fd__law_question : FuncData
  F__law_question : Fun K "_law_question" "_law_question" s__law_question a__law_question fd__law_question
  B__law_question : Binds K fd__law_question ["box"] []
  g__law_question : mg "_law_question" = some (.ref a__law_question)
  a_law : Addr
  fd_law : FuncData
  F_law : Fun K "law" "law" s_law a_law fd_law
  B_law : Binds K fd_law ["script"] []
  g_law : mg "law" = some (.ref a_law)
  PR_Fixed_starting : PropOf K c_Fixed "starting" p_Control_starting a_Control_starting
  M_Climb : Mk K c_Climb a_Control_init_
  PR_Climb_starting : PropOf K c_Climb "starting" p_Control_starting a_Control_starting
  m_Climb_set_window : Meth K c_Climb "_set_window" a_Control_set_window
  PR_Curve_starting : PropOf K c_Curve "starting" p_Control_starting a_Control_starting
  m_Curve_set_window : Meth K c_Curve "_set_window" a_Control_set_window
  m_Curve_step : Meth K c_Curve "_step" a_Climb_step
  PR_Delay_starting : PropOf K c_Delay "starting" p_Control_starting a_Control_starting
  m_Delay_set_window : Meth K c_Delay "_set_window" a_Control_set_window
  SC_Fixed_Fixed_init_ : SupC K c_Fixed c_Fixed "__init__" a_Control_init_
  SC_Climb_Climb_on_ack : SupC K c_Climb c_Climb "on_ack" a_Control_on_ack
  SC_Curve_Climb_on_ack : SupC K c_Curve c_Climb "on_ack" a_Control_on_ack
  SC_Delay_Climb_on_ack : SupC K c_Delay c_Climb "on_ack" a_Control_on_ack
  SC_Climb_Climb_on_loss : SupC K c_Climb c_Climb "on_loss" a_Control_on_loss
  SC_Curve_Climb_on_loss : SupC K c_Curve c_Climb "on_loss" a_Control_on_loss
  SC_Delay_Climb_on_loss : SupC K c_Delay c_Climb "on_loss" a_Control_on_loss
  SC_Climb_Climb_on_expiry : SupC K c_Climb c_Climb "on_expiry" a_Control_on_expiry
  SC_Curve_Climb_on_expiry : SupC K c_Curve c_Climb "on_expiry" a_Control_on_expiry
  SC_Delay_Climb_on_expiry : SupC K c_Delay c_Climb "on_expiry" a_Control_on_expiry
  SC_Climb_Climb_on_sample : SupC K c_Climb c_Climb "on_sample" a_Control_on_sample
  SC_Curve_Climb_on_sample : SupC K c_Curve c_Climb "on_sample" a_Control_on_sample
  SC_Delay_Climb_on_sample : SupC K c_Delay c_Climb "on_sample" a_Control_on_sample
  SC_Curve_Curve_init_ : SupC K c_Curve c_Curve "__init__" a_Control_init_
  SC_Curve_Curve_on_ack : SupC K c_Curve c_Curve "on_ack" a_Climb_on_ack
  SC_Curve_Curve_grow : SupC K c_Curve c_Curve "grow" a_Climb_grow
  SC_Curve_Curve_on_expiry : SupC K c_Curve c_Curve "on_expiry" a_Climb_on_expiry
  SC_Curve_Curve_on_sample : SupC K c_Curve c_Curve "on_sample" a_Climb_on_sample
  SC_Delay_Delay_init_ : SupC K c_Delay c_Delay "__init__" a_Control_init_
  SC_Delay_Delay_on_ack : SupC K c_Delay c_Delay "on_ack" a_Climb_on_ack
  SC_Delay_Delay_grow : SupC K c_Delay c_Delay "grow" a_Climb_grow
  SC_Delay_Delay_on_loss : SupC K c_Delay c_Delay "on_loss" a_Climb_on_loss
  SC_Delay_Delay_on_expiry : SupC K c_Delay c_Delay "on_expiry" a_Climb_on_expiry
  X_LossError : GCls mg "LossError" c_LossError
  X_InvalidNumber : XCls K mg "InvalidNumber" c_InvalidNumber a_InvalidNumber_init_
  nX_InvalidNumber : PySem.W.findIn K (.ref c_InvalidNumber) "number" = some none
  X_InvalidSetting : XCls K mg "InvalidSetting" c_InvalidSetting a_InvalidSetting_init_
  nX_InvalidSetting : PySem.W.findIn K (.ref c_InvalidSetting) "setting" = some none
  Me_InvalidNumber_LossError : PySem.W.exmOne K (.ref c_InvalidNumber) (.ref c_LossError) = some true
  Me_InvalidSetting_LossError : PySem.W.exmOne K (.ref c_InvalidSetting) (.ref c_LossError) = some true
  Me_InvalidSetting_InvalidSetting : PySem.W.exmOne K (.ref c_InvalidSetting) (.ref c_InvalidSetting) = some true
  Kt_InvalidNumber_InvalidNumber : PySem.W.kitOne K (.ref c_InvalidNumber) (.ref c_InvalidNumber) = some true
  Kt_InvalidNumber_InvalidSetting : PySem.W.kitOne K (.ref c_InvalidNumber) (.ref c_InvalidSetting) = some false
  Kt_InvalidSetting_InvalidNumber : PySem.W.kitOne K (.ref c_InvalidSetting) (.ref c_InvalidNumber) = some false
  Kt_InvalidSetting_InvalidSetting : PySem.W.kitOne K (.ref c_InvalidSetting) (.ref c_InvalidSetting) = some true
  Kt_InvalidSetting_LossError : PySem.W.kitOne K (.ref c_InvalidSetting) (.ref c_LossError) = some true
  Kt_InvalidNumber_LossError : PySem.W.kitOne K (.ref c_InvalidNumber) (.ref c_LossError) = some true
  Kv_InvalidNumber : PySem.W.kitOne K (.ref c_InvalidNumber) (.type "ValueError") = some true
  Kv_InvalidSetting : PySem.W.kitOne K (.ref c_InvalidSetting) (.type "ValueError") = some true
  rc_Control : PySem.W.findIn K (.ref c_Control) "__class__" = some (some (.builtin "object.__class__"))
  rc_Fixed : PySem.W.findIn K (.ref c_Fixed) "__class__" = some (some (.builtin "object.__class__"))
  rc_Climb : PySem.W.findIn K (.ref c_Climb) "__class__" = some (some (.builtin "object.__class__"))
  rc_Curve : PySem.W.findIn K (.ref c_Curve) "__class__" = some (some (.builtin "object.__class__"))
  rc_Delay : PySem.W.findIn K (.ref c_Delay) "__class__" = some (some (.builtin "object.__class__"))
  rm_Control : PySem.W.mroIn K c_Control (.type "object") = some true
  rm_Fixed : PySem.W.mroIn K c_Fixed (.type "object") = some true
  rm_Climb : PySem.W.mroIn K c_Climb (.type "object") = some true
  rm_Curve : PySem.W.mroIn K c_Curve (.type "object") = some true
  rm_Delay : PySem.W.mroIn K c_Delay (.type "object") = some true
  ri_get : PySem.W.specialIn K (.builtin "object.__class__") "__get__" = some (some (.builtin "getset_descriptor.__get__"))
  ri_tk : PySem.W.takesIn K (.builtin "object.__class__") = some true
  ki_Control_Control : PySem.W.kitOne K (.ref c_Control) (.ref c_Control) = some true
  ki_Control_Fixed : PySem.W.kitOne K (.ref c_Control) (.ref c_Fixed) = some false
  ki_Control_Climb : PySem.W.kitOne K (.ref c_Control) (.ref c_Climb) = some false
  ki_Control_Curve : PySem.W.kitOne K (.ref c_Control) (.ref c_Curve) = some false
  ki_Control_Delay : PySem.W.kitOne K (.ref c_Control) (.ref c_Delay) = some false
  ki_Fixed_Control : PySem.W.kitOne K (.ref c_Fixed) (.ref c_Control) = some true
  ki_Fixed_Fixed : PySem.W.kitOne K (.ref c_Fixed) (.ref c_Fixed) = some true
  ki_Fixed_Climb : PySem.W.kitOne K (.ref c_Fixed) (.ref c_Climb) = some false
  ki_Fixed_Curve : PySem.W.kitOne K (.ref c_Fixed) (.ref c_Curve) = some false
  ki_Fixed_Delay : PySem.W.kitOne K (.ref c_Fixed) (.ref c_Delay) = some false
  ki_Climb_Control : PySem.W.kitOne K (.ref c_Climb) (.ref c_Control) = some true
  ki_Climb_Fixed : PySem.W.kitOne K (.ref c_Climb) (.ref c_Fixed) = some false
  ki_Climb_Climb : PySem.W.kitOne K (.ref c_Climb) (.ref c_Climb) = some true
  ki_Climb_Curve : PySem.W.kitOne K (.ref c_Climb) (.ref c_Curve) = some false
  ki_Climb_Delay : PySem.W.kitOne K (.ref c_Climb) (.ref c_Delay) = some false
  ki_Curve_Control : PySem.W.kitOne K (.ref c_Curve) (.ref c_Control) = some true
  ki_Curve_Fixed : PySem.W.kitOne K (.ref c_Curve) (.ref c_Fixed) = some false
  ki_Curve_Climb : PySem.W.kitOne K (.ref c_Curve) (.ref c_Climb) = some true
  ki_Curve_Curve : PySem.W.kitOne K (.ref c_Curve) (.ref c_Curve) = some true
  ki_Curve_Delay : PySem.W.kitOne K (.ref c_Curve) (.ref c_Delay) = some false
  ki_Delay_Control : PySem.W.kitOne K (.ref c_Delay) (.ref c_Control) = some true
  ki_Delay_Fixed : PySem.W.kitOne K (.ref c_Delay) (.ref c_Fixed) = some false
  ki_Delay_Climb : PySem.W.kitOne K (.ref c_Delay) (.ref c_Climb) = some true
  ki_Delay_Curve : PySem.W.kitOne K (.ref c_Delay) (.ref c_Curve) = some false
  ki_Delay_Delay : PySem.W.kitOne K (.ref c_Delay) (.ref c_Delay) = some true
  b_ValueError : mg "ValueError" = none
  b_bool : mg "bool" = none
  b_int : mg "int" = none
  b_isinstance : mg "isinstance" = none
  b_len : mg "len" = none
  b_list : mg "list" = none
  b_max : mg "max" = none
  b_min : mg "min" = none
  b_property : mg "property" = none
  b_range : mg "range" = none
  b_str : mg "str" = none
  b_sum : mg "sum" = none
  b_super : mg "super" = none
  b_tuple : mg "tuple" = none
  t_KINDS : Addr
  g_KINDS : mg "KINDS" = some (.ref t_KINDS)
  T_KINDS : ∀ H, SqT K H t_KINDS [.str "fixed", .str "climb", .str "curve", .str "delay"]
  u_MOST_PIECES : Value
  g_MOST_PIECES : mg "MOST_PIECES" = some u_MOST_PIECES
  r_MOST_PIECES : RelV (.int 64) u_MOST_PIECES

section
variable {P : Program} {w : World} {K : PySem.W.Frag} {mg : Str → Option Value} {base : Heap}
variable [SP0 : SupP P]
/-! ### kinds of values -/
/-- whether x is an int and no bool, by its kind -/
def IntK (K : PySem.W.Frag) (H : Hp) (x : V) (r : Bool) : Prop := ∃ (t : Value) (i b : Bool), TyX K H x t ∧ PySem.W.kitOne K t (.type "int") = some i ∧ PySem.W.kitOne K t (.type "bool") = some b ∧ r = (i && !b)
theorem intK_int {K : PySem.W.Frag} {H : Hp} (n : Int) : IntK K H (.int n) true := ⟨.type "int", true, false, .base (.int n), kit_ty (by decide +kernel), kit_ty (by decide +kernel), rfl⟩
/-- isinstance(x, int) and not isinstance(x, bool) -/
def sp_is_integer (K : PySem.W.Frag) : Sp := fun vs H Q _ => ∃ (x : V) (r : Bool), vs = [x] ∧ IntK K H x r ∧ Q (.bl r) H
def sp_is_between (K : PySem.W.Frag) : Sp := fun vs H Q _ => ∃ (x : V) (lo hi : Int), vs = [x, .int lo, .int hi] ∧ ((∃ n, x = .int n ∧ Q (.bl (decide (lo ≤ n) && decide (n ≤ hi))) H) ∨ (IntK K H x false ∧ Q (.bl false) H))
theorem ok_is_integer (T : Txt K mg) : FnOk P w K mg base CX0 1 T.a_is_integer T.fd_is_integer ["value"] (sp_is_integer K) := by
  have S := sc_is_integer
  refine T.F_is_integer.ok S (fun vs H Q E h => ?_) (fun cdv A outer s H vs Q E hr h => ?_)
  · obtain ⟨x, r, rfl, _⟩ := h
    rfl
  · obtain ⟨x, r, rfl, ⟨t, i, b, ty, hi, hb, rfl⟩, k⟩ := h
    refine ⟨_, (pss_one (ps_ret (pe_and (pe_callB (id := "isinstance") call_isi (by rfl) T.b_isinstance (by decide +kernel) (pa_cons (pv 0) (pa_cons (pe_bltn (v := .ty "int") (u := .type "int") (by rfl) T.b_int (by decide +kernel) rfl) pa_nil))) (pe_one (pe_not (pe_callB (id := "isinstance") call_isi (by rfl) T.b_isinstance (by decide +kernel) (pa_cons (pv 0) (pa_cons (pe_bltn (v := .ty "bool") (u := .type "bool") (by rfl) T.b_bool (by decide +kernel) rfl) pa_nil)))))))), ?_⟩
    refine ⟨_, rfl, _, _, _, _, i, rfl, .ty _, ty, hi, i, rfl, ?_⟩
    cases i with
    | false => exact iteF k
    | true => exact iteT ⟨_, rfl, _, _, _, _, b, rfl, .ty _, ty, hb, b, rfl, k⟩
theorem ok_is_between (T : Txt K mg) : FnOk P w K mg base CX0 2 T.a_is_between T.fd_is_between ["value", "low", "high"] (sp_is_between K) := by
  have S := sc_is_between
  refine T.F_is_between.ok S (fun vs H Q E h => ?_) (fun cdv A outer s H vs Q E hr h => ?_)
  · obtain ⟨x, lo, hi, rfl, _⟩ := h
    rfl
  · obtain ⟨x, lo, hi, rfl, h⟩ := h
    refine ⟨_, (pss_one (ps_ret (pe_and (pe_call (ok_is_integer T) (hr.mono (by decide)) rfl T.g_is_integer T.F_is_integer.kp T.B_is_integer .nil pass0 (pa_cons (pv 0) pa_nil)) (pe_one (pe_chain op_le op_le (pv 1) (pv 0) (pv 2)))))), ?_⟩
    rcases h with ⟨n, rfl, k⟩ | ⟨hk, k⟩
    · refine ⟨_, rfl, _, true, rfl, intK_int n, true, rfl, iteT ?_⟩
      refine ⟨_, rfl, _, rfl, _, _, rfl, rfl, _, rfl, ?_⟩
      by_cases q : lo ≤ n
      · rw [decide_eq_true q, Bool.true_and] at k
        rw [decide_eq_true q]
        exact iteT ⟨_, rfl, _, _, rfl, rfl, k⟩
      · rw [decide_eq_false q, Bool.false_and] at k
        rw [decide_eq_false q]
        exact iteF k
    · exact ⟨_, rfl, _, false, rfl, hk, false, rfl, iteF k⟩
/-! ### sequences, items by their kinds -/
theorem tyX_same {K : PySem.W.Frag} {H H' : Hp} {x : V} {t : Value} (h : TyX K H x t) (s : Same H H') : TyX K H' x t := by
  cases h with
  | base b =>
    refine .base ?_
    cases b with
    | non => exact .non
    | bl y => exact .bl y
    | int i => exact .int i
    | str y => exact .str y
    | flt y => exact .flt y
    | lst e => exact .lst (s _ _ e)
    | frz e => exact .frz (s _ _ e)
    | tup e => exact .tup (s _ _ e)
    | dK e => exact .dK (s _ _ e)
    | dT e => exact .dT (s _ _ e)
    | ins e cl ha hn ht hm => exact .ins (s _ _ e) cl ha hn ht hm
  | byt b => exact .byt b
  | set e => exact .set (s _ _ e)
  | kList e c => exact .kList e c
  | kTuple e c => exact .kTuple e c
  | kDict e c => exact .kDict e c
  | fTuple e => exact .fTuple (s _ _ e)
  | fDict e => exact .fDict (s _ _ e)
theorem IntK.same {K : PySem.W.Frag} {H H' : Hp} {x : V} {r : Bool} (h : IntK K H x r) (s : Same H H') : IntK K H' x r := by
  obtain ⟨t, i, b, ty, h1, h2, h3⟩ := h
  exact ⟨t, i, b, tyX_same ty s, h1, h2, h3⟩
/-- x is the int n, or no int at all -/
def Kd (K : PySem.W.Frag) (H : Hp) (x : V) : Option Int → Prop
  | some n => x = .int n
  | none => IntK K H x false
theorem Kd.same {K : PySem.W.Frag} {H H' : Hp} {x : V} {o : Option Int} (h : Kd K H x o) (s : Same H H') : Kd K H' x o := by
  cases o with
  | some n => exact h
  | none => exact IntK.same h s
/-- what lies in lo .. hi -/
def inR (lo hi : Int) : Option Int → Bool
  | some n => decide (lo ≤ n) && decide (n ≤ hi)
  | none => false
/-- a list or a tuple -/
def SeqA (K : PySem.W.Frag) (H : Hp) (a : Addr) (xs : List V) : Prop := SqL K H a xs ∨ SqT K H a xs
theorem SeqA.lst {K : PySem.W.Frag} {H : Hp} {a : Addr} {xs : List V} (h : H a = some (.lst xs)) : SeqA K H a xs := .inl (SqL.of h)
theorem SeqA.tup {K : PySem.W.Frag} {H : Hp} {a : Addr} {xs : List V} (h : H a = some (.tup xs)) : SeqA K H a xs := .inr (SqT.of h)
theorem SeqA.sm {K : PySem.W.Frag} {H H' : Hp} {a : Addr} {xs : List V} (h : SeqA K H a xs) (s : Same H H') : SeqA K H' a xs := h.elim (fun h => .inl (s.seq h)) fun h => .inr (sqT_sm h s)
/-- whether x is a sequence, by its kind -/
def SeqK (K : PySem.W.Frag) (H : Hp) (x : V) (r : Bool) : Prop := ∃ t, TyX K H x t ∧ PySem.W.kitAny K t [.type "list", .type "tuple"] = some r
theorem kit2 {K : PySem.W.Frag} {t : Value} {a b : Bool} (h1 : PySem.W.kitOne K t (.type "list") = some a) (h2 : PySem.W.kitOne K t (.type "tuple") = some b) : PySem.W.kitAny K t [.type "list", .type "tuple"] = some (a || b) := by
  unfold PySem.W.kitAny
  rw [h1]
  cases a with
  | true => rfl
  | false =>
    show PySem.W.kitAny K t [.type "tuple"] = some b
    unfold PySem.W.kitAny
    rw [h2]
    cases b <;> rfl
theorem seqK_ty {K : PySem.W.Frag} {H : Hp} {x : V} {n : String} {a b : Bool} (t : TyX K H x (.type n)) (h1 : kitB n "list" = some a) (h2 : kitB n "tuple" = some b) : SeqK K H x (a || b) := ⟨_, t, kit2 (kit_ty h1) (kit_ty h2)⟩
theorem seqK_of {K : PySem.W.Frag} {H : Hp} {a : Addr} {xs : List V} (h : SeqA K H a xs) : SeqK K H (.ref a) true := by
  rcases h with h | h
  · rcases h with (h | ⟨o, h⟩) | ⟨o, its, n, hk, hc, _⟩
    · exact seqK_ty (a := true) (b := false) (.base (.lst h)) (by decide +kernel) (by decide +kernel)
    · exact seqK_ty (a := true) (b := false) (.base (.frz h)) (by decide +kernel) (by decide +kernel)
    · exact seqK_ty (a := true) (b := false) (.kList hk hc) (by decide +kernel) (by decide +kernel)
  · rcases h with (h | ⟨o, h⟩) | ⟨o, its, n, hk, hc, _⟩
    · exact seqK_ty (a := false) (b := true) (.base (.tup h)) (by decide +kernel) (by decide +kernel)
    · exact seqK_ty (a := false) (b := true) (.fTuple h) (by decide +kernel) (by decide +kernel)
    · exact seqK_ty (a := false) (b := true) (.kTuple hk hc) (by decide +kernel) (by decide +kernel)
/-! ### lists stay lists -/
def Typ (H H' : Hp) : Prop := ∀ a o, H a = some o → H' a = some o ∨ ((∃ xs, o = .lst xs) ∧ ∃ ys, H' a = some (.lst ys))
theorem Typ.refl (H : Hp) : Typ H H := fun _ _ h => .inl h
theorem Typ.of {H H' : Hp} (s : Same H H') : Typ H H' := fun _ _ h => .inl (s _ _ h)
theorem Typ.trans {H H1 H2 : Hp} (x : Typ H H1) (y : Typ H1 H2) : Typ H H2 := fun a o h => by
  rcases x a o h with h1 | ⟨hx, ys, h1⟩
  · exact y a o h1
  · rcases y a _ h1 with h2 | ⟨_, zs, h2⟩
    · exact .inr ⟨hx, ys, h2⟩
    · exact .inr ⟨hx, zs, h2⟩
theorem Typ.upd {H : Hp} {a : Addr} {xs ys : List V} (h : H a = some (.lst xs)) : Typ H (L2.upd H a (.lst ys)) := fun b o hb => by
  by_cases q : b = a
  · subst q
    rw [h] at hb
    cases hb
    exact .inr ⟨⟨_, rfl⟩, ys, upd_same⟩
  · exact .inl (by rw [upd_ne q]; exact hb)
theorem Typ.purse {H H' : Hp} {p c : Addr} (P : Purse p c H) (P' : Purse p c H') (s : SameX p H H') : Typ H H' := fun b o hb => by
  by_cases q : b = p
  · subst q
    obtain ⟨⟨xs, h⟩, _⟩ := P.there
    obtain ⟨⟨ys, h'⟩, _⟩ := P'.there
    rw [h] at hb
    cases hb
    exact .inr ⟨⟨_, rfl⟩, ys, h'⟩
  · exact .inl (s b o q hb)
theorem tyX_typ {K : PySem.W.Frag} {H H' : Hp} {x : V} {t : Value} (h : TyX K H x t) (s : Typ H H') : TyX K H' x t := by
  cases h with
  | base b =>
    refine .base ?_
    cases b with
    | non => exact .non
    | bl y => exact .bl y
    | int i => exact .int i
    | str y => exact .str y
    | flt y => exact .flt y
    | lst e => exact (s _ _ e).elim (fun h => .lst h) fun ⟨_, ys, h⟩ => .lst h
    | frz e => exact (s _ _ e).elim (fun h => .frz h) fun ⟨⟨_, z⟩, _⟩ => nomatch z
    | tup e => exact (s _ _ e).elim (fun h => .tup h) fun ⟨⟨_, z⟩, _⟩ => nomatch z
    | dK e => exact (s _ _ e).elim (fun h => .dK h) fun ⟨⟨_, z⟩, _⟩ => nomatch z
    | dT e => exact (s _ _ e).elim (fun h => .dT h) fun ⟨⟨_, z⟩, _⟩ => nomatch z
    | ins e cl ha hn ht hm => exact (s _ _ e).elim (fun h => .ins h cl ha hn ht hm) fun ⟨⟨_, z⟩, _⟩ => nomatch z
  | byt b => exact .byt b
  | set e => exact (s _ _ e).elim (fun h => .set h) fun ⟨⟨_, z⟩, _⟩ => nomatch z
  | kList e c => exact .kList e c
  | kTuple e c => exact .kTuple e c
  | kDict e c => exact .kDict e c
  | fTuple e => exact (s _ _ e).elim (fun h => .fTuple h) fun ⟨⟨_, z⟩, _⟩ => nomatch z
  | fDict e => exact (s _ _ e).elim (fun h => .fDict h) fun ⟨⟨_, z⟩, _⟩ => nomatch z
theorem Kd.typ {K : PySem.W.Frag} {H H' : Hp} {x : V} {o : Option Int} (h : Kd K H x o) (s : Typ H H') : Kd K H' x o := by
  cases o with
  | some n => exact h
  | none =>
    obtain ⟨t, i, b, ty, h1, h2, h3⟩ := (show IntK K H x false from h)
    exact ⟨t, i, b, tyX_typ ty s, h1, h2, h3⟩
theorem intK_no {K : PySem.W.Frag} {H : Hp} {x : V} {n : String} {i b : Bool} (t : TyX K H x (.type n)) (h1 : kitB n "int" = some i) (h2 : kitB n "bool" = some b) (h : (i && !b) = false) : IntK K H x false := ⟨_, i, b, t, kit_ty h1, kit_ty h2, h.symm⟩
theorem ixN_nat {n j : Nat} {z : Int} (e : z = (j : Int)) (h : j < n) : ixN n z = some j := by
  subst e
  unfold ixN
  rw [if_pos (by omega), if_pos (by omega)]
  rfl
/-! ### equality of words -/
theorem dec_int (a b : Int) : decide (V.int a = V.int b) = decide (a = b) := by
  by_cases e : a = b
  · rw [decide_eq_true e, decide_eq_true (congrArg V.int e)]
  · rw [decide_eq_false e, decide_eq_false (fun q => e (V.int.inj q))]
theorem dec_bl (a b : Bool) : decide (V.bl a = V.bl b) = (a == b) := by
  cases a <;> cases b <;> rfl
/-! ### steps: readings by their form -/
section
variable {K : PySem.W.Frag} {σ : L2.St} {H : Hp} {Q : VK} {QL : List V → Hp → Prop} {QB : Bool → Hp → Prop} {QO : Option Int → Hp → Prop} {QS : L2.St → Hp → Prop} {v w : V} {a0 a1 a2 a3 a4 a5 a6 a7 a8 a9 a10 a11 a12 a13 a14 a15 a16 a17 a18 a19 : Option V} {te tb tc : TE} {ta : TA} {t u : TT} {ts us : TS} {D : Ends} {g : TG}
def rTupOf (K : PySem.W.Frag) : List V → Hp → VK → Prop := fun xs H Q => ∃ p ys, xs = [.ref p] ∧ ((SqL K H p ys ∧ ∀ l, H l = none → Q (.ref l) (L2.upd H l (.tup ys))) ∨ SqT K H p ys ∧ Q (.ref p) H)
theorem call_tupK {X : Cx} {K : PySem.W.Frag} (e : X.K = K) : CallR X (.type "tuple") (rTupOf K) := e ▸ call_tuple_of
def rLstOf (K : PySem.W.Frag) : List V → Hp → VK → Prop := fun xs H Q => ∃ p ys, xs = [.ref p] ∧ (SqL K H p ys ∨ SqT K H p ys) ∧ ∀ l, H l = none → Q (.ref l) (L2.upd H l (.lst ys))
theorem call_listK {X : Cx} {K : PySem.W.Frag} (e : X.K = K) : CallR X (.type "list") (rLstOf K) := e ▸ call_list_of
def rLenOf (K : PySem.W.Frag) : List V → Hp → VK → Prop := fun xs H Q => ∃ p ys, xs = [.ref p] ∧ (SqL K H p ys ∨ SqT K H p ys) ∧ Q (.int (ys.length : Int)) H
theorem call_lenK {X : Cx} {K : PySem.W.Frag} (e : X.K = K) : CallR X (.builtin "len") (rLenOf K) := e ▸ call_len_seq
theorem all_cons {α : Type} {p : α → Prop} {a : α} {l : List α} (h : p a) (r : ∀ q ∈ l, p q) : ∀ q ∈ a :: l, p q := fun q hq => by
  rcases List.mem_cons.mp hq with e | e
  · rw [e]; exact h
  · exact r q e
theorem x_v0 (q : Q v H) : tVar 0 (some v :: σ) H Q := ⟨_, rfl, q⟩
theorem x_g0 (q : QS (some v :: σ) H) : gName 0 v (a0 :: σ) H QS := q
theorem x_v1 (q : Q v H) : tVar 1 (a0 :: some v :: σ) H Q := ⟨_, rfl, q⟩
theorem x_g1 (q : QS (a0 :: some v :: σ) H) : gName 1 v (a0 :: a1 :: σ) H QS := q
theorem x_v2 (q : Q v H) : tVar 2 (a0 :: a1 :: some v :: σ) H Q := ⟨_, rfl, q⟩
theorem x_g2 (q : QS (a0 :: a1 :: some v :: σ) H) : gName 2 v (a0 :: a1 :: a2 :: σ) H QS := q
theorem x_v3 (q : Q v H) : tVar 3 (a0 :: a1 :: a2 :: some v :: σ) H Q := ⟨_, rfl, q⟩
theorem x_g3 (q : QS (a0 :: a1 :: a2 :: some v :: σ) H) : gName 3 v (a0 :: a1 :: a2 :: a3 :: σ) H QS := q
theorem x_v4 (q : Q v H) : tVar 4 (a0 :: a1 :: a2 :: a3 :: some v :: σ) H Q := ⟨_, rfl, q⟩
theorem x_g4 (q : QS (a0 :: a1 :: a2 :: a3 :: some v :: σ) H) : gName 4 v (a0 :: a1 :: a2 :: a3 :: a4 :: σ) H QS := q
theorem x_v5 (q : Q v H) : tVar 5 (a0 :: a1 :: a2 :: a3 :: a4 :: some v :: σ) H Q := ⟨_, rfl, q⟩
theorem x_g5 (q : QS (a0 :: a1 :: a2 :: a3 :: a4 :: some v :: σ) H) : gName 5 v (a0 :: a1 :: a2 :: a3 :: a4 :: a5 :: σ) H QS := q
theorem x_v6 (q : Q v H) : tVar 6 (a0 :: a1 :: a2 :: a3 :: a4 :: a5 :: some v :: σ) H Q := ⟨_, rfl, q⟩
theorem x_g6 (q : QS (a0 :: a1 :: a2 :: a3 :: a4 :: a5 :: some v :: σ) H) : gName 6 v (a0 :: a1 :: a2 :: a3 :: a4 :: a5 :: a6 :: σ) H QS := q
theorem x_v7 (q : Q v H) : tVar 7 (a0 :: a1 :: a2 :: a3 :: a4 :: a5 :: a6 :: some v :: σ) H Q := ⟨_, rfl, q⟩
theorem x_g7 (q : QS (a0 :: a1 :: a2 :: a3 :: a4 :: a5 :: a6 :: some v :: σ) H) : gName 7 v (a0 :: a1 :: a2 :: a3 :: a4 :: a5 :: a6 :: a7 :: σ) H QS := q
theorem x_v8 (q : Q v H) : tVar 8 (a0 :: a1 :: a2 :: a3 :: a4 :: a5 :: a6 :: a7 :: some v :: σ) H Q := ⟨_, rfl, q⟩
theorem x_g8 (q : QS (a0 :: a1 :: a2 :: a3 :: a4 :: a5 :: a6 :: a7 :: some v :: σ) H) : gName 8 v (a0 :: a1 :: a2 :: a3 :: a4 :: a5 :: a6 :: a7 :: a8 :: σ) H QS := q
theorem x_v9 (q : Q v H) : tVar 9 (a0 :: a1 :: a2 :: a3 :: a4 :: a5 :: a6 :: a7 :: a8 :: some v :: σ) H Q := ⟨_, rfl, q⟩
theorem x_g9 (q : QS (a0 :: a1 :: a2 :: a3 :: a4 :: a5 :: a6 :: a7 :: a8 :: some v :: σ) H) : gName 9 v (a0 :: a1 :: a2 :: a3 :: a4 :: a5 :: a6 :: a7 :: a8 :: a9 :: σ) H QS := q
theorem x_v10 (q : Q v H) : tVar 10 (a0 :: a1 :: a2 :: a3 :: a4 :: a5 :: a6 :: a7 :: a8 :: a9 :: some v :: σ) H Q := ⟨_, rfl, q⟩
theorem x_g10 (q : QS (a0 :: a1 :: a2 :: a3 :: a4 :: a5 :: a6 :: a7 :: a8 :: a9 :: some v :: σ) H) : gName 10 v (a0 :: a1 :: a2 :: a3 :: a4 :: a5 :: a6 :: a7 :: a8 :: a9 :: a10 :: σ) H QS := q
theorem x_v11 (q : Q v H) : tVar 11 (a0 :: a1 :: a2 :: a3 :: a4 :: a5 :: a6 :: a7 :: a8 :: a9 :: a10 :: some v :: σ) H Q := ⟨_, rfl, q⟩
theorem x_g11 (q : QS (a0 :: a1 :: a2 :: a3 :: a4 :: a5 :: a6 :: a7 :: a8 :: a9 :: a10 :: some v :: σ) H) : gName 11 v (a0 :: a1 :: a2 :: a3 :: a4 :: a5 :: a6 :: a7 :: a8 :: a9 :: a10 :: a11 :: σ) H QS := q
theorem x_v12 (q : Q v H) : tVar 12 (a0 :: a1 :: a2 :: a3 :: a4 :: a5 :: a6 :: a7 :: a8 :: a9 :: a10 :: a11 :: some v :: σ) H Q := ⟨_, rfl, q⟩
theorem x_g12 (q : QS (a0 :: a1 :: a2 :: a3 :: a4 :: a5 :: a6 :: a7 :: a8 :: a9 :: a10 :: a11 :: some v :: σ) H) : gName 12 v (a0 :: a1 :: a2 :: a3 :: a4 :: a5 :: a6 :: a7 :: a8 :: a9 :: a10 :: a11 :: a12 :: σ) H QS := q
theorem x_v13 (q : Q v H) : tVar 13 (a0 :: a1 :: a2 :: a3 :: a4 :: a5 :: a6 :: a7 :: a8 :: a9 :: a10 :: a11 :: a12 :: some v :: σ) H Q := ⟨_, rfl, q⟩
theorem x_g13 (q : QS (a0 :: a1 :: a2 :: a3 :: a4 :: a5 :: a6 :: a7 :: a8 :: a9 :: a10 :: a11 :: a12 :: some v :: σ) H) : gName 13 v (a0 :: a1 :: a2 :: a3 :: a4 :: a5 :: a6 :: a7 :: a8 :: a9 :: a10 :: a11 :: a12 :: a13 :: σ) H QS := q
theorem x_v14 (q : Q v H) : tVar 14 (a0 :: a1 :: a2 :: a3 :: a4 :: a5 :: a6 :: a7 :: a8 :: a9 :: a10 :: a11 :: a12 :: a13 :: some v :: σ) H Q := ⟨_, rfl, q⟩
theorem x_g14 (q : QS (a0 :: a1 :: a2 :: a3 :: a4 :: a5 :: a6 :: a7 :: a8 :: a9 :: a10 :: a11 :: a12 :: a13 :: some v :: σ) H) : gName 14 v (a0 :: a1 :: a2 :: a3 :: a4 :: a5 :: a6 :: a7 :: a8 :: a9 :: a10 :: a11 :: a12 :: a13 :: a14 :: σ) H QS := q
theorem x_v15 (q : Q v H) : tVar 15 (a0 :: a1 :: a2 :: a3 :: a4 :: a5 :: a6 :: a7 :: a8 :: a9 :: a10 :: a11 :: a12 :: a13 :: a14 :: some v :: σ) H Q := ⟨_, rfl, q⟩
theorem x_g15 (q : QS (a0 :: a1 :: a2 :: a3 :: a4 :: a5 :: a6 :: a7 :: a8 :: a9 :: a10 :: a11 :: a12 :: a13 :: a14 :: some v :: σ) H) : gName 15 v (a0 :: a1 :: a2 :: a3 :: a4 :: a5 :: a6 :: a7 :: a8 :: a9 :: a10 :: a11 :: a12 :: a13 :: a14 :: a15 :: σ) H QS := q
theorem x_v16 (q : Q v H) : tVar 16 (a0 :: a1 :: a2 :: a3 :: a4 :: a5 :: a6 :: a7 :: a8 :: a9 :: a10 :: a11 :: a12 :: a13 :: a14 :: a15 :: some v :: σ) H Q := ⟨_, rfl, q⟩
theorem x_g16 (q : QS (a0 :: a1 :: a2 :: a3 :: a4 :: a5 :: a6 :: a7 :: a8 :: a9 :: a10 :: a11 :: a12 :: a13 :: a14 :: a15 :: some v :: σ) H) : gName 16 v (a0 :: a1 :: a2 :: a3 :: a4 :: a5 :: a6 :: a7 :: a8 :: a9 :: a10 :: a11 :: a12 :: a13 :: a14 :: a15 :: a16 :: σ) H QS := q
theorem x_v17 (q : Q v H) : tVar 17 (a0 :: a1 :: a2 :: a3 :: a4 :: a5 :: a6 :: a7 :: a8 :: a9 :: a10 :: a11 :: a12 :: a13 :: a14 :: a15 :: a16 :: some v :: σ) H Q := ⟨_, rfl, q⟩
theorem x_g17 (q : QS (a0 :: a1 :: a2 :: a3 :: a4 :: a5 :: a6 :: a7 :: a8 :: a9 :: a10 :: a11 :: a12 :: a13 :: a14 :: a15 :: a16 :: some v :: σ) H) : gName 17 v (a0 :: a1 :: a2 :: a3 :: a4 :: a5 :: a6 :: a7 :: a8 :: a9 :: a10 :: a11 :: a12 :: a13 :: a14 :: a15 :: a16 :: a17 :: σ) H QS := q
theorem x_v18 (q : Q v H) : tVar 18 (a0 :: a1 :: a2 :: a3 :: a4 :: a5 :: a6 :: a7 :: a8 :: a9 :: a10 :: a11 :: a12 :: a13 :: a14 :: a15 :: a16 :: a17 :: some v :: σ) H Q := ⟨_, rfl, q⟩
theorem x_g18 (q : QS (a0 :: a1 :: a2 :: a3 :: a4 :: a5 :: a6 :: a7 :: a8 :: a9 :: a10 :: a11 :: a12 :: a13 :: a14 :: a15 :: a16 :: a17 :: some v :: σ) H) : gName 18 v (a0 :: a1 :: a2 :: a3 :: a4 :: a5 :: a6 :: a7 :: a8 :: a9 :: a10 :: a11 :: a12 :: a13 :: a14 :: a15 :: a16 :: a17 :: a18 :: σ) H QS := q
theorem x_v19 (q : Q v H) : tVar 19 (a0 :: a1 :: a2 :: a3 :: a4 :: a5 :: a6 :: a7 :: a8 :: a9 :: a10 :: a11 :: a12 :: a13 :: a14 :: a15 :: a16 :: a17 :: a18 :: some v :: σ) H Q := ⟨_, rfl, q⟩
theorem x_g19 (q : QS (a0 :: a1 :: a2 :: a3 :: a4 :: a5 :: a6 :: a7 :: a8 :: a9 :: a10 :: a11 :: a12 :: a13 :: a14 :: a15 :: a16 :: a17 :: a18 :: some v :: σ) H) : gName 19 v (a0 :: a1 :: a2 :: a3 :: a4 :: a5 :: a6 :: a7 :: a8 :: a9 :: a10 :: a11 :: a12 :: a13 :: a14 :: a15 :: a16 :: a17 :: a18 :: a19 :: σ) H QS := q
theorem x_c (q : Q v H) : tC v σ H Q := q
theorem x_op {r : R2} (q : te σ H fun x H1 => tb σ H1 fun y H2 => r x y H2 Q) : tOp r te tb σ H Q := q
theorem x_un {r : V → Hp → VK → Prop} (q : te σ H fun x H1 => r x H1 Q) : tUn r te σ H Q := q
theorem x_test (q : te σ H fun x H1 => ∃ k, x = .bl k ∧ QB k H1) : tTest te σ H QB := q
theorem x_tB (q : te σ H fun x H1 => ∃ k, x = .bl k ∧ QB k H1) : tB te σ H QB := q
theorem x_and (q : t σ H fun c H1 => if c = true then u σ H1 QB else QB false H1) : tAnd t u σ H QB := q
theorem x_or (q : t σ H fun c H1 => if c = true then QB true H1 else u σ H1 QB) : tOr t u σ H QB := q
theorem x_not (q : t σ H fun c H1 => QB (!c) H1) : tNot t σ H QB := q
theorem x_andV (q : te σ H fun x H1 => ∃ c, x = .bl c ∧ if c = true then tb σ H1 Q else Q (.bl false) H1) : tAndV te tb σ H Q := q
theorem x_orV (q : te σ H fun x H1 => ∃ c, x = .bl c ∧ if c = true then Q (.bl true) H1 else tb σ H1 Q) : tOrV te tb σ H Q := q
theorem x_notV (q : te σ H fun x H1 => ∃ c, x = .bl c ∧ Q (.bl (!c)) H1) : tNotV te σ H Q := q
theorem x_if (q : t σ H fun c H1 => if c = true then te σ H1 Q else tb σ H1 Q) : tIf t te tb σ H Q := q
theorem x_ifS (q : t σ H fun b H1 => if b = true then ts D σ H1 else us D σ H1) : tIfS t ts us D σ H := q
theorem x_seq (q : ts ⟨us D, D.rt, D.bk, D.ct⟩ σ H) : tSeq ts us D σ H := q
theorem x_next (q : D.nx σ H) : tNext D σ H := q
theorem x_brk (q : D.bk σ H) : tBreak D σ H := q
theorem x_cont (q : D.ct σ H) : tCont D σ H := q
theorem x_nx {f : L2.St → Hp → Prop} {r : VK} {b c : L2.St → Hp → Prop} (q : f σ H) : Ends.nx ⟨f, r, b, c⟩ σ H := q
theorem x_rt {f : VK} {n b c : L2.St → Hp → Prop} (q : f v H) : Ends.rt ⟨n, f, b, c⟩ v H := q
theorem x_bk {f : L2.St → Hp → Prop} {r : VK} {n c : L2.St → Hp → Prop} (q : f σ H) : Ends.bk ⟨n, r, f, c⟩ σ H := q
theorem x_ct {f : L2.St → Hp → Prop} {r : VK} {n b : L2.St → Hp → Prop} (q : f σ H) : Ends.ct ⟨n, r, b, f⟩ σ H := q
theorem x_drop (q : te σ H fun _ H1 => D.nx σ H1) : tDrop te D σ H := q
theorem x_ret (q : te σ H fun x H1 => D.rt x H1) : tRet te D σ H := q
theorem x_retN (q : D.rt .non H) : tRetN D σ H := q
theorem x_asg (q : te σ H fun x H1 => g x σ H1 D.nx) : tAsg te g D σ H := q
theorem x_nil (q : QL [] H) : tNil σ H QL := q
theorem x_cons (q : te σ H fun x H1 => ta σ H1 fun xs H2 => QL (x :: xs) H2) : tCons te ta σ H QL := q
theorem x_call {sp : Sp} {dvs : List V} {E : XK} (q : ta σ H fun vs H1 => sp (vs ++ dvs) H1 Q E) : tCall sp dvs E ta σ H Q := q
theorem x_cb {r : List V → Hp → VK → Prop} (q : ta σ H fun vs H1 => r vs H1 Q) : tCB r ta σ H Q := q
theorem x_bm {T : String} {r : V → List V → Hp → VK → Prop} (q : te σ H fun x H1 => tyV K T x H1 ∧ ta σ H1 fun xs H2 => r x xs H2 Q) : tBM K T r te ta σ H Q := q
theorem x_sl {r : V → Option Int → Option Int → Hp → VK → Prop} {tl th : TO} (q : te σ H fun x H1 => tl σ H1 fun l H2 => th σ H2 fun u H3 => r x l u H3 Q) : tSl r te tl th σ H Q := q
theorem x_np (q : QO none H) : tNoPart σ H QO := q
theorem x_pt (q : te σ H fun x H1 => ∃ i, x = .int i ∧ QO (some i) H1) : tPart te σ H QO := q
theorem x_exI {P : Int → Prop} {i : Int} (q : P i) : ∃ k, V.int i = V.int k ∧ P k := ⟨_, rfl, q⟩
theorem x_exB {P : Bool → Prop} {b : Bool} (q : P b) : ∃ k, V.bl b = V.bl k ∧ P k := ⟨_, rfl, q⟩
theorem x_I0 {f : Int → Int → V} {i j : Int} (q : Q (f i j) H) : rI0 f (.int i) (.int j) H Q := ⟨_, _, rfl, rfl, q⟩
theorem x_eqI {i j : Int} (q : Q (.bl (decide (i = j))) H) : rEq (.int i) (.int j) H Q := ⟨rfl, by rw [My.dec_int]; exact q⟩
theorem x_neI {i j : Int} (q : Q (.bl (!decide (i = j))) H) : rNe (.int i) (.int j) H Q := ⟨rfl, by rw [My.dec_int]; exact q⟩
theorem x_eqS {i j : Str} (q : Q (.bl (decide (i = j))) H) : rEq (.str i) (.str j) H Q := ⟨rfl, by
  have e : decide (V.str i = V.str j) = decide (i = j) := by
    by_cases h : i = j
    · rw [decide_eq_true h, decide_eq_true (congrArg V.str h)]
    · rw [decide_eq_false h, decide_eq_false (fun z => h (V.str.inj z))]
  rw [e]; exact q⟩
theorem x_neS {i j : Str} (q : Q (.bl (!decide (i = j))) H) : rNe (.str i) (.str j) H Q := ⟨rfl, by
  have e : decide (V.str i = V.str j) = decide (i = j) := by
    by_cases h : i = j
    · rw [decide_eq_true h, decide_eq_true (congrArg V.str h)]
    · rw [decide_eq_false h, decide_eq_false (fun z => h (V.str.inj z))]
  rw [e]; exact q⟩
def brB (b : Bool) (p q : Prop) : Prop := (b = true → p) ∧ (b = false → q)
theorem x_ite {b : Bool} {p q : Prop} (h : brB b p q) : if b = true then p else q := by
  cases b with
  | true => rw [if_pos rfl]; exact h.1 rfl
  | false => rw [if_neg Bool.false_ne_true]; exact h.2 rfl
theorem x_brT {p q : Prop} (h : p) : brB true p q := ⟨fun _ => h, fun z => nomatch z⟩
theorem x_brF {p q : Prop} (h : q) : brB false p q := ⟨fun z => (nomatch z), fun _ => h⟩
theorem x_brN {b : Bool} {p q : Prop} (h : brB b q p) : brB (!b) p q := by
  cases b with
  | true => exact x_brF (h.1 rfl)
  | false => exact x_brT (h.2 rfl)
theorem br2 {b : Bool} {p q : Prop} (h1 : b = true → p) (h2 : b = false → q) : brB b p q := ⟨h1, h2⟩
theorem brD {c : Prop} [Decidable c] {p q : Prop} (h1 : c → p) (h2 : ¬ c → q) : brB (decide c) p q := ⟨fun h => h1 (of_decide_eq_true h), fun h => h2 (of_decide_eq_false h)⟩
theorem brT {b : Bool} {p q : Prop} (e : b = true) (h : p) : brB b p q := ⟨fun _ => h, fun z => by rw [e] at z; cases z⟩
theorem brF {b : Bool} {p q : Prop} (e : b = false) (h : q) : brB b p q := ⟨fun z => (by rw [e] at z; cases z), fun _ => h⟩
theorem brDT {c : Prop} [Decidable c] {p q : Prop} (e : c) (h : p) : brB (decide c) p q := brT (decide_eq_true e) h
theorem brDF {c : Prop} [Decidable c] {p q : Prop} (e : ¬ c) (h : q) : brB (decide c) p q := brF (decide_eq_false e) h
theorem x_ixL {a : Addr} {xs : List V} {i : Int} (h : H a = some (.lst xs)) (hi : atI xs i = some v) (q : Q v H) : rIxL K (.ref a) (.int i) H Q := ⟨_, _, _, _, rfl, rfl, SqL.of h, hi, q⟩
theorem x_ixT {a : Addr} {xs : List V} {i : Int} (h : H a = some (.tup xs)) (hi : atI xs i = some v) (q : Q v H) : rIxT K (.ref a) (.int i) H Q := ⟨_, _, _, _, rfl, rfl, SqT.of h, hi, q⟩
def rNewL (xs : List V) (H : Hp) (Q : VK) : Prop := xs.length ≤ sizeLine ∧ ∀ p, H p = none → Q (.ref p) (L2.upd H p (.lst xs))
def rNewT (xs : List V) (H : Hp) (Q : VK) : Prop := xs.length ≤ sizeLine ∧ ∀ p, H p = none → Q (.ref p) (L2.upd H p (.tup xs))
theorem x_lst (q : ta σ H fun xs H1 => rNewL xs H1 Q) : tLst ta σ H Q := q
theorem x_tup (q : ta σ H fun xs H1 => rNewT xs H1 Q) : tTup ta σ H Q := q
theorem x_new {n : Nat} {P : Prop} (h : n ≤ 100000) (q : P) : n ≤ sizeLine ∧ P := ⟨Nat.le_trans h (by decide), q⟩
theorem x_sFld {f : Str} (q : tb σ H fun y H1 => te σ H1 fun x H2 => ∃ a C dx fs, x = .ref a ∧ H2 a = some (.ins C dx fs) ∧ Cls K C ∧ NoAttr K C f ∧ fs.length < 1000 ∧ D.nx σ (L2.upd H2 a (.ins C dx (putF f y fs)))) : sFld K te tb f D σ H := q
theorem x_fld {f : Str} (q : te σ H fun x H1 => ∃ a C dx fs v, x = .ref a ∧ H1 a = some (.ins C dx fs) ∧ Cls K C ∧ NoAttr K C f ∧ fs.lookup f = some v ∧ Q v H1) : tFld K te f σ H Q := q
/-- a field is stored -/
theorem fstore {f : Str} {y : V} {p C dx : Addr} {fs fs' : List (Str × V)} {P : Hp → Prop} (h : H p = some (.ins C dx fs)) (c : Cls K C) (n : NoAttr K C f) (l : fs.length < 1000) (e : putF f y fs = fs') (q : ∀ H', SameX p H H' → H' p = some (.ins C dx fs') → P H') :
    ∃ a C dx fs, V.ref p = .ref a ∧ H a = some (.ins C dx fs) ∧ Cls K C ∧ NoAttr K C f ∧ fs.length < 1000 ∧ P (L2.upd H a (.ins C dx (putF f y fs))) := ⟨p, C, dx, fs, rfl, h, c, n, l, q _ SameX.upd (by rw [e]; exact upd_same)⟩
/-- a field is read -/
theorem fget {f : Str} {v : V} {p C dx : Addr} {fs : List (Str × V)} {P : V → Prop} (h : H p = some (.ins C dx fs)) (c : Cls K C) (n : NoAttr K C f) (e : fs.lookup f = some v) (q : P v) :
    ∃ a C dx fs v, V.ref p = .ref a ∧ H a = some (.ins C dx fs) ∧ Cls K C ∧ NoAttr K C f ∧ fs.lookup f = some v ∧ P v := ⟨p, C, dx, fs, v, rfl, h, c, n, e, q⟩
/-- tuple(seq) -/
theorem tupleOf {a : Addr} {xs : List V} (h : SeqA K H a xs) (q : ∀ l H', Same H H' → SqT K H' l xs → Q (.ref l) H') :
    rTupOf K [.ref a] H Q :=
  ⟨a, xs, rfl, h.elim (fun h => .inl ⟨h, fun l hl => q l _ (Same.new hl) (SqT.of upd_same)⟩) fun h => .inr ⟨h, q a H (Same.refl H) h⟩⟩
/-- list(seq) -/
theorem listOf {a : Addr} {xs : List V} (h : SeqA K H a xs) (q : ∀ l H', H l = none → Same H H' → H' l = some (.lst xs) → Q (.ref l) H') :
    rLstOf K [.ref a] H Q := ⟨a, xs, rfl, h, fun l hl => q l _ hl (Same.new hl) upd_same⟩
/-- new lists, new tuples, sums of lists, appends, by what stands afterwards -/
theorem newList {xs : List V} (h : xs.length ≤ 100000) (q : ∀ l H', H l = none → Same H H' → H' l = some (.lst xs) → Q (.ref l) H') : rNewL xs H Q := ⟨Nat.le_trans h (by decide), fun l hl => q l _ hl (Same.new hl) upd_same⟩
theorem newTup {xs : List V} (h : xs.length ≤ 100000) (q : ∀ l H', H l = none → Same H H' → H' l = some (.tup xs) → Q (.ref l) H') : rNewT xs H Q := ⟨Nat.le_trans h (by decide), fun l hl => q l _ hl (Same.new hl) upd_same⟩
theorem catList {a b : Addr} {xs zs : List V} (ha : H a = some (.lst xs)) (hb : H b = some (.lst zs)) (h : xs.length + zs.length ≤ 100000) (q : ∀ l H', H l = none → Same H H' → H' l = some (.lst (xs ++ zs)) → Q (.ref l) H') : rCat (.ref a) (.ref b) H Q :=
  ⟨a, b, xs, zs, rfl, rfl, ha, hb, Nat.le_trans h (by decide), fun l hl => q l _ hl (Same.new hl) upd_same⟩
theorem appList {a : Addr} {xs : List V} {y : V} (ha : H a = some (.lst xs)) (h : xs.length < 100000) (q : ∀ H', SameX a H H' → H' a = some (.lst (xs ++ [y])) → Q .non H') : rAppend (.ref a) [y] H Q := ⟨a, xs, y, rfl, rfl, ha, Nat.lt_of_lt_of_le h (by decide), q _ SameX.upd upd_same⟩
theorem isList {a : Addr} {xs : List V} (ha : H a = some (.lst xs)) : tyV K "list" (.ref a) H := .inl ⟨rfl, xs, SqL.of ha⟩
theorem ixL {a : Addr} {xs : List V} {i : Nat} (ha : H a = some (.lst xs)) (hi : xs[i]? = some v) (q : Q v H) : rIxL K (.ref a) (.int (i : Int)) H Q := ⟨a, xs, i, v, rfl, rfl, SqL.of ha, atI_nat hi, q⟩
theorem ixT {a : Addr} {xs : List V} {i : Nat} (ha : SqT K H a xs) (hi : xs[i]? = some v) (q : Q v H) : rIxT K (.ref a) (.int (i : Int)) H Q := ⟨a, xs, i, v, rfl, rfl, ha, atI_nat hi, q⟩
theorem setL {a : Addr} {xs : List V} {i : Nat} {P : Hp → Prop} (ha : H a = some (.lst xs)) (hi : i < xs.length) (q : ∀ H', SameX a H H' → H' a = some (.lst (xs.set i v)) → P H') : rSetL (.ref a) (.int (i : Int)) v H P := ⟨a, xs, i, i, rfl, rfl, ha, ixN_nat rfl hi, q _ SameX.upd upd_same⟩
theorem lenA {a : Addr} {xs : List V} (h : SeqA K H a xs) (q : Q (.int (xs.length : Int)) H) : rLenOf K [.ref a] H Q := ⟨a, xs, rfl, h, q⟩
/-- what a for asks once its turns are known -/
def forK (J : It) (g : TG) (tb : TS) (D : Ends) (σ : L2.St) (H : Hp) : Prop := ∃ W : Nat → Nat → L2.St → Hp → Prop, (∃ m, W 0 m σ H) ∧ ∀ i m σ H, W i m σ H →
  (J.stop i H ∧ D.nx σ H) ∨ (J.go i H ∧ ∃ N : L2.St → Hp → Prop, (∀ σ' H', N σ' H' → ∃ m', m' < m ∧ W (i + 1) m' σ' H') ∧ ∀ x H', J.yld i H x H' → g x σ H' fun σ2 H2 => tb { D with nx := N, ct := N, bk := D.nx } σ2 H2)
def forI (g : TG) (tb : TS) (D : Ends) (σ : L2.St) (n : Int) (H : Hp) : Prop := ∃ j : Int, [V.int n] = [.int j] ∧ -(2 ^ 62) ≤ j ∧ j < 2 ^ 62 ∧ forK (Itr 0 j.toNat) g tb D σ H
theorem x_for1 (q : ta σ H fun vs H1 => ∃ j : Int, vs = [.int j] ∧ -(2 ^ 62) ≤ j ∧ j < 2 ^ 62 ∧ forK (Itr 0 j.toNat) g ts D σ H1) : tFor (iRng1 ta) g ts D σ H := q
theorem x_forL (q : te σ H fun x H1 => ∃ a, x = .ref a ∧ (∃ xs, SqL K H1 a xs) ∧ forK (Itl K a) g ts D σ H1) : tFor (iList K te) g ts D σ H := q
theorem x_forT (q : te σ H fun x H1 => ∃ a, x = .ref a ∧ (∃ xs, SqT K H1 a xs) ∧ forK (Itt K a) g ts D σ H1) : tFor (iTup K te) g ts D σ H := q
theorem rng1 {n : Int} (h0 : -100000 ≤ n) (h1 : n ≤ 100000) (q : forK (Itr 0 n.toNat) g ts D σ H) : ∃ j : Int, [V.int n] = [.int j] ∧ -(2 ^ 62) ≤ j ∧ j < 2 ^ 62 ∧ forK (Itr 0 j.toNat) g ts D σ H := ⟨n, rfl, by omega, by omega, q⟩
theorem overL {a : Addr} {xs : List V} (h : SqL K H a xs) (q : forK (Itl K a) g ts D σ H) : ∃ b, V.ref a = .ref b ∧ (∃ xs, SqL K H b xs) ∧ forK (Itl K b) g ts D σ H := ⟨a, rfl, ⟨_, h⟩, q⟩
theorem overT {a : Addr} {xs : List V} (h : SqT K H a xs) (q : forK (Itt K a) g ts D σ H) : ∃ b, V.ref a = .ref b ∧ (∃ xs, SqT K H b xs) ∧ forK (Itt K b) g ts D σ H := ⟨a, rfl, ⟨_, h⟩, q⟩
end
/-! ### steps: more readings by their form -/
theorem pe_fldK {X : Cx} {K : PySem.W.Frag} {e : Expr} {f : Str} {pos : Pos} {ta : TE} (eK : X.K = K) (he : PE X e ta) (hb : attributeBase e f X.env (eval e X.env) = eval e X.env) : PE X (.Attribute e f pos) (tFld K ta f) := eK ▸ pe_fld he hb
section
variable {K : PySem.W.Frag} {σ : L2.St} {H : Hp} {Q : VK} {QS : L2.St → Hp → Prop} {v : V} {te tb ti : TE} {tt : TT} {D : Ends}
theorem x_gsub {to ti : TE} {t : TSet} (q : to σ H fun o H1 => ti σ H1 fun i H2 => t o i v H2 fun H3 => QS σ H3) : gSub to ti t v σ H QS := q
theorem x_int1 {P : Int → Prop} {R : Prop} {i : Int} (q : P i) : (∃ k, [V.int i] = [V.int k] ∧ P k) ∨ R := .inl ⟨i, rfl, q⟩
theorem x_exL {P : Int → Prop} {i : Int} (q : P i) : ∃ k, [V.int i] = [V.int k] ∧ P k := ⟨i, rfl, q⟩
theorem min_if (i j : Int) : (if j < i then j else i) = min i j := by rw [Int.min_def]; split <;> split <;> omega
theorem max_if (i j : Int) : (if j > i then j else i) = max i j := by rw [Int.max_def]; split <;> split <;> omega
def rMin2 : List V → Hp → VK → Prop := fun xs H Q => ∃ i j, xs = [.int i, .int j] ∧ Q (.int (min i j)) H
def rMax2 : List V → Hp → VK → Prop := fun xs H Q => ∃ i j, xs = [.int i, .int j] ∧ Q (.int (max i j)) H
def ab (x : Int) : Int := if x < 0 then -x else x
def rAbs : List V → Hp → VK → Prop := fun xs H Q => ∃ i, xs = [.int i] ∧ Q (.int (ab i)) H
theorem call_min2K {X : Cx} (hc : X.calm = true) : CallR X (.builtin "min") rMin2 := by
  intro pins s σ H xs us Q I r h
  obtain ⟨i, j, e, q⟩ := h
  exact call_min2 hc pins s σ H xs us Q I r ⟨i, j, e, by rw [min_if]; exact q⟩
theorem call_max2K {X : Cx} (hc : X.calm = true) : CallR X (.builtin "max") rMax2 := by
  intro pins s σ H xs us Q I r h
  obtain ⟨i, j, e, q⟩ := h
  exact call_max2 hc pins s σ H xs us Q I r ⟨i, j, e, by rw [max_if]; exact q⟩
theorem call_absK {X : Cx} : CallR X (.builtin "abs") rAbs := call_abs
theorem x_min2 {i j : Int} (q : Q (.int (min i j)) H) : rMin2 [.int i, .int j] H Q := ⟨i, j, rfl, q⟩
theorem x_max2 {i j : Int} (q : Q (.int (max i j)) H) : rMax2 [.int i, .int j] H Q := ⟨i, j, rfl, q⟩
theorem x_abs {i : Int} (q : Q (.int (ab i)) H) : rAbs [.int i] H Q := ⟨i, rfl, q⟩
theorem x_brTT {p q : Prop} (h : p) : brB (true && true) p q := x_brT h
theorem x_mod {i j : Int} (h : 0 < j) (q : Q (.int (i % j)) H) : rI (fun _ j => 0 < j) (fun i j => .int (i % j)) (.int i) (.int j) H Q := ⟨i, j, rfl, rfl, h, q⟩
theorem x_mulR {i j : Int} (h : -(2 ^ 64) < j ∧ j < 2 ^ 64) (q : Q (.int (i * j)) H) : rI CMul (fun i j => .int (i * j)) (.int i) (.int j) H Q := ⟨i, j, rfl, rfl, .inr h, q⟩
theorem x_mulL {i j : Int} (h : -(2 ^ 64) < i ∧ i < 2 ^ 64) (q : Q (.int (i * j)) H) : rI CMul (fun i j => .int (i * j)) (.int i) (.int j) H Q := ⟨i, j, rfl, rfl, .inl h, q⟩
theorem x_div {i j : Int} (h : 0 < j ∧ j < 1073741824) (q : Q (.int (i / j)) H) : rI CDiv (fun i j => .int (i / j)) (.int i) (.int j) H Q := ⟨i, j, rfl, rfl, h, q⟩
theorem x_divW {i j : Int} (h0 : 0 < j) (h : j < 2 ^ 62) (q : Q (.int (i / j)) H) : rI CDivW (fun i j => .int (i / j)) (.int i) (.int j) H Q := ⟨i, j, rfl, rfl, ⟨h0, Nat.lt_trans (PySem.Flt.log2_lt_of (k := 62) (by decide) (by omega)) (by decide)⟩, q⟩
theorem x_pow {i j : Int} (h : 0 ≤ j ∧ j ≤ 1000000 ∧ i.natAbs < 2 ^ 64) (q : Q (.int (i ^ j.toNat)) H) : rI CPow (fun i j => .int (i ^ j.toNat)) (.int i) (.int j) H Q := ⟨i, j, rfl, rfl, h, q⟩
theorem x_nN {P : Prop} (q : P) : V.non = V.non ∧ P := ⟨rfl, q⟩
theorem x_chain {r r' : R2} {tc : TE} (q : te σ H fun x H1 => tb σ H1 fun y H2 => r x y H2 fun z H3 => ∃ k, z = .bl k ∧ brB k (tc σ H3 fun w' H4 => r' y w' H4 Q) (Q (.bl false) H3)) : tChain r r' te tb tc σ H Q := by
  refine cast (congrArg (fun z => te σ H z) ?_) q
  funext x H1
  refine congrArg (fun z => tb σ H1 z) ?_
  funext y H2
  refine congrArg (fun z => r x y H2 z) ?_
  funext z H3
  refine congrArg Exists ?_
  funext k
  refine congrArg (fun p => z = .bl k ∧ p) ?_
  exact propext ⟨fun h => x_ite h, fun h => by cases k with
    | true => exact x_brT (by rw [if_pos rfl] at h; exact h)
    | false => exact x_brF (by rw [if_neg Bool.false_ne_true] at h; exact h)⟩
theorem x_meth {C : Addr} {m : Str} {sp : Sp} {dvs : List V} {E : XK} {ta : TE} {t : TA} (q : ta σ H fun x H1 => ∃ a dx fs, x = .ref a ∧ H1 a = some (.ins C dx fs) ∧ fs.lookup m = none ∧ t σ H1 fun vs H2 => sp (x :: (vs ++ dvs)) H2 Q E) : tMeth C m sp dvs E ta t σ H Q := q
theorem x_prop {C : Addr} {sp : Sp} {dvs : List V} {E : XK} {ta : TE} (q : ta σ H fun x H1 => ∃ a dx fs, x = .ref a ∧ H1 a = some (.ins C dx fs) ∧ sp (.ref a :: dvs) H1 Q E) : tProp C sp dvs E ta σ H Q := q
theorem x_make {C : Addr} {sp : Sp} {dvs : List V} {E : XK} {t : TA} (q : t σ H fun vs H1 => ∀ x dx, H1 x = none → H1 dx = none → dx ≠ x → sp (.ref x :: (vs ++ dvs)) (upd (upd H1 dx (.own x)) x (.ins C dx [])) (fun v H2 => v = .non ∧ Q (.ref x) H2) E) : tMake C sp dvs E t σ H Q := q
theorem x_fldaug {rd : V → V → Hp → VK → Prop} {f : Str} (q : te σ H fun x H1 => ∃ a C dx fs v, x = .ref a ∧ H1 a = some (.ins C dx fs) ∧ Cls K C ∧ NoAttr K C f ∧ fs.lookup f = some v ∧ tb σ H1 fun y H2 => rd v y H2 fun z H3 => ∃ dx' fs', H3 a = some (.ins C dx' fs') ∧ fs'.length < 1000 ∧ D.nx σ (L2.upd H3 a (.ins C dx' (putF f z fs')))) : sFldAug K te tb rd f D σ H := q
theorem x_rAdd {i j : Int} (q : Q (.int (i + j)) H) : rAdd (.int i) (.int j) H Q := ⟨i, j, rfl, rfl, q⟩
theorem x_ipI {f : Int → Int → Int} {i j : Int} (q : Q (.int (f i j)) H) : ipI f (.int i) (.int j) H Q := ⟨i, j, rfl, rfl, q⟩
theorem x_rSub {i j : Int} (q : Q (.int (i - j)) H) : rSub (.int i) (.int j) H Q := ⟨i, j, rfl, rfl, q⟩
theorem rngF {n : Int} {g : TG} {ts : TS} (h0 : -100000 ≤ n) (h1 : n ≤ 100000) (q : forK (Itr 0 n.toNat) g ts D σ H) : -(2 ^ 62) ≤ n ∧ n < 2 ^ 62 ∧ forK (Itr 0 n.toNat) g ts D σ H := ⟨by omega, by omega, q⟩
/-- a field is raised -/
theorem fraise {f : Str} {p C dx : Addr} {fs : List (Str × V)} {P : Hp → Prop} {T : V → V → Hp → VK → Prop} {tv : TE} {σ : L2.St} (h : H p = some (.ins C dx fs)) (c : Cls K C) (n : NoAttr K C f) (l : fs.length < 1000) (e : fs.lookup f = some v)
    (q : tv σ H fun y H2 => T v y H2 fun z H3 => ∃ dx' fs', H3 p = some (.ins C dx' fs') ∧ fs'.length < 1000 ∧ P (L2.upd H3 p (.ins C dx' (putF f z fs')))) :
    ∃ a C dx fs v, V.ref p = .ref a ∧ H a = some (.ins C dx fs) ∧ Cls K C ∧ NoAttr K C f ∧ fs.lookup f = some v ∧ tv σ H fun y H2 => T v y H2 fun z H3 => ∃ dx' fs', H3 a = some (.ins C dx' fs') ∧ fs'.length < 1000 ∧ P (L2.upd H3 a (.ins C dx' (putF f z fs'))) := ⟨p, C, dx, fs, v, rfl, h, c, n, e, q⟩
theorem fput {f : Str} {z : V} {p C dx : Addr} {fs fs' : List (Str × V)} {P : Hp → Prop} (h : H p = some (.ins C dx fs)) (l : fs.length < 1000) (e : putF f z fs = fs') (q : ∀ H', SameX p H H' → H' p = some (.ins C dx fs') → P H') :
    ∃ dx' fs', H p = some (.ins C dx' fs') ∧ fs'.length < 1000 ∧ P (L2.upd H p (.ins C dx' (putF f z fs'))) := ⟨dx, fs, h, l, q _ SameX.upd (by rw [e]; exact upd_same)⟩
end
/-! ### o[i] op= e, o a list -/
theorem pget_list {X : Cx} : PGet X (rIxL X.K) := by
  intro pins s σ H o i ov iv Q I ro ri h
  obtain ⟨p, xs, k, z, rfl, rfl, hq, he, q⟩ := h
  cases ro
  obtain ⟨t, rfl⟩ := ri
  obtain ⟨its, r, pl, hz⟩ := I.list hq
  obtain ⟨j, h1, h2, h3, h4, h5⟩ := atI_get he
  obtain ⟨w, ew, rw'⟩ := r.get h2
  have hl := r.length
  have hn := line63
  have fin : EP X pins σ Q w s := ⟨z, H, I, rw', q⟩
  by_cases h0 : 0 ≤ k
  · have hj : k.toNat = j := by
      rw [seqIndex_of h0 h5] at h1
      exact Option.some.inj h1
    exact wpAny_getItem_list pl.isList h0 (by omega) (by rw [hj]; simpa using ew) fin
  · have hj : (k + (its.toArray.size : Int)).toNat = j := by
      rw [seqIndex_neg (by omega) h4] at h1
      rw [List.size_toArray, ← hl]
      exact Option.some.inj h1
    exact wpAny_getItem_list_neg pl.isList (by omega) (by rw [List.size_toArray] <;> omega) (by omega) (by rw [hj]; simpa using ew) fin
theorem x_augS {to ti te : TE} {tget : V → V → Hp → VK → Prop} {tip : TIp} {tset : TSet} {D : Ends} {σ : L2.St} {H : Hp} (q : to σ H fun o H1 => ti σ H1 fun i H2 => tget o i H2 fun x H3 => te σ H3 fun y H4 => tip x y H4 fun z H5 => tset o i z H5 fun H6 => D.nx σ H6) : tAugS to ti te tget tip tset D σ H := q
theorem x_negU {i : Int} {H : Hp} {Q : VK} (q : Q (.int (-i)) H) : rU (fun i => .int (-i)) (.int i) H Q := ⟨i, rfl, q⟩
/-- for_range, by its name -/
theorem for_rangeK {lo : Int} {n : Nat} {g : TG} {ts : TS} {D : Ends} {σ : L2.St} {H : Hp} (Pv : Nat → L2.St → Hp → Prop) (h0 : Pv 0 σ H)
    (hs : ∀ i σ H, i < n → Pv i σ H → g (.int (lo + i)) σ H fun σ2 H2 => ts { D with nx := Pv (i + 1), ct := Pv (i + 1), bk := D.nx } σ2 H2) (hd : ∀ σ H, Pv n σ H → D.nx σ H) : forK (Itr lo n) g ts D σ H := for_range Pv h0 hs hd
local macro_rules
  | `(tactic| w_up) => `(tactic| with_reducible first
    | refine x_seq ?_ | refine x_asg ?_ | refine x_op ?_ | refine x_c ?_
    | refine x_v0 ?_ | refine x_v1 ?_ | refine x_v2 ?_ | refine x_v3 ?_ | refine x_v4 ?_ | refine x_v5 ?_ | refine x_v6 ?_ | refine x_v7 ?_ | refine x_v8 ?_ | refine x_v9 ?_ | refine x_v10 ?_ | refine x_v11 ?_ | refine x_v12 ?_ | refine x_v13 ?_ | refine x_v14 ?_ | refine x_v15 ?_ | refine x_v16 ?_ | refine x_v17 ?_ | refine x_v18 ?_ | refine x_v19 ?_
    | refine x_g0 ?_ | refine x_g1 ?_ | refine x_g2 ?_ | refine x_g3 ?_ | refine x_g4 ?_ | refine x_g5 ?_ | refine x_g6 ?_ | refine x_g7 ?_ | refine x_g8 ?_ | refine x_g9 ?_ | refine x_g10 ?_ | refine x_g11 ?_ | refine x_g12 ?_ | refine x_g13 ?_ | refine x_g14 ?_ | refine x_g15 ?_ | refine x_g16 ?_ | refine x_g17 ?_ | refine x_g18 ?_ | refine x_g19 ?_
    | refine x_cons ?_ | refine x_nil ?_ | refine x_I0 ?_ | refine x_exI ?_ | refine x_exB ?_ | refine x_eqI ?_ | refine x_neI ?_ | refine x_eqS ?_ | refine x_neS ?_
    | refine x_test ?_ | refine x_tB ?_ | refine x_ifS ?_ | refine x_if ?_ | refine x_and ?_ | refine x_or ?_ | refine x_not ?_ | refine x_andV ?_ | refine x_orV ?_ | refine x_notV ?_
    | refine x_ite ?_ | refine x_brT ?_ | refine x_brF ?_ | refine x_brN ?_
    | refine x_call ?_ | refine x_for1 ?_ | refine x_forL ?_ | refine x_forT ?_ | refine x_sFld ?_ | refine x_fld ?_ | refine x_cb ?_ | refine x_bm ?_ | refine x_un ?_ | refine x_sl ?_ | refine x_np ?_ | refine x_pt ?_
    | refine x_next ?_ | refine x_ret ?_ | refine x_retN ?_ | refine x_drop ?_ | refine x_brk ?_ | refine x_cont ?_ | refine x_lst ?_ | refine x_tup ?_ | dsimp only | dsimp only [List.set_cons_succ, List.set_cons_zero])
local macro_rules
  | `(tactic| o_args) => `(tactic| repeat w_up)
local macro_rules
  | `(tactic| w_up) => `(tactic| first
    | with_reducible refine x_augS ?_ | with_reducible refine x_negU ?_ | with_reducible refine x_gsub ?_ | with_reducible refine x_int1 ?_ | with_reducible refine x_exL ?_ | with_reducible refine x_min2 ?_ | with_reducible refine x_max2 ?_ | with_reducible refine x_abs ?_ | with_reducible refine x_brTT ?_
    | with_reducible refine x_mod (by decide) ?_ | with_reducible refine x_mulR ⟨by decide, by decide⟩ ?_ | with_reducible refine x_mulL ⟨by decide, by decide⟩ ?_ | with_reducible refine x_div ⟨by decide, by decide⟩ ?_
    | with_reducible refine x_pow ⟨by decide, by decide, by decide⟩ ?_
    | with_reducible refine x_nN ?_ | with_reducible refine x_chain ?_ | with_reducible refine x_meth ?_ | with_reducible refine x_prop ?_ | with_reducible refine x_make ?_ | with_reducible refine x_fldaug ?_ | with_reducible refine x_ipI ?_ | with_reducible refine x_rAdd ?_ | with_reducible refine x_rSub ?_
    | with_reducible refine brDT (by decide) ?_ | with_reducible refine brDF (by decide) ?_
    | with_reducible refine x_ixT (by assumption) (by with_unfolding_all exact rfl) ?_
    | with_reducible refine x_ixL (by assumption) (by with_unfolding_all exact rfl) ?_)
/-! ### general words -/
theorem Same.ofX {D : Addr} {H H' : Hp} (hD : H D = none) (s : SameX D H H') : Same H H' := fun b o e => s b o (ne_of_none e hD) e
theorem getq_lt {α : Type} {xs : List α} {i : Nat} {x : α} (h : xs[i]? = some x) : i < xs.length := (List.getElem?_eq_some_iff.mp h).1
theorem getq_app {α : Type} {vs : List α} {v w : α} {k : Nat} (h : (vs ++ [v])[k]? = some w) : (k < vs.length ∧ vs[k]? = some w) ∨ (k = vs.length ∧ w = v) := by
  have hk := getq_lt h
  rw [List.length_append] at hk
  have hk : k < vs.length + 1 := hk
  by_cases q : k < vs.length
  · rw [List.getElem?_append_left q] at h
    exact .inl ⟨q, h⟩
  · have e : k = vs.length := by omega
    subst e
    rw [List.getElem?_append_right (Nat.le_refl _), Nat.sub_self] at h
    exact .inr ⟨rfl, (Option.some.inj h).symm⟩
theorem none_back {p l : Addr} {H H' : Hp} (s : SameX p H H') (n : l ≠ p) (h : H' l = none) : H l = none := by
  cases q : H l with
  | none => rfl
  | some o => rw [s _ _ n q] at h; cases h
theorem none_of {H H' : Hp} {l : Addr} (s : Same H H') (h : H' l = none) : H l = none := by
  cases q : H l with
  | none => rfl
  | some o => rw [s _ _ q] at h; cases h
/-- only lists change -/
def LS (H H' : Hp) : Prop := ∀ a o, (∀ xs, o ≠ .lst xs) → H a = some o → H' a = some o
theorem LS.refl (H : Hp) : LS H H := fun _ _ _ h => h
theorem LS.trans {H H1 H2 : Hp} (x : LS H H1) (y : LS H1 H2) : LS H H2 := fun a o n h => y a o n (x a o n h)
theorem LS.of {H H' : Hp} (s : Same H H') : LS H H' := fun a o _ h => s a o h
theorem LS.ofX {H H' : Hp} {p : Addr} {xs : List V} (hp : H p = some (.lst xs)) (s : SameX p H H') : LS H H' := fun a o n h => s a o (fun e => by subst e; rw [hp] at h; cases h; exact n _ rfl) h
theorem LS.sqT {K : PySem.W.Frag} {H H' : Hp} {a : Addr} {xs : List V} (s : LS H H') (h : SqT K H a xs) : SqT K H' a xs := by
  rcases h with (h | ⟨o, h⟩) | h
  · exact .inl (.inl (s _ _ (fun _ z => nomatch z) h))
  · exact .inl (.inr ⟨o, s _ _ (fun _ z => nomatch z) h⟩)
  · exact .inr h
theorem sliceL {K : PySem.W.Frag} {H : Hp} {Q : VK} {a : Addr} {xs : List V} {lo hi : Option Int} (h : SqL K H a xs) (q : ∀ l H', H l = none → Same H H' → H' l = some (.lst (cutV xs lo hi)) → Q (.ref l) H') : rSlL K (.ref a) lo hi H Q := ⟨a, xs, rfl, h, fun l hl => q l _ hl (Same.new hl) upd_same⟩
theorem cut_to (xs : List V) (i : Nat) : cutV xs none (some (i : Int)) = xs.take i := by
  have e1 : HT.sIx xs.length 0 none = 0 := rfl
  have e2 : HT.sIx xs.length xs.length (some (i : Int)) = min i xs.length := by
    unfold HT.sIx
    simp
    intro h
    omega
  unfold cutV
  rw [e1, e2, List.drop_zero, Nat.sub_zero, List.take_eq_take_iff]
  omega
theorem cut_from (xs : List V) (i : Nat) : cutV xs (some (i : Int)) none = xs.drop i := by
  have e1 : HT.sIx xs.length xs.length none = xs.length := rfl
  have e2 : HT.sIx xs.length 0 (some (i : Int)) = min i xs.length := HT.sIx_nat _ _ _
  unfold cutV
  rw [e1, e2]
  by_cases h : i ≤ xs.length
  · rw [Nat.min_eq_left h, List.take_of_length_le (by rw [List.length_drop]; exact Nat.le_refl _)]
  · rw [Nat.min_eq_right (by omega), Nat.sub_self, List.take_zero, List.drop_of_length_le (by omega)]
theorem dp_ints {K : PySem.W.Frag} {H : Hp} : ∀ ns : List Int, DpAll K H (ns.map V.int) (ns.map PyData.int)
  | [] => .nil
  | n :: r => .cons (.int n) (dp_ints r)
theorem lay_all : ∀ ns : List Int, PyData.canLayAll0 (ns.map PyData.int) = true ∧ PyData.depthAll (ns.map PyData.int) = 0
  | [] => ⟨by simp only [List.map_nil, PyData.canLayAll0], by simp only [List.map_nil, PyData.depthAll]⟩
  | n :: r => by
    obtain ⟨h1, h2⟩ := lay_all r
    exact ⟨by simp only [List.map_cons, PyData.canLayAll0, PyData.canLay0, h1, Bool.and_self], by simp only [List.map_cons, PyData.depthAll, PyData.depth, h2, Nat.max_self]⟩
theorem lay_ints (ns : List Int) : PySem.SeqAt.shaped (.list (ns.map PyData.int)) = true := by
  obtain ⟨h1, h2⟩ := lay_all ns
  unfold PySem.SeqAt.shaped
  simp only [PyData.canLay0, PyData.depth, h1, h2]
  decide
theorem eqv_all : ∀ xs ys : List Int, PyData.eqvAll (xs.map PyData.int) (ys.map PyData.int) = decide (xs = ys)
  | [], [] => by simp [PyData.eqvAll]
  | [], y :: ys => by simp [PyData.eqvAll]
  | x :: xs, [] => by simp [PyData.eqvAll]
  | x :: xs, y :: ys => by
    have e := eqv_all xs ys
    simp only [List.map_cons, PyData.eqvAll, e, PyData.eqv]
    by_cases h : x = y <;> by_cases g : xs = ys <;> simp [h, g]
theorem eqv_ints (xs ys : List Int) : PyData.eqv (.list (xs.map PyData.int)) (.list (ys.map PyData.int)) = decide (xs = ys) := by
  simp only [PyData.eqv]
  exact eqv_all xs ys
/-- two lists of ints compared -/
theorem eqLL {K : PySem.W.Frag} {H : Hp} {Q : VK} {a b : Addr} {xs ys : List Int} (ha : SqL K H a (xs.map V.int)) (hb : SqL K H b (ys.map V.int)) (q : Q (.bl (decide (xs = ys))) H) : rEqD K (.ref a) (.ref b) H Q :=
  ⟨_, _, .lst ha (dp_ints xs), .lst hb (dp_ints ys), lay_ints xs, lay_ints ys, by rw [eqv_ints]; exact q⟩
theorem neLL {K : PySem.W.Frag} {H : Hp} {Q : VK} {a b : Addr} {xs ys : List Int} (ha : SqL K H a (xs.map V.int)) (hb : SqL K H b (ys.map V.int)) (q : Q (.bl (!decide (xs = ys))) H) : rNeD K (.ref a) (.ref b) H Q :=
  ⟨_, _, .lst ha (dp_ints xs), .lst hb (dp_ints ys), lay_ints xs, lay_ints ys, by rw [eqv_ints]; exact q⟩
/-- a comprehension over a list of ints, filtered, its items ints -/
theorem lc_ints {K : PySem.W.Frag} {a : Addr} {ns : List Int} {te tel : TE} {tt : TT} {σ : L2.St} {H : Hp} {Q : VK} {j : Nat} (p : Int → Bool) (f : Int → Int) (hte : ∀ R' : VK, R' (.ref a) H → te σ H R') (hS : SqL K H a (ns.map V.int)) (hz : ns.length < 100000)
    (ht : ∀ x ∈ ns, ∀ H', Same H H' → ∀ Qt : Bool → Hp → Prop, Qt (p x) H' → tt ((σ.set j none).set j (some (.int x))) H' Qt)
    (he : ∀ x ∈ ns, p x = true → ∀ H', Same H H' → ∀ Qe : VK, Qe (.int (f x)) H' → tel ((σ.set j none).set j (some (.int x))) H' Qe)
    (hd : ∀ D H', H D = none → Same H H' → H' D = some (.lst (((ns.filter p).map f).map V.int)) → Q (.ref D) H') : tLc (iList K te) (gName j) tt tel [j] σ H Q := by
  refine hte _ ⟨a, rfl, ⟨_, hS⟩, fun D hD => lc_list (K := K) (a := a) (xs := ns.map V.int) (fun i H' => H' D = some (.lst ((((ns.take i).filter p).map f).map V.int)) ∧ SameX D H H') ⟨upd_same, SameX.upd⟩ (fun i H' _ h => (Same.ofX hD h.2).seq hS) ?_ ?_⟩
  · rintro i x H' hi ⟨h1, h2⟩
    rw [List.getElem?_map] at hi
    cases e : ns[i]? with
    | none => rw [e] at hi; cases hi
    | some u =>
      rw [e] at hi
      cases hi
      have hil := getq_lt e
      have mem : u ∈ ns := List.mem_of_getElem? e
      refine ⟨?_, ?_⟩
      · show ((((σ.set j none).set j (some (.int u))).set j none) = σ.set j none)
        rw [List.set_set, List.set_set]
      have e2 : ns.take (i + 1) = ns.take i ++ [u] := by
        rw [List.take_succ, e]
        rfl
      refine ht u mem H' (Same.ofX hD h2) _ ?_
      cases hp : p u with
      | false =>
        rw [if_neg Bool.false_ne_true]
        refine ⟨?_, h2⟩
        rw [e2, List.filter_append]
        simp only [List.filter, hp, List.append_nil]
        exact h1
      | true =>
        rw [if_pos rfl]
        refine he u mem hp H' (Same.ofX hD h2) _ ⟨_, h1, ?_, ?_, h2.upd'⟩
        · rw [List.length_map, List.length_map]
          have := List.length_filter_le p (ns.take i)
          rw [List.length_take] at this
          exact Nat.lt_of_lt_of_le (show _ < 100000 by omega) (by decide)
        · rw [e2, List.filter_append]
          simp only [List.filter, hp, List.map_append, List.map_cons, List.map_nil]
          exact upd_same
  · rintro H' ⟨h1, h2⟩
    rw [List.length_map, List.take_length] at h1
    exact hd D H' hD (Same.ofX hD h2) h1
/-- a comprehension over a list, its items new -/
theorem lc_lstN {K : PySem.W.Frag} {a : Addr} {xs : List V} {te tel : TE} {σ : L2.St} {H : Hp} {Q : VK} {j : Nat} (P : Nat → List V → Hp → Prop) (hte : ∀ R' : VK, R' (.ref a) H → te σ H R') (hS : SqL K H a xs) (hz : xs.length < 100000) (h0 : ∀ H', Same H H' → P 0 [] H')
    (hm : ∀ i vs H1 H2, Same H1 H2 → P i vs H1 → P i vs H2) (hw : ∀ D H1 H2 i vs, H D = none → SameX D H1 H2 → Same H H1 → (∃ acc, H1 D = some (.lst acc)) → P i vs H1 → P i vs H2)
    (hs : ∀ D i x vs H', xs[i]? = some x → Same H H' → P i vs H' → vs.length = i → H D = none → (∃ o, H' D = some o) → ∀ Qe : VK, (∀ v H'', Same H' H'' → P (i + 1) (vs ++ [v]) H'' → Qe v H'') → tel ((σ.set j none).set j (some x)) H' Qe)
    (hd : ∀ D vs H', H D = none → vs.length = xs.length → P xs.length vs H' → H' D = some (.lst vs) → Same H H' → Q (.ref D) H') : tLc (iList K te) (gName j) tYes tel [j] σ H Q := by
  refine hte _ ⟨a, rfl, ⟨_, hS⟩, fun D hD => lc_list (K := K) (a := a) (xs := xs) (fun i H' => ∃ vs : List V, vs.length = i ∧ P i vs H' ∧ H' D = some (.lst vs) ∧ SameX D H H') ⟨[], rfl, h0 _ (Same.new hD), upd_same, SameX.upd⟩ (fun i H' _ ⟨_, _, _, _, h⟩ => (Same.ofX hD h).seq hS) ?_ ?_⟩
  · rintro i x H' hi ⟨vs, hl, hr, h1, h2⟩
    refine ⟨?_, ?_⟩
    · show ((((σ.set j none).set j (some x)).set j none) = σ.set j none)
      rw [List.set_set, List.set_set]
    dsimp only [tYes]
    rw [if_pos rfl]
    have S0 := Same.ofX hD h2
    refine hs D i x vs H' hi S0 hr hl hD ⟨_, h1⟩ _ fun v H'' s2 r => ⟨vs, s2 _ _ h1, ?_, vs ++ [v], ?_, hw D H'' _ _ _ hD SameX.upd (S0.trans s2) ⟨vs, s2 _ _ h1⟩ r, upd_same, (h2.trans (SameX.of s2)).upd'⟩
    · have := getq_lt hi
      exact Nat.lt_of_lt_of_le (show vs.length < 100000 by omega) (by decide)
    · rw [List.length_append, hl]; rfl
  · rintro H' ⟨vs, hl, hr, h1, h2⟩
    exact hd D vs H' hD hl hr h1 (Same.ofX hD h2)
theorem all_rep (n : Nat) : (List.replicate n true).all id = true := by simp
theorem Same.ofX2 {H H1 H2 : Hp} {l : Addr} (hl : H l = none) (s1 : Same H H1) (s2 : SameX l H1 H2) : Same H H2 := fun b o e => s2 b o (ne_of_none e hl) (s1 b o e)
/-! ### own errors -/
abbrev sp_InvalidNumber_init_ (K : PySem.W.Frag) : Sp := sp_xinit K "number"
theorem ok_InvalidNumber_init_ (T : Txt K mg) : FnOk P w K mg base CX0 1 T.a_InvalidNumber_init_ T.fd_InvalidNumber_init_ ["self", "number"] (sp_InvalidNumber_init_ K) := by
  have S := sc_InvalidNumber_init_
  refine T.F_InvalidNumber_init_.ok S (fun vs H Q E h => ?_) (fun cdv A outer s H vs Q E hr h => ?_)
  · obtain ⟨a, C, v, rfl, _⟩ := h
    rfl
  · obtain ⟨a, C, v, rfl, O, hn, ha, k⟩ := h
    refine ⟨_, (pss_one (ps_ost (pv 0) (pv 1))), ?_⟩
    exact ⟨_, rfl, _, rfl, a, C, rfl, O, hn, .inl ⟨ha, k⟩⟩
abbrev sp_InvalidSetting_init_ (K : PySem.W.Frag) : Sp := sp_xinit K "setting"
theorem ok_InvalidSetting_init_ (T : Txt K mg) : FnOk P w K mg base CX0 1 T.a_InvalidSetting_init_ T.fd_InvalidSetting_init_ ["self", "setting"] (sp_InvalidSetting_init_ K) := by
  have S := sc_InvalidSetting_init_
  refine T.F_InvalidSetting_init_.ok S (fun vs H Q E h => ?_) (fun cdv A outer s H vs Q E hr h => ?_)
  · obtain ⟨a, C, v, rfl, _⟩ := h
    rfl
  · obtain ⟨a, C, v, rfl, O, hn, ha, k⟩ := h
    refine ⟨_, (pss_one (ps_ost (pv 0) (pv 1))), ?_⟩
    exact ⟨_, rfl, _, rfl, a, C, rfl, O, hn, .inl ⟨ha, k⟩⟩
/-- an error of the class at C with the one field f -/
def Err (C : Addr) (f : Str) (v : V) (H : Hp) (E : XK) : Prop := ∀ d H', Same H H' → H' d = some (.xd [(f, v)]) → E (.ref C) (some d) H'
/-- x lies not in lo .. hi -/
def Out (K : PySem.W.Frag) (H : Hp) (x : V) (lo hi : Int) : Prop := ∃ o, Kd K H x o ∧ inR lo hi o = false
theorem Out.same {K : PySem.W.Frag} {H H' : Hp} {x : V} {lo hi : Int} (h : Out K H x lo hi) (s : Same H H') : Out K H' x lo hi := h.elim fun o h => ⟨o, h.1.same s, h.2⟩
theorem Out.typ {K : PySem.W.Frag} {H H' : Hp} {x : V} {lo hi : Int} (h : Out K H x lo hi) (s : Typ H H') : Out K H' x lo hi := h.elim fun o h => ⟨o, h.1.typ s, h.2⟩
theorem Out.int {K : PySem.W.Frag} {H : Hp} {n lo hi : Int} (h : n < lo ∨ hi < n) : Out K H (.int n) lo hi := ⟨some n, rfl, by
  show (decide (lo ≤ n) && decide (n ≤ hi)) = false
  rcases h with h | h
  · rw [decide_eq_false (show ¬ lo ≤ n by omega)]; rfl
  · rw [decide_eq_false (show ¬ n ≤ hi by omega), Bool.and_false]⟩
theorem Out.odd {K : PySem.W.Frag} {H : Hp} {x : V} {lo hi : Int} (h : IntK K H x false) : Out K H x lo hi := ⟨none, h, rfl⟩
theorem out_between {K : PySem.W.Frag} {H : Hp} {Q : VK} {x : V} {lo hi : Int} {E : XK} (h : Out K H x lo hi) (q : Q (.bl false) H) : sp_is_between K [x, .int lo, .int hi] H Q E := by
  obtain ⟨o, h1, h2⟩ := h
  cases o with
  | none => exact ⟨x, lo, hi, rfl, .inr ⟨h1, q⟩⟩
  | some n => exact ⟨x, lo, hi, rfl, .inl ⟨n, h1, by rw [show (decide (lo ≤ n) && decide (n ≤ hi)) = false from h2]; exact q⟩⟩
theorem in_between {K : PySem.W.Frag} {H : Hp} {Q : VK} {n lo hi : Int} {E : XK} (h1 : lo ≤ n) (h2 : n ≤ hi) (q : Q (.bl true) H) : sp_is_between K [.int n, .int lo, .int hi] H Q E :=
  ⟨.int n, lo, hi, rfl, .inl ⟨n, rfl, by rw [decide_eq_true h1, decide_eq_true h2]; exact q⟩⟩
/-- x is no count -/
def Less (K : PySem.W.Frag) (H : Hp) (x : V) (lo : Int) : Prop := (∃ n, x = .int n ∧ n < lo) ∨ IntK K H x false
theorem Less.same {K : PySem.W.Frag} {H H' : Hp} {x : V} {lo : Int} (h : Less K H x lo) (s : Same H H') : Less K H' x lo := h.elim .inl fun h => .inr (h.same s)
/-- menus of a try: what is caught, and what e is -/
theorem errX {K : PySem.W.Frag} {a D dd : Addr} {fs : List (Str × V)} {c : V} {cv : Value} {b : Bool} {H : Hp} {Q : VK} (hcv : ∀ u, RelV c u → u = cv) (ec : ExcC K D) (hd : H dd = some (.xd fs)) (hk : PySem.W.kitOne K (.ref D) cv = some b) (q : Q (.bl b) H) : rIsX K a (.ref D) (some dd) [.ref a, c] H Q := ⟨c, cv, b, D, dd, fs, rfl, hcv, rfl, ec, rfl, hd, hk, q⟩
theorem errF {K : PySem.W.Frag} {a C dd : Addr} {f : Str} {fs : List (Str × V)} {v : V} {H : Hp} {P : V → Prop} (T : XfC K C) (hn : PySem.W.findIn K (.ref C) f = some none) (hd : H dd = some (.xd fs)) (e : fs.lookup f = some v) (q : P v) :
    V.ref a = V.ref a ∧ ∃ (C' dd' : Addr) (fs : List (Str × V)) (v : V), Value.ref C = .ref C' ∧ XfC K C' ∧ PySem.W.findIn K (.ref C') f = some none ∧ some dd = some dd' ∧ H dd' = some (.xd fs) ∧ fs.lookup f = some v ∧ P v := ⟨rfl, C, dd, fs, v, rfl, T, hn, rfl, hd, e, q⟩
section
variable {K : PySem.W.Frag} {σ : L2.St} {H : Hp} {Q : VK} {v : V} {te : TE} {D : Ends} {i : Nat}
theorem x_xg {a : Addr} {cls : Value} {d : Option Addr} {f : Str} (q : te σ H fun x H1 => x = .ref a ∧ ∃ (C dd : Addr) (fs : List (Str × V)) (v : V), cls = .ref C ∧ XfC K C ∧ PySem.W.findIn K (.ref C) f = some none ∧ d = some dd ∧ H1 dd = some (.xd fs) ∧ fs.lookup f = some v ∧ Q v H1) : tXg K a cls d f te σ H Q := q
theorem x_clgo {a : Addr} {ts : TS} (q : ts (unN D i) (σ.set i (some (.ref a))) H) : clGo D (some i) ts a σ H := q
theorem x_methX {C : Addr} {m : Str} {sp : Sp} {E : L2.St → XK} {ta : TE} {t : TA} (q : ta σ H fun x H1 => ∃ a dx fs, x = .ref a ∧ H1 a = some (.ins C dx fs) ∧ fs.lookup m = none ∧ t σ H1 fun vs H2 => sp (x :: vs) H2 Q (E σ)) : tMethX C m sp E ta t σ H Q := q
theorem x_unrt (q : D.rt v H) : (unN D i).rt v H := q
theorem x_unnx (q : D.nx (σ.set i none) H) : (unN D i).nx σ H := q
end
theorem len2 {α : Type} {l : List α} (h : l.length = 2) : ∃ a b, l = [a, b] := by
  match l, h with
  | [a, b], _ => exact ⟨a, b, rfl⟩
theorem len4 {α : Type} {l : List α} (h : l.length = 4) : ∃ a b c d, l = [a, b, c, d] := by
  match l, h with
  | [a, b, c, d], _ => exact ⟨a, b, c, d, rfl⟩
local macro_rules
  | `(tactic| w_up) => `(tactic| first | with_reducible refine x_clgo ?_ | with_reducible refine x_methX ?_ | with_reducible refine x_xg ?_ | with_reducible refine x_unrt ?_ | with_reducible refine x_unnx ?_)
/-! ### values that are no numbers, by themselves -/
/-- a value that can be told and compared -/
structure Vl (K : PySem.W.Frag) (H : Hp) (x : V) : Prop where
  ex : ∃ (t : Value) (b : Bool) (d : PyData), TyX K H x t ∧ PySem.W.kitOne K t (.type "bool") = some b ∧ Dp K H x d ∧ PySem.SeqAt.shaped d = true
theorem Vl.int {K : PySem.W.Frag} {H : Hp} (n : Int) : Vl K H (.int n) := ⟨.type "int", false, .int n, .base (.int n), kit_ty (by decide +kernel), .int n, by
  unfold PySem.SeqAt.shaped
  simp only [PyData.canLay0, PyData.depth]
  rfl⟩
theorem str_ok : ∀ n : Nat, n < 1500 → PySem.SeqAt.shaped (.str (toString (n : Int))) = true := by decide +kernel
mutual
theorem Dp.sm {K : PySem.W.Frag} {H H' : Hp} (s : Same H H') : ∀ (d : PyData) (x : V), Dp K H x d → Dp K H' x d
  | _, _, .non => .non
  | _, _, .bl b => .bl b
  | _, _, .int i => .int i
  | _, _, .str x => .str x
  | _, _, .lst h hs => .lst (s.seq h) (DpAll.sm s _ _ hs)
  | _, _, .tup h hs => .tup (sqT_sm h s) (DpAll.sm s _ _ hs)
theorem DpAll.sm {K : PySem.W.Frag} {H H' : Hp} (s : Same H H') : ∀ (ds : List PyData) (xs : List V), DpAll K H xs ds → DpAll K H' xs ds
  | _, _, .nil => .nil
  | _, _, .cons h hs => .cons (Dp.sm s _ _ h) (DpAll.sm s _ _ hs)
end
theorem Vl.sm {K : PySem.W.Frag} {H H' : Hp} {x : V} (h : Vl K H x) (s : Same H H') : Vl K H' x := by
  obtain ⟨t, b, d, h1, h2, h3, h4⟩ := h.ex
  exact ⟨t, b, d, tyX_same h1 s, h2, Dp.sm s _ _ h3, h4⟩
/-- a value that is no number -/
def Odd (K : PySem.W.Frag) (H : Hp) (x : V) : Prop := IntK K H x false ∧ Vl K H x
theorem Odd.mk' {K : PySem.W.Frag} {H : Hp} {x : V} {n : String} {i b : Bool} {d : PyData} (t : TyX K H x (.type n)) (h1 : kitB n "int" = some i) (h2 : kitB n "bool" = some b) (h : (i && !b) = false) (hd : Dp K H x d) (sh : PySem.SeqAt.shaped d = true) : Odd K H x :=
  ⟨intK_no t h1 h2 h, _, b, d, t, kit_ty h2, hd, sh⟩
theorem lay_tups (ns : List Int) : PySem.SeqAt.shaped (.tuple (ns.map PyData.int)) = true := by
  obtain ⟨h1, h2⟩ := lay_all ns
  unfold PySem.SeqAt.shaped
  simp only [PyData.canLay0, PyData.depth, h1, h2]
  decide
theorem Odd.tup {K : PySem.W.Frag} {H : Hp} {t : Addr} {ns : List Int} (h : H t = some (.tup (ns.map V.int))) : Odd K H (.ref t) :=
  .mk' (.base (.tup h)) (i := false) (b := false) (by decide +kernel) (by decide +kernel) rfl (.tup (SqT.of h) (dp_ints ns)) (lay_tups ns)
theorem Odd.lst {K : PySem.W.Frag} {H : Hp} {t : Addr} {ns : List Int} (h : H t = some (.lst (ns.map V.int))) : Odd K H (.ref t) :=
  .mk' (.base (.lst h)) (i := false) (b := false) (by decide +kernel) (by decide +kernel) rfl (.lst (SqL.of h) (dp_ints ns)) (lay_ints ns)
theorem odd_str {K : PySem.W.Frag} {H : Hp} {n : Int} (h0 : 0 ≤ n) (h : n < 1500) : n.natAbs.log2 < 1920 ∧ Odd K H (.str (toString n)) := by
  obtain ⟨m, rfl⟩ : ∃ m : Nat, n = m := ⟨n.toNat, by omega⟩
  refine ⟨Nat.lt_trans (PySem.Flt.log2_lt_of (k := 62) (by decide) (by omega)) (by decide), ?_⟩
  exact .mk' (.base (.str _)) (i := false) (b := false) (by decide +kernel) (by decide +kernel) rfl (.str _) (str_ok m (by omega))
/-! ### an expression by one of two readings -/
def tEi (t u : TE) : TE := fun σ H Q => t σ H Q ∨ u σ H Q
theorem pe_ei {X : Cx} {e : Expr} {t u : TE} (h : PE X e t) (h' : PE X e u) : PE X e (tEi t u) := ⟨fun pins s σ H Q I q => q.elim (fun q => h.run pins s σ H Q I q) fun q => h'.run pins s σ H Q I q⟩
/-! ### defaults of a def with cells -/
theorem bindsX {K : PySem.W.Frag} {fd : FuncData} {T : Addr} {o : Obj} {its : List Value} {dvs : List V} {n m : Nat} {ps : List Str} (lT : K.lookup T = some o) (oT : o.data = .seq its.toArray m) (r : L2.Vals dvs its) (hn : n + dvs.length = ps.length)
    (h : ∀ us its : List Value, us.length = n → its.length = dvs.length → ∃ k, bindArgs fd ⟨us, []⟩ = seqItems? (.ref T) >>= k ∧ k (some its.toArray) = pure (ps.zip (us ++ its))) : Binds K fd ps its := fun s us X hlen => by
  have l1 : its.length = dvs.length := r.length.symm
  have l2 : us.length = n := by rw [List.length_append, l1] at hlen; omega
  obtain ⟨k, e1, e2⟩ := h us its l2 l1
  refine BindsTo.of_looks fun M => ?_
  rw [e1]
  exact looks_items X lT oT (.of_pure e2)
theorem bindsX0 {K : PySem.W.Frag} {fd : FuncData} {T : Addr} {o : Obj} {its : List Value} {dvs : List V} {m : Nat} {ps : List Str} (lT : K.lookup T = some o) (oT : o.data = .seq its.toArray m) (r : L2.Vals dvs its)
    (h : ∀ us its : List Value, us.length = ps.length → its.length = dvs.length → ∃ k, bindArgs fd ⟨us, []⟩ = seqItems? (.ref T) >>= k ∧ k (some its.toArray) = pure (ps.zip us)) : Binds K fd ps [] := fun s us X hlen => by
  have l1 : its.length = dvs.length := r.length.symm
  rw [List.append_nil] at hlen ⊢
  obtain ⟨k, e1, e2⟩ := h us its hlen l1
  refine BindsTo.of_looks fun M => ?_
  rw [e1]
  exact looks_items X lT oT (.of_pure e2)
theorem bindsXK {K : PySem.W.Frag} {fd : FuncData} {T : Addr} {o : Obj} {its : List Value} {dvs : List V} {n m : Nat} {ps ks : List Str} (lT : K.lookup T = some o) (oT : o.data = .seq its.toArray m) (r : L2.Vals dvs its)
    (h : ∀ us ws its : List Value, us.length = n → ws.length = ks.length → its.length = dvs.length → ∃ k, bindArgs fd ⟨us, ks.zip ws⟩ = seqItems? (.ref T) >>= k ∧ k (some its.toArray) = pure (ps.zip (us ++ ws))) : KBn K fd ps n ks (fun us ws => us ++ ws) (fun vs zs => vs ++ zs) where
  to := fun s us ws X l1 l2 => by
    obtain ⟨k, e1, e2⟩ := h us ws its l1 l2 r.length.symm
    refine BindsTo.of_looks fun M => ?_
    rw [e1]
    exact looks_items X lT oT (.of_pure e2)
  rel := fun rv rz => L2.Vals.append rv rz
/-- credit c and window w go on by steps of f -/
inductive Climbs (f : Int → Int) : Int → Int → Int → Int → Prop
  | done {c w : Int} (h : c < w) : Climbs f c w c w
  | step {c w c' w' : Int} (h : w ≤ c) (r : Climbs f (c - w) (f w) c' w') : Climbs f c w c' w'
theorem Climbs.det {f : Int → Int} {c w c1 w1 c2 w2 : Int} (h : Climbs f c w c1 w1) (g : Climbs f c w c2 w2) : c1 = c2 ∧ w1 = w2 := by
  induction h with
  | done h => cases g with
    | done _ => exact ⟨rfl, rfl⟩
    | step h' _ => omega
  | step h r ih => cases g with
    | done h' => omega
    | step _ r' => exact ih r'
theorem Climbs.add {f : Int → Int} {c w c1 w1 c2 w2 b : Int} (b0 : 0 ≤ b) (h : Climbs f c w c1 w1) (g : Climbs f (c1 + b) w1 c2 w2) : Climbs f (c + b) w c2 w2 := by
  induction h with
  | done h => exact g
  | step h r ih =>
    have e : ∀ p q r : Int, p + q - r = p - r + q := fun p q r => by omega
    exact .step (by omega) (by rw [e]; exact ih g)
/-! ### the state of a control -/
structure Cs where
  u : Int
  w : Int
  t : Int
  c : Int
  st : Bool
namespace NB

abbrev Cs := My.Cs
/-! ### a control, of the class Control -/
theorem cval {K : PySem.W.Frag} {C : Addr} {mc : Value} {f : Str} {v : V} {σ : L2.St} {H : Hp} {Q : VK} (R : ClX.CRead K C mc) (V : ∃ u, ClX.CVal K C mc f v u) (q : Q v H) : ClX.tCVal K (tC (.ref C)) f σ H Q :=
  V.elim fun u h => ⟨C, mc, v, u, rfl, R, h, q⟩
def CtAt (C : Addr) (H : Hp) (e : Addr) (x : Cs) : Prop := ∃ dx, H e = some (.ins C dx [("unit", .int x.u), ("window", .int x.w), ("threshold", .int x.t), ("credit", .int x.c), ("stalled", .bl x.st)])
theorem CtAt.same {C : Addr} {H H' : Hp} {e : Addr} {x : Cs} (h : CtAt C H e x) (s : Same H H') : CtAt C H' e x := h.elim fun dx h => ⟨dx, s _ _ h⟩
theorem CtAt.on {C : Addr} {H H' : Hp} {e b : Addr} {x : Cs} (h : CtAt C H e x) (s : SameX b H H') (n : e ≠ b) : CtAt C H' e x := h.elim fun dx h => ⟨dx, s _ _ n h⟩
def sp_require_new_bytes (K : PySem.W.Frag) (Ce : Addr) : Sp := fun vs H Q E => ∃ (x : V), vs = [x] ∧ ((∃ n, x = .int n ∧ 1 ≤ n ∧ n ≤ 65535 ∧ Q .non H) ∨ (Out K H x 1 65535 ∧ Err Ce "number" x H E))
theorem ok_require_new_bytes (T : Txt K mg) : FnOk P w K mg base (L2.CX P w) 3 T.a_require_new_bytes T.fd_require_new_bytes ["count"] (sp_require_new_bytes K T.c_InvalidNumber) := by
  have S := sc_require_new_bytes
  refine T.F_require_new_bytes.okX S (fun vs H Q E h => ?_) (fun cdv A outer s H vs Q E hr h => ?_)
  · obtain ⟨x, rfl, _⟩ := h
    rfl
  · obtain ⟨x, rfl, h⟩ := h
    refine ⟨_, (pss_one (ps_if (pt_not (pt_val (pe_call (ok_is_between T) (hr.mono (by decide)) rfl T.g_is_between T.F_is_between.kp T.B_is_between .nil pass0 (pa_cons (pv 0) (pa_cons pe_int (pa_cons pe_int pa_nil)))))) (pss_one (ps_raise rfl (takes_of rfl rfl rfl rfl) (pmk_oex T.X_InvalidNumber.o T.X_InvalidNumber.i T.X_InvalidNumber.t (ok_InvalidNumber_init_ T) (hr.mono (by decide)) T.B_InvalidNumber_init_ .nil pass0 rfl T.X_InvalidNumber.g (pa_cons (pv 0) pa_nil)))) pss_nil)), ?_⟩
    refine st_require_new_bytes ?_
    o_args
    rcases h with ⟨n, rfl, h1, h2, k⟩ | ⟨ho, hE⟩
    · refine in_between h1 h2 ?_
      o_args
      exact k
    · refine out_between ho ?_
      o_args
      exact ⟨_, rfl, mkO_of T.X_InvalidNumber.o T.nX_InvalidNumber fun d H1 nd ss hx => hE d H1 ss hx⟩
def Ct5 (C : Addr) (H : Hp) (e : Addr) (u : Int) : Prop := ∃ dx, H e = some (.ins C dx [("unit", .int u), ("window", .int (2 * u)), ("threshold", .int 4194304), ("credit", .int 0), ("stalled", .bl false)])
def sp_Control_init_ (K : PySem.W.Frag) (C Ce : Addr) : Sp := fun vs H Q E => ∃ (p dx : Addr) (v : V), vs = [.ref p, v] ∧ H p = some (.ins C dx []) ∧
  ((∃ u, v = .int u ∧ 1 ≤ u ∧ u ≤ 65535 ∧ ∀ H', SameX p H H' → Ct5 C H' p u → Q .non H') ∨ (Out K H v 1 65535 ∧ Err Ce "setting" (.str "unit") H E))
theorem ok_Control_init_ (T : Txt K mg) : FnOk P w K mg base (L2.CX P w) 3 T.a_Control_init_ T.fd_Control_init_ ["self", "unit"] (sp_Control_init_ K T.c_Control T.c_InvalidSetting) := by
  have S := sc_Control_init_
  refine T.F_Control_init_.okX S (fun vs H Q E h => ?_) (fun cdv A outer s H vs Q E hr h => ?_)
  · obtain ⟨p, dx, v, rfl, _⟩ := h
    rfl
  · obtain ⟨p, dx, v, rfl, hp, h⟩ := h
    refine ⟨_, (pss_cons (ps_if (pt_not (pt_val (pe_call (ok_is_between T) (hr.mono (by decide)) rfl T.g_is_between T.F_is_between.kp T.B_is_between .nil pass0 (pa_cons (pv 1) (pa_cons pe_int (pa_cons pe_int pa_nil)))))) (pss_one (ps_raise rfl (takes_of rfl rfl rfl rfl) (pmk_oex T.X_InvalidSetting.o T.X_InvalidSetting.i T.X_InvalidSetting.t (ok_InvalidSetting_init_ T) (hr.mono (by decide)) T.B_InvalidSetting_init_ .nil pass0 rfl T.X_InvalidSetting.g (pa_cons pe_str pa_nil)))) pss_nil)
      (pss_cons (ps_fld (pv 0) (pv 1) rfl)
      (pss_cons (ps_fld (pv 0) (pe_op op_mul pe_int (pv 1)) rfl)
      (pss_cons (ps_fld (pv 0) (ClX.pe_cval (pe_glob (v := .ref T.c_Control) rfl T.g_Control rfl)) rfl)
      (pss_cons (ps_fld (pv 0) pe_int rfl)
      (pss_one (ps_fld (pv 0) pe_bl rfl))))))), ?_⟩
    refine st_Control_init_ ?_
    o_args
    rcases h with ⟨u, rfl, h1, h2, k⟩ | ⟨ho, hE⟩
    · refine in_between h1 h2 ?_
      o_args
      refine fstore hp T.cl_Control T.n_Control_unit (Nat.le_of_ble_eq_true rfl) rfl fun H1 s1 h1 => ?_
      o_args
      refine fstore h1 T.cl_Control T.n_Control_window (Nat.le_of_ble_eq_true rfl) rfl fun H2 s2 h2 => ?_
      o_args
      refine cval T.R_Control T.V_Control_GREATEST ?_
      o_args
      refine fstore h2 T.cl_Control T.n_Control_threshold (Nat.le_of_ble_eq_true rfl) rfl fun H3 s3 h3 => ?_
      o_args
      refine fstore h3 T.cl_Control T.n_Control_credit (Nat.le_of_ble_eq_true rfl) rfl fun H4 s4 h4 => ?_
      o_args
      refine fstore h4 T.cl_Control T.n_Control_stalled (Nat.le_of_ble_eq_true rfl) rfl fun H5 s5 h5 => ?_
      o_args
      exact k H5 ((((s1.trans s2).trans s3).trans s4).trans s5) ⟨dx, h5⟩
    · refine out_between ho ?_
      o_args
      exact mkO_of T.X_InvalidSetting.o T.nX_InvalidSetting fun d H1 nd ss hx => hE d H1 ss hx
def sp_Control_starting (C : Addr) : Sp := fun vs H Q _ => ∃ (e : Addr) (x : Cs), vs = [.ref e] ∧ CtAt C H e x ∧ Q (.bl (decide (x.w < x.t))) H
theorem ok_Control_starting (T : Txt K mg) : FnOk P w K mg base CX0 1 T.a_Control_starting T.fd_Control_starting ["self"] (sp_Control_starting T.c_Control) := by
  have S := sc_Control_starting
  refine T.F_Control_starting.ok S (fun vs H Q E h => ?_) (fun cdv A outer s H vs Q E hr h => ?_)
  · obtain ⟨e, x, rfl, _⟩ := h
    rfl
  · obtain ⟨e, x, rfl, ⟨dx, he⟩, k⟩ := h
    refine ⟨_, (pss_one (ps_ret (pe_cmpR op_lt (pe_fld (pv 0) rfl) (pe_fld (pv 0) rfl) (nomark _)))), ?_⟩
    refine st_Control_starting ?_
    o_args
    refine fget he T.cl_Control T.n_Control_window rfl ?_
    o_args
    refine fget he T.cl_Control T.n_Control_threshold rfl ?_
    o_args
    exact k
def sp_Control_set_window (C : Addr) : Sp := fun vs H Q _ => ∃ (e : Addr) (x : Cs) (n : Int), vs = [.ref e, .int n] ∧ CtAt C H e x ∧ ∀ H', SameX e H H' → CtAt C H' e { x with w := min n 4194304 } → Q .non H'
theorem ok_Control_set_window (T : Txt K mg) : FnOk P w K mg base CX0 1 T.a_Control_set_window T.fd_Control_set_window ["self", "window"] (sp_Control_set_window T.c_Control) := by
  have S := sc_Control_set_window
  refine T.F_Control_set_window.ok S (fun vs H Q E h => ?_) (fun cdv A outer s H vs Q E hr h => ?_)
  · obtain ⟨e, x, n, rfl, _⟩ := h
    rfl
  · obtain ⟨e, x, n, rfl, ⟨dx, he⟩, k⟩ := h
    refine ⟨_, (pss_one (ps_fld (pv 0) (pe_callB (id := "min") (call_min2K rfl) (by rfl) T.b_min (by decide +kernel) (pa_cons (pv 1) (pa_cons (ClX.pe_cval (pe_glob (v := .ref T.c_Control) rfl T.g_Control rfl)) pa_nil))) rfl)), ?_⟩
    refine st_Control_set_window ?_
    o_args
    refine cval T.R_Control T.V_Control_GREATEST ?_
    o_args
    refine fstore he T.cl_Control T.n_Control_window (Nat.le_of_ble_eq_true rfl) rfl fun H1 s1 h1 => ?_
    o_args
    exact k H1 s1 ⟨dx, h1⟩
def Cs.lost (x : Cs) (f : Int) : Cs := { x with t := max (f / 2) (2 * x.u), w := min (max (f / 2) (2 * x.u)) 4194304, c := 0 }
def sp_Control_on_loss (C : Addr) : Sp := fun vs H Q _ => ∃ (e : Addr) (x : Cs) (f : Int) (n : V), vs = [.ref e, .int f, n] ∧ CtAt C H e x ∧ 0 ≤ f ∧ ∀ H', SameX e H H' → CtAt C H' e (x.lost f) → Q .non H'
theorem ok_Control_on_loss (T : Txt K mg) : FnOk P w K mg base CX0 2 T.a_Control_on_loss T.fd_Control_on_loss ["self", "flight", "now"] (sp_Control_on_loss T.c_Control) := by
  have S := sc_Control_on_loss
  refine T.F_Control_on_loss.ok S (fun vs H Q E h => ?_) (fun cdv A outer s H vs Q E hr h => ?_)
  · obtain ⟨e, x, f, n, rfl, _⟩ := h
    rfl
  · obtain ⟨e, x, f, n, rfl, ⟨dx, he⟩, f0, k⟩ := h
    refine ⟨_, (pss_cons (ps_fld (pv 0) (pe_callB (id := "max") (call_max2K rfl) (by rfl) T.b_max (by decide +kernel) (pa_cons (pe_op op_fdiv (pv 1) pe_int) (pa_cons (pe_op op_mul pe_int (pe_fld (pv 0) rfl)) pa_nil))) rfl)
      (pss_cons (ps_expr (pe_meth (pv 0) T.cl_Control T.m_Control_set_window (ok_Control_set_window T) (hr.mono (by decide)) T.B_Control_set_window .nil pass0 (pa_cons (pe_fld (pv 0) rfl) pa_nil)))
      (pss_one (ps_fld (pv 0) pe_int rfl)))), ?_⟩
    refine st_Control_on_loss ?_
    o_args
    refine fget he T.cl_Control T.n_Control_unit rfl ?_
    o_args
    refine fstore he T.cl_Control T.n_Control_threshold (Nat.le_of_ble_eq_true rfl) rfl fun H1 s1 h1 => ?_
    o_args
    refine ⟨e, dx, _, rfl, h1, rfl, ?_⟩
    o_args
    refine fget h1 T.cl_Control T.n_Control_threshold rfl ?_
    o_args
    refine ⟨e, { x with t := max (f / 2) (2 * x.u) }, _, rfl, ⟨dx, h1⟩, fun H2 s2 ⟨dy, h2⟩ => ?_⟩
    o_args
    refine fstore h2 T.cl_Control T.n_Control_credit (Nat.le_of_ble_eq_true rfl) rfl fun H3 s3 h3 => ?_
    o_args
    exact k H3 ((s1.trans s2).trans s3) ⟨dy, h3⟩
def Cs.expired (x : Cs) (f : Int) : Cs := { x with t := if x.st = true then x.t else max (f / 2) (2 * x.u), w := x.u, c := 0, st := true }
def sp_Control_on_expiry (C : Addr) : Sp := fun vs H Q _ => ∃ (e : Addr) (x : Cs) (f : Int) (n : V), vs = [.ref e, .int f, n] ∧ CtAt C H e x ∧ 0 ≤ f ∧ ∀ H', SameX e H H' → CtAt C H' e (x.expired f) → Q .non H'
theorem ok_Control_on_expiry (T : Txt K mg) : FnOk P w K mg base CX0 1 T.a_Control_on_expiry T.fd_Control_on_expiry ["self", "flight", "now"] (sp_Control_on_expiry T.c_Control) := by
  have S := sc_Control_on_expiry
  refine T.F_Control_on_expiry.ok S (fun vs H Q E h => ?_) (fun cdv A outer s H vs Q E hr h => ?_)
  · obtain ⟨e, x, f, n, rfl, _⟩ := h
    rfl
  · obtain ⟨e, x, f, n, rfl, ⟨dx, he⟩, f0, k⟩ := h
    refine ⟨_, (pss_cons (ps_if (pt_not (pt_val (pe_fld (pv 0) rfl))) (pss_one (ps_fld (pv 0) (pe_callB (id := "max") (call_max2K rfl) (by rfl) T.b_max (by decide +kernel) (pa_cons (pe_op op_fdiv (pv 1) pe_int) (pa_cons (pe_op op_mul pe_int (pe_fld (pv 0) rfl)) pa_nil))) rfl)) pss_nil)
      (pss_cons (ps_fld (pv 0) (pe_fld (pv 0) rfl) rfl)
      (pss_cons (ps_fld (pv 0) pe_int rfl)
      (pss_one (ps_fld (pv 0) pe_bl rfl))))), ?_⟩
    refine st_Control_on_expiry ?_
    o_args
    refine fget he T.cl_Control T.n_Control_stalled rfl ?_
    unfold Cs.expired at k
    cases hst : x.st with
    | true =>
      rw [hst, if_pos rfl] at k
      rw [hst] at he
      o_args
      refine fget he T.cl_Control T.n_Control_unit rfl ?_
      o_args
      refine fstore he T.cl_Control T.n_Control_window (Nat.le_of_ble_eq_true rfl) rfl fun H1 s1 h1 => ?_
      o_args
      refine fstore h1 T.cl_Control T.n_Control_credit (Nat.le_of_ble_eq_true rfl) rfl fun H2 s2 h2 => ?_
      o_args
      refine fstore h2 T.cl_Control T.n_Control_stalled (Nat.le_of_ble_eq_true rfl) rfl fun H3 s3 h3 => ?_
      o_args
      exact k H3 ((s1.trans s2).trans s3) ⟨dx, h3⟩
    | false =>
      rw [hst, if_neg Bool.false_ne_true] at k
      rw [hst] at he
      o_args
      refine fget he T.cl_Control T.n_Control_unit rfl ?_
      o_args
      refine fstore he T.cl_Control T.n_Control_threshold (Nat.le_of_ble_eq_true rfl) rfl fun H0 s0 h0 => ?_
      o_args
      refine fget h0 T.cl_Control T.n_Control_unit rfl ?_
      o_args
      refine fstore h0 T.cl_Control T.n_Control_window (Nat.le_of_ble_eq_true rfl) rfl fun H1 s1 h1 => ?_
      o_args
      refine fstore h1 T.cl_Control T.n_Control_credit (Nat.le_of_ble_eq_true rfl) rfl fun H2 s2 h2 => ?_
      o_args
      refine fstore h2 T.cl_Control T.n_Control_stalled (Nat.le_of_ble_eq_true rfl) rfl fun H3 s3 h3 => ?_
      o_args
      exact k H3 (((s0.trans s1).trans s2).trans s3) ⟨dx, h3⟩
def sp_Control_on_sample : Sp := fun vs H Q _ => ∃ (e n : V), vs = [e, n] ∧ Q .non H
theorem ok_Control_on_sample (T : Txt K mg) : FnOk P w K mg base CX0 1 T.a_Control_on_sample T.fd_Control_on_sample ["self", "ticks"] (sp_Control_on_sample) := by
  have S := sc_Control_on_sample
  refine T.F_Control_on_sample.ok S (fun vs H Q E h => ?_) (fun cdv A outer s H vs Q E hr h => ?_)
  · obtain ⟨e, n, rfl, _⟩ := h
    rfl
  · obtain ⟨e, n, rfl, k⟩ := h
    refine ⟨_, (pss_one ps_pass), ?_⟩
    refine st_Control_on_sample ?_
    o_args
    exact k
def Cs.acked (x : Cs) (n f : Int) : Cs := if 2 * (f + n) < x.w then { x with st := false } else if x.w < x.t then { x with st := false, w := min (x.w + min n x.u) 4194304 } else { x with st := false }
def sp_Control_grow (K : PySem.W.Frag) (C Ce : Addr) : Sp := fun vs H Q E => ∃ (e : Addr) (v now : V) (x : Cs), vs = [.ref e, v, now] ∧ CtAt C H e x ∧
  ((∃ n, v = .int n ∧ 1 ≤ n ∧ n ≤ 65535 ∧ Q .non H) ∨ (Out K H v 1 65535 ∧ Err Ce "number" v H E))
theorem ok_Control_grow (T : Txt K mg) : FnOk P w K mg base (L2.CX P w) 4 T.a_Control_grow T.fd_Control_grow ["self", "count", "now"] (sp_Control_grow K T.c_Control T.c_InvalidNumber) := by
  have S := sc_Control_grow
  refine T.F_Control_grow.okX S (fun vs H Q E h => ?_) (fun cdv A outer s H vs Q E hr h => ?_)
  · obtain ⟨e, v, now, x, rfl, _⟩ := h
    rfl
  · obtain ⟨e, v, now, x, rfl, hc, h⟩ := h
    refine ⟨_, (pss_one (ps_expr (pe_call (ok_require_new_bytes T) (hr.mono (by decide)) rfl T.g_require_new_bytes T.F_require_new_bytes.kp T.B_require_new_bytes .nil (passes_call (takes_of rfl rfl rfl rfl) (fun _ _ _ _ h => h)) (pa_cons (pv 1) pa_nil)))), ?_⟩
    refine st_Control_grow ?_
    o_args
    rcases h with ⟨n, rfl, n1, n2, k⟩ | ⟨ho, hE⟩
    · refine ⟨_, rfl, .inl ⟨n, rfl, n1, n2, ?_⟩⟩
      o_args
      exact k
    · exact ⟨_, rfl, .inr ⟨ho, hE⟩⟩
def sp_Control_on_ack (K : PySem.W.Frag) (C Ce : Addr) : Sp := fun vs H Q E => ∃ (e : Addr) (v now : V) (f : Int) (x : Cs), vs = [.ref e, v, .int f, now] ∧ CtAt C H e x ∧
  ((∃ n, v = .int n ∧ 1 ≤ n ∧ n ≤ 65535 ∧ ∀ H', SameX e H H' → CtAt C H' e (x.acked n f) → Q .non H') ∨ (Out K H v 1 65535 ∧ Err Ce "number" v H E))
theorem ok_Control_on_ack (T : Txt K mg) : FnOk P w K mg base (L2.CX P w) 6 T.a_Control_on_ack T.fd_Control_on_ack ["self", "count", "flight", "now"] (sp_Control_on_ack K T.c_Control T.c_InvalidNumber) := by
  have S := sc_Control_on_ack
  refine T.F_Control_on_ack.okX S (fun vs H Q E h => ?_) (fun cdv A outer s H vs Q E hr h => ?_)
  · obtain ⟨e, v, now, f, x, rfl, _⟩ := h
    rfl
  · obtain ⟨e, v, now, f, x, rfl, ⟨dx, he⟩, h⟩ := h
    refine ⟨_, (pss_cons (ps_expr (pe_call (ok_require_new_bytes T) (hr.mono (by decide)) rfl T.g_require_new_bytes T.F_require_new_bytes.kp T.B_require_new_bytes .nil (passes_call (takes_of rfl rfl rfl rfl) (fun _ _ _ _ h => h)) (pa_cons (pv 1) pa_nil)))
      (pss_cons (ps_fld (pv 0) pe_bl rfl)
      (pss_cons (ps_if (pt_cmpR op_lt (pe_op op_mul pe_int (pe_op op_add (pv 2) (pv 1))) (pe_fld (pv 0) rfl) (nomark _)) (pss_one ps_retN) pss_nil)
      (pss_one (ps_if (pt_val (pe_prop (pv 0) T.cl_Control T.PR_Control_starting (ok_Control_starting T) (hr.mono (by decide)) T.B_Control_starting .nil pass0 rfl)) (pss_one (ps_expr (pe_meth (pv 0) T.cl_Control T.m_Control_set_window (ok_Control_set_window T) (hr.mono (by decide)) T.B_Control_set_window .nil pass0 (pa_cons (pe_op op_add (pe_fld (pv 0) rfl) (pe_callB (id := "min") (call_min2K rfl) (by rfl) T.b_min (by decide +kernel) (pa_cons (pv 1) (pa_cons (pe_fld (pv 0) rfl) pa_nil)))) pa_nil)))) (pss_one (ps_expr (pe_meth (pv 0) T.cl_Control T.m_Control_grow (ok_Control_grow T) (hr.mono (by decide)) T.B_Control_grow .nil (passes_call (takes_of rfl rfl rfl rfl) (fun _ _ _ _ h => h)) (pa_cons (pv 1) (pa_cons (pv 3) pa_nil)))))))))), ?_⟩
    refine st_Control_on_ack ?_
    o_args
    rcases h with ⟨n, rfl, n1, n2, k⟩ | ⟨ho, hE⟩
    · unfold Cs.acked at k
      refine ⟨_, rfl, .inl ⟨n, rfl, n1, n2, ?_⟩⟩
      o_args
      refine fstore he T.cl_Control T.n_Control_stalled (Nat.le_of_ble_eq_true rfl) rfl fun H1 s1 h1 => ?_
      o_args
      refine fget h1 T.cl_Control T.n_Control_window rfl ?_
      o_args
      refine brD (fun q => ?_) (fun q => ?_)
      · o_args
        rw [if_pos q] at k
        exact k H1 s1 ⟨dx, h1⟩
      rw [if_neg q] at k
      o_args
      refine ⟨e, dx, _, rfl, h1, e, { x with st := false }, rfl, ⟨dx, h1⟩, ?_⟩
      o_args
      refine brD (fun q' => ?_) (fun q' => ?_)
      · o_args
        refine ⟨e, dx, _, rfl, h1, rfl, ?_⟩
        o_args
        refine fget h1 T.cl_Control T.n_Control_window rfl ?_
        o_args
        refine fget h1 T.cl_Control T.n_Control_unit rfl ?_
        o_args
        refine ⟨e, { x with st := false }, _, rfl, ⟨dx, h1⟩, fun H2 s2 h2 => ?_⟩
        o_args
        rw [if_pos q'] at k
        exact k H2 (s1.trans s2) h2
      · o_args
        refine ⟨e, dx, _, rfl, h1, rfl, ?_⟩
        o_args
        refine ⟨e, _, _, { x with st := false }, rfl, ⟨dx, h1⟩, .inl ⟨n, rfl, n1, n2, ?_⟩⟩
        o_args
        rw [if_neg q'] at k
        exact k H1 s1 ⟨dx, h1⟩
    · exact ⟨_, rfl, .inr ⟨ho, hE⟩⟩
end NB
namespace NF

abbrev Cs := My.Cs
/-! ### a control, of the class Fixed -/
theorem cval {K : PySem.W.Frag} {C : Addr} {mc : Value} {f : Str} {v : V} {σ : L2.St} {H : Hp} {Q : VK} (R : ClX.CRead K C mc) (V : ∃ u, ClX.CVal K C mc f v u) (q : Q v H) : ClX.tCVal K (tC (.ref C)) f σ H Q :=
  V.elim fun u h => ⟨C, mc, v, u, rfl, R, h, q⟩
def CtAt (C : Addr) (H : Hp) (e : Addr) (x : Cs) : Prop := ∃ dx, H e = some (.ins C dx [("unit", .int x.u), ("window", .int x.w), ("threshold", .int x.t), ("credit", .int x.c), ("stalled", .bl x.st)])
theorem CtAt.same {C : Addr} {H H' : Hp} {e : Addr} {x : Cs} (h : CtAt C H e x) (s : Same H H') : CtAt C H' e x := h.elim fun dx h => ⟨dx, s _ _ h⟩
theorem CtAt.on {C : Addr} {H H' : Hp} {e b : Addr} {x : Cs} (h : CtAt C H e x) (s : SameX b H H') (n : e ≠ b) : CtAt C H' e x := h.elim fun dx h => ⟨dx, s _ _ n h⟩
def sp_require_new_bytes (K : PySem.W.Frag) (Ce : Addr) : Sp := fun vs H Q E => ∃ (x : V), vs = [x] ∧ ((∃ n, x = .int n ∧ 1 ≤ n ∧ n ≤ 65535 ∧ Q .non H) ∨ (Out K H x 1 65535 ∧ Err Ce "number" x H E))
theorem ok_require_new_bytes (T : Txt K mg) : FnOk P w K mg base (L2.CX P w) 3 T.a_require_new_bytes T.fd_require_new_bytes ["count"] (sp_require_new_bytes K T.c_InvalidNumber) := by
  have S := sc_require_new_bytes
  refine T.F_require_new_bytes.okX S (fun vs H Q E h => ?_) (fun cdv A outer s H vs Q E hr h => ?_)
  · obtain ⟨x, rfl, _⟩ := h
    rfl
  · obtain ⟨x, rfl, h⟩ := h
    refine ⟨_, (pss_one (ps_if (pt_not (pt_val (pe_call (ok_is_between T) (hr.mono (by decide)) rfl T.g_is_between T.F_is_between.kp T.B_is_between .nil pass0 (pa_cons (pv 0) (pa_cons pe_int (pa_cons pe_int pa_nil)))))) (pss_one (ps_raise rfl (takes_of rfl rfl rfl rfl) (pmk_oex T.X_InvalidNumber.o T.X_InvalidNumber.i T.X_InvalidNumber.t (ok_InvalidNumber_init_ T) (hr.mono (by decide)) T.B_InvalidNumber_init_ .nil pass0 rfl T.X_InvalidNumber.g (pa_cons (pv 0) pa_nil)))) pss_nil)), ?_⟩
    refine st_require_new_bytes ?_
    o_args
    rcases h with ⟨n, rfl, h1, h2, k⟩ | ⟨ho, hE⟩
    · refine in_between h1 h2 ?_
      o_args
      exact k
    · refine out_between ho ?_
      o_args
      exact ⟨_, rfl, mkO_of T.X_InvalidNumber.o T.nX_InvalidNumber fun d H1 nd ss hx => hE d H1 ss hx⟩
def Ct5 (C : Addr) (H : Hp) (e : Addr) (u : Int) : Prop := ∃ dx, H e = some (.ins C dx [("unit", .int u), ("window", .int (2 * u)), ("threshold", .int 4194304), ("credit", .int 0), ("stalled", .bl false)])
def sp_Control_init_ (K : PySem.W.Frag) (C Ce : Addr) : Sp := fun vs H Q E => ∃ (p dx : Addr) (v : V), vs = [.ref p, v] ∧ H p = some (.ins C dx []) ∧
  ((∃ u, v = .int u ∧ 1 ≤ u ∧ u ≤ 65535 ∧ ∀ H', SameX p H H' → Ct5 C H' p u → Q .non H') ∨ (Out K H v 1 65535 ∧ Err Ce "setting" (.str "unit") H E))
theorem ok_Control_init_ (T : Txt K mg) : FnOk P w K mg base (L2.CX P w) 3 T.a_Control_init_ T.fd_Control_init_ ["self", "unit"] (sp_Control_init_ K T.c_Fixed T.c_InvalidSetting) := by
  have S := sc_Control_init_
  refine T.F_Control_init_.okX S (fun vs H Q E h => ?_) (fun cdv A outer s H vs Q E hr h => ?_)
  · obtain ⟨p, dx, v, rfl, _⟩ := h
    rfl
  · obtain ⟨p, dx, v, rfl, hp, h⟩ := h
    refine ⟨_, (pss_cons (ps_if (pt_not (pt_val (pe_call (ok_is_between T) (hr.mono (by decide)) rfl T.g_is_between T.F_is_between.kp T.B_is_between .nil pass0 (pa_cons (pv 1) (pa_cons pe_int (pa_cons pe_int pa_nil)))))) (pss_one (ps_raise rfl (takes_of rfl rfl rfl rfl) (pmk_oex T.X_InvalidSetting.o T.X_InvalidSetting.i T.X_InvalidSetting.t (ok_InvalidSetting_init_ T) (hr.mono (by decide)) T.B_InvalidSetting_init_ .nil pass0 rfl T.X_InvalidSetting.g (pa_cons pe_str pa_nil)))) pss_nil)
      (pss_cons (ps_fld (pv 0) (pv 1) rfl)
      (pss_cons (ps_fld (pv 0) (pe_op op_mul pe_int (pv 1)) rfl)
      (pss_cons (ps_fld (pv 0) (ClX.pe_cval (pe_glob (v := .ref T.c_Control) rfl T.g_Control rfl)) rfl)
      (pss_cons (ps_fld (pv 0) pe_int rfl)
      (pss_one (ps_fld (pv 0) pe_bl rfl))))))), ?_⟩
    refine st_Control_init_ ?_
    o_args
    rcases h with ⟨u, rfl, h1, h2, k⟩ | ⟨ho, hE⟩
    · refine in_between h1 h2 ?_
      o_args
      refine fstore hp T.cl_Fixed T.n_Fixed_unit (Nat.le_of_ble_eq_true rfl) rfl fun H1 s1 h1 => ?_
      o_args
      refine fstore h1 T.cl_Fixed T.n_Fixed_window (Nat.le_of_ble_eq_true rfl) rfl fun H2 s2 h2 => ?_
      o_args
      refine cval T.R_Control T.V_Control_GREATEST ?_
      o_args
      refine fstore h2 T.cl_Fixed T.n_Fixed_threshold (Nat.le_of_ble_eq_true rfl) rfl fun H3 s3 h3 => ?_
      o_args
      refine fstore h3 T.cl_Fixed T.n_Fixed_credit (Nat.le_of_ble_eq_true rfl) rfl fun H4 s4 h4 => ?_
      o_args
      refine fstore h4 T.cl_Fixed T.n_Fixed_stalled (Nat.le_of_ble_eq_true rfl) rfl fun H5 s5 h5 => ?_
      o_args
      exact k H5 ((((s1.trans s2).trans s3).trans s4).trans s5) ⟨dx, h5⟩
    · refine out_between ho ?_
      o_args
      exact mkO_of T.X_InvalidSetting.o T.nX_InvalidSetting fun d H1 nd ss hx => hE d H1 ss hx
def sp_Control_starting (C : Addr) : Sp := fun vs H Q _ => ∃ (e : Addr) (x : Cs), vs = [.ref e] ∧ CtAt C H e x ∧ Q (.bl (decide (x.w < x.t))) H
theorem ok_Control_starting (T : Txt K mg) : FnOk P w K mg base CX0 1 T.a_Control_starting T.fd_Control_starting ["self"] (sp_Control_starting T.c_Fixed) := by
  have S := sc_Control_starting
  refine T.F_Control_starting.ok S (fun vs H Q E h => ?_) (fun cdv A outer s H vs Q E hr h => ?_)
  · obtain ⟨e, x, rfl, _⟩ := h
    rfl
  · obtain ⟨e, x, rfl, ⟨dx, he⟩, k⟩ := h
    refine ⟨_, (pss_one (ps_ret (pe_cmpR op_lt (pe_fld (pv 0) rfl) (pe_fld (pv 0) rfl) (nomark _)))), ?_⟩
    refine st_Control_starting ?_
    o_args
    refine fget he T.cl_Fixed T.n_Fixed_window rfl ?_
    o_args
    refine fget he T.cl_Fixed T.n_Fixed_threshold rfl ?_
    o_args
    exact k
def sp_Control_set_window (C : Addr) : Sp := fun vs H Q _ => ∃ (e : Addr) (x : Cs) (n : Int), vs = [.ref e, .int n] ∧ CtAt C H e x ∧ ∀ H', SameX e H H' → CtAt C H' e { x with w := min n 4194304 } → Q .non H'
theorem ok_Control_set_window (T : Txt K mg) : FnOk P w K mg base CX0 1 T.a_Control_set_window T.fd_Control_set_window ["self", "window"] (sp_Control_set_window T.c_Fixed) := by
  have S := sc_Control_set_window
  refine T.F_Control_set_window.ok S (fun vs H Q E h => ?_) (fun cdv A outer s H vs Q E hr h => ?_)
  · obtain ⟨e, x, n, rfl, _⟩ := h
    rfl
  · obtain ⟨e, x, n, rfl, ⟨dx, he⟩, k⟩ := h
    refine ⟨_, (pss_one (ps_fld (pv 0) (pe_callB (id := "min") (call_min2K rfl) (by rfl) T.b_min (by decide +kernel) (pa_cons (pv 1) (pa_cons (ClX.pe_cval (pe_glob (v := .ref T.c_Control) rfl T.g_Control rfl)) pa_nil))) rfl)), ?_⟩
    refine st_Control_set_window ?_
    o_args
    refine cval T.R_Control T.V_Control_GREATEST ?_
    o_args
    refine fstore he T.cl_Fixed T.n_Fixed_window (Nat.le_of_ble_eq_true rfl) rfl fun H1 s1 h1 => ?_
    o_args
    exact k H1 s1 ⟨dx, h1⟩
/-! ### the methods of a fixed window -/
def sp_Fixed_init_ (K : PySem.W.Frag) (C Ce : Addr) : Sp := fun vs H Q E => ∃ (p dx : Addr) (v w : V), vs = [.ref p, v, w] ∧ H p = some (.ins C dx []) ∧
  ((∃ u, v = .int u ∧ 1 ≤ u ∧ u ≤ 65535 ∧ ((∃ n, w = .int n ∧ 1 ≤ n ∧ n ≤ 64 ∧ ∀ H', SameX p H H' → CtAt C H' p ⟨u, u * n, 4194304, 0, false⟩ → Q .non H') ∨
    (∀ H', SameX p H H' → Out K H' w 1 64 ∧ Err Ce "setting" (.str "pieces") H' E))) ∨ (Out K H v 1 65535 ∧ Err Ce "setting" (.str "unit") H E))
theorem ok_Fixed_init_ (T : Txt K mg) : FnOk P w K mg base (L2.CX P w) 4 T.a_Fixed_init_ T.fd_Fixed_init_ ["self", "unit", "pieces"] (sp_Fixed_init_ K T.c_Fixed T.c_InvalidSetting) := by
  have S := sc_Fixed_init_
  refine T.F_Fixed_init_.okX T.SK_Fixed_init_.cell S (fun vs H Q E h => ?_) (fun A outer s H vs Q E hr h => ?_)
  · obtain ⟨p, dx, v, w, rfl, _⟩ := h
    rfl
  · obtain ⟨p, dx, v, w, rfl, hp, h⟩ := h
    refine ⟨_, (pssa_cons (psa_super (D := T.c_Fixed) (m := "__init__") (g := T.a_Control_init_) T.SK_Fixed_init_ ⟨rfl, rfl, rfl, se_Fixed_init_.1, se_Fixed_init_.2.1, se_Fixed_init_.2.2, rfl, T.b_super⟩ ((ok_Control_init_ T).raw T.B_Control_init_ .nil) (hr.mono (by decide)) (passes_call (takes_of rfl rfl rfl rfl) (fun _ _ _ _ h => h)) (pa_cons (pv 1) pa_nil))
      (pssa_cons (psa_of (ps_if (pt_not (pt_val (pe_call (ok_is_between T) (hr.mono (by decide)) rfl T.g_is_between T.F_is_between.kp T.B_is_between .nil pass0 (pa_cons (pv 2) (pa_cons pe_int (pa_cons (pe_glob rfl T.g_MOST_PIECES T.r_MOST_PIECES) pa_nil)))))) (pss_one (ps_raise rfl (takes_of rfl rfl rfl rfl) (pmk_oex T.X_InvalidSetting.o T.X_InvalidSetting.i T.X_InvalidSetting.t (ok_InvalidSetting_init_ T) (hr.mono (by decide)) T.B_InvalidSetting_init_ .nil pass0 rfl T.X_InvalidSetting.g (pa_cons pe_str pa_nil)))) pss_nil))
      (pssa_one (psa_of (ps_fld (pv 0) (pe_op op_mul (pv 1) (pv 2)) rfl))))), ?_⟩
    refine st_Fixed_init_ ?_
    o_args
    refine ⟨p, _, dx, _, rfl, hp, T.SC_Fixed_Fixed_init_, ?_⟩
    o_args
    rcases h with ⟨u, rfl, h1, h2, h⟩ | ⟨ho, hE⟩
    · refine ⟨p, dx, _, rfl, hp, .inl ⟨u, rfl, h1, h2, fun H0 s0 ⟨d0, h0⟩ => ?_⟩⟩
      o_args
      rcases h with ⟨n, rfl, n1, n2, k⟩ | h
      · refine in_between n1 n2 ?_
        o_args
        refine x_mulL ⟨by omega, by omega⟩ ?_
        o_args
        refine fstore h0 T.cl_Fixed T.n_Fixed_window (Nat.le_of_ble_eq_true rfl) rfl fun H1 s1 h1 => ?_
        o_args
        exact k H1 (s0.trans s1) ⟨d0, h1⟩
      · obtain ⟨ho, hE⟩ := h H0 s0
        refine out_between ho ?_
        o_args
        exact mkO_of T.X_InvalidSetting.o T.nX_InvalidSetting fun d H1 nd ss hx => hE d H1 ss hx
    · exact ⟨p, dx, _, rfl, hp, .inr ⟨ho, hE⟩⟩
/-! ### the methods of a fixed window -/
def sp_Fixed_on_ack (K : PySem.W.Frag) (C Ce : Addr) : Sp := fun vs H Q E => ∃ (e : Addr) (v now : V) (f : Int) (x : Cs), vs = [.ref e, v, .int f, now] ∧ CtAt C H e x ∧
  ((∃ n, v = .int n ∧ 1 ≤ n ∧ n ≤ 65535 ∧ ∀ H', SameX e H H' → CtAt C H' e { x with st := false } → Q .non H') ∨ (Out K H v 1 65535 ∧ Err Ce "number" v H E))
theorem ok_Fixed_on_ack (T : Txt K mg) : FnOk P w K mg base (L2.CX P w) 4 T.a_Fixed_on_ack T.fd_Fixed_on_ack ["self", "count", "flight", "now"] (sp_Fixed_on_ack K T.c_Fixed T.c_InvalidNumber) := by
  have S := sc_Fixed_on_ack
  refine T.F_Fixed_on_ack.okX S (fun vs H Q E h => ?_) (fun cdv A outer s H vs Q E hr h => ?_)
  · obtain ⟨e, v, now, f, x, rfl, _⟩ := h
    rfl
  · obtain ⟨e, v, now, f, x, rfl, ⟨dx, he⟩, h⟩ := h
    refine ⟨_, (pss_cons (ps_expr (pe_call (ok_require_new_bytes T) (hr.mono (by decide)) rfl T.g_require_new_bytes T.F_require_new_bytes.kp T.B_require_new_bytes .nil (passes_call (takes_of rfl rfl rfl rfl) (fun _ _ _ _ h => h)) (pa_cons (pv 1) pa_nil)))
      (pss_one (ps_fld (pv 0) pe_bl rfl))), ?_⟩
    refine st_Fixed_on_ack ?_
    o_args
    rcases h with ⟨n, rfl, n1, n2, k⟩ | ⟨ho, hE⟩
    · refine ⟨_, rfl, .inl ⟨n, rfl, n1, n2, ?_⟩⟩
      o_args
      refine fstore he T.cl_Fixed T.n_Fixed_stalled (Nat.le_of_ble_eq_true rfl) rfl fun H1 s1 h1 => ?_
      o_args
      exact k H1 s1 ⟨dx, h1⟩
    · exact ⟨_, rfl, .inr ⟨ho, hE⟩⟩
def sp_Fixed_grow (K : PySem.W.Frag) (C Ce : Addr) : Sp := fun vs H Q E => ∃ (e : Addr) (v now : V) (x : Cs), vs = [.ref e, v, now] ∧ CtAt C H e x ∧
  ((∃ n, v = .int n ∧ 1 ≤ n ∧ n ≤ 65535 ∧ Q .non H) ∨ (Out K H v 1 65535 ∧ Err Ce "number" v H E))
theorem ok_Fixed_grow (T : Txt K mg) : FnOk P w K mg base (L2.CX P w) 4 T.a_Fixed_grow T.fd_Fixed_grow ["self", "count", "now"] (sp_Fixed_grow K T.c_Fixed T.c_InvalidNumber) := by
  have S := sc_Fixed_grow
  refine T.F_Fixed_grow.okX S (fun vs H Q E h => ?_) (fun cdv A outer s H vs Q E hr h => ?_)
  · obtain ⟨e, v, now, x, rfl, _⟩ := h
    rfl
  · obtain ⟨e, v, now, x, rfl, hc, h⟩ := h
    refine ⟨_, (pss_one (ps_expr (pe_call (ok_require_new_bytes T) (hr.mono (by decide)) rfl T.g_require_new_bytes T.F_require_new_bytes.kp T.B_require_new_bytes .nil (passes_call (takes_of rfl rfl rfl rfl) (fun _ _ _ _ h => h)) (pa_cons (pv 1) pa_nil)))), ?_⟩
    refine st_Fixed_grow ?_
    o_args
    rcases h with ⟨n, rfl, n1, n2, k⟩ | ⟨ho, hE⟩
    · refine ⟨_, rfl, .inl ⟨n, rfl, n1, n2, ?_⟩⟩
      o_args
      exact k
    · exact ⟨_, rfl, .inr ⟨ho, hE⟩⟩
def sp_Fixed_on_loss : Sp := fun vs H Q _ => ∃ (e f n : V), vs = [e, f, n] ∧ Q .non H
theorem ok_Fixed_on_loss (T : Txt K mg) : FnOk P w K mg base CX0 1 T.a_Fixed_on_loss T.fd_Fixed_on_loss ["self", "flight", "now"] (sp_Fixed_on_loss) := by
  have S := sc_Fixed_on_loss
  refine T.F_Fixed_on_loss.ok S (fun vs H Q E h => ?_) (fun cdv A outer s H vs Q E hr h => ?_)
  · obtain ⟨e, f, n, rfl, _⟩ := h
    rfl
  · obtain ⟨e, f, n, rfl, k⟩ := h
    refine ⟨_, (pss_one ps_pass), ?_⟩
    refine st_Fixed_on_loss ?_
    o_args
    exact k
def sp_Fixed_on_expiry (C : Addr) : Sp := fun vs H Q _ => ∃ (e : Addr) (f n : V) (x : Cs), vs = [.ref e, f, n] ∧ CtAt C H e x ∧ ∀ H', SameX e H H' → CtAt C H' e { x with st := true } → Q .non H'
theorem ok_Fixed_on_expiry (T : Txt K mg) : FnOk P w K mg base CX0 1 T.a_Fixed_on_expiry T.fd_Fixed_on_expiry ["self", "flight", "now"] (sp_Fixed_on_expiry T.c_Fixed) := by
  have S := sc_Fixed_on_expiry
  refine T.F_Fixed_on_expiry.ok S (fun vs H Q E h => ?_) (fun cdv A outer s H vs Q E hr h => ?_)
  · obtain ⟨e, f, n, x, rfl, _⟩ := h
    rfl
  · obtain ⟨e, f, n, x, rfl, ⟨dx, he⟩, k⟩ := h
    refine ⟨_, (pss_one (ps_fld (pv 0) pe_bl rfl)), ?_⟩
    refine st_Fixed_on_expiry ?_
    o_args
    refine fstore he T.cl_Fixed T.n_Fixed_stalled (Nat.le_of_ble_eq_true rfl) rfl fun H1 s1 h1 => ?_
    o_args
    exact k H1 s1 ⟨dx, h1⟩
def sp_Fixed_on_sample : Sp := fun vs H Q _ => ∃ (e n : V), vs = [e, n] ∧ Q .non H
theorem ok_Fixed_on_sample (T : Txt K mg) : FnOk P w K mg base CX0 1 T.a_Fixed_on_sample T.fd_Fixed_on_sample ["self", "ticks"] (sp_Fixed_on_sample) := by
  have S := sc_Fixed_on_sample
  refine T.F_Fixed_on_sample.ok S (fun vs H Q E h => ?_) (fun cdv A outer s H vs Q E hr h => ?_)
  · obtain ⟨e, n, rfl, _⟩ := h
    rfl
  · obtain ⟨e, n, rfl, k⟩ := h
    refine ⟨_, (pss_one ps_pass), ?_⟩
    refine st_Fixed_on_sample ?_
    o_args
    exact k
end NF
namespace NC

/-! ### the state of a climb -/
structure Cs where
  u : Int
  w : Int
  t : Int
  c : Int
  st : Bool
def Cs.up (x : Cs) : Int → Int := fun w => min (w + x.u) 4194304
def Cs.Fit (x : Cs) : Prop := 1 ≤ x.u
theorem Cs.up_pos (x : Cs) {w : Int} (h : x.Fit) (hw : 1 ≤ w) : 1 ≤ x.up w := by
  unfold Cs.Fit at h
  show 1 ≤ min (w + x.u) 4194304
  omega
/-! ### a control, of the class Climb -/
theorem cval {K : PySem.W.Frag} {C : Addr} {mc : Value} {f : Str} {v : V} {σ : L2.St} {H : Hp} {Q : VK} (R : ClX.CRead K C mc) (V : ∃ u, ClX.CVal K C mc f v u) (q : Q v H) : ClX.tCVal K (tC (.ref C)) f σ H Q :=
  V.elim fun u h => ⟨C, mc, v, u, rfl, R, h, q⟩
def CtAt (C : Addr) (H : Hp) (e : Addr) (x : Cs) : Prop := ∃ dx, H e = some (.ins C dx [("unit", .int x.u), ("window", .int x.w), ("threshold", .int x.t), ("credit", .int x.c), ("stalled", .bl x.st)])
theorem CtAt.same {C : Addr} {H H' : Hp} {e : Addr} {x : Cs} (h : CtAt C H e x) (s : Same H H') : CtAt C H' e x := h.elim fun dx h => ⟨dx, s _ _ h⟩
theorem CtAt.on {C : Addr} {H H' : Hp} {e b : Addr} {x : Cs} (h : CtAt C H e x) (s : SameX b H H') (n : e ≠ b) : CtAt C H' e x := h.elim fun dx h => ⟨dx, s _ _ n h⟩
def sp_require_new_bytes (K : PySem.W.Frag) (Ce : Addr) : Sp := fun vs H Q E => ∃ (x : V), vs = [x] ∧ ((∃ n, x = .int n ∧ 1 ≤ n ∧ n ≤ 65535 ∧ Q .non H) ∨ (Out K H x 1 65535 ∧ Err Ce "number" x H E))
theorem ok_require_new_bytes (T : Txt K mg) : FnOk P w K mg base (L2.CX P w) 3 T.a_require_new_bytes T.fd_require_new_bytes ["count"] (sp_require_new_bytes K T.c_InvalidNumber) := by
  have S := sc_require_new_bytes
  refine T.F_require_new_bytes.okX S (fun vs H Q E h => ?_) (fun cdv A outer s H vs Q E hr h => ?_)
  · obtain ⟨x, rfl, _⟩ := h
    rfl
  · obtain ⟨x, rfl, h⟩ := h
    refine ⟨_, (pss_one (ps_if (pt_not (pt_val (pe_call (ok_is_between T) (hr.mono (by decide)) rfl T.g_is_between T.F_is_between.kp T.B_is_between .nil pass0 (pa_cons (pv 0) (pa_cons pe_int (pa_cons pe_int pa_nil)))))) (pss_one (ps_raise rfl (takes_of rfl rfl rfl rfl) (pmk_oex T.X_InvalidNumber.o T.X_InvalidNumber.i T.X_InvalidNumber.t (ok_InvalidNumber_init_ T) (hr.mono (by decide)) T.B_InvalidNumber_init_ .nil pass0 rfl T.X_InvalidNumber.g (pa_cons (pv 0) pa_nil)))) pss_nil)), ?_⟩
    refine st_require_new_bytes ?_
    o_args
    rcases h with ⟨n, rfl, h1, h2, k⟩ | ⟨ho, hE⟩
    · refine in_between h1 h2 ?_
      o_args
      exact k
    · refine out_between ho ?_
      o_args
      exact ⟨_, rfl, mkO_of T.X_InvalidNumber.o T.nX_InvalidNumber fun d H1 nd ss hx => hE d H1 ss hx⟩
def Ct5 (C : Addr) (H : Hp) (e : Addr) (u : Int) : Prop := ∃ dx, H e = some (.ins C dx [("unit", .int u), ("window", .int (2 * u)), ("threshold", .int 4194304), ("credit", .int 0), ("stalled", .bl false)])
def sp_Control_init_ (K : PySem.W.Frag) (C Ce : Addr) : Sp := fun vs H Q E => ∃ (p dx : Addr) (v : V), vs = [.ref p, v] ∧ H p = some (.ins C dx []) ∧
  ((∃ u, v = .int u ∧ 1 ≤ u ∧ u ≤ 65535 ∧ ∀ H', SameX p H H' → Ct5 C H' p u → Q .non H') ∨ (Out K H v 1 65535 ∧ Err Ce "setting" (.str "unit") H E))
theorem ok_Control_init_ (T : Txt K mg) : FnOk P w K mg base (L2.CX P w) 3 T.a_Control_init_ T.fd_Control_init_ ["self", "unit"] (sp_Control_init_ K T.c_Climb T.c_InvalidSetting) := by
  have S := sc_Control_init_
  refine T.F_Control_init_.okX S (fun vs H Q E h => ?_) (fun cdv A outer s H vs Q E hr h => ?_)
  · obtain ⟨p, dx, v, rfl, _⟩ := h
    rfl
  · obtain ⟨p, dx, v, rfl, hp, h⟩ := h
    refine ⟨_, (pss_cons (ps_if (pt_not (pt_val (pe_call (ok_is_between T) (hr.mono (by decide)) rfl T.g_is_between T.F_is_between.kp T.B_is_between .nil pass0 (pa_cons (pv 1) (pa_cons pe_int (pa_cons pe_int pa_nil)))))) (pss_one (ps_raise rfl (takes_of rfl rfl rfl rfl) (pmk_oex T.X_InvalidSetting.o T.X_InvalidSetting.i T.X_InvalidSetting.t (ok_InvalidSetting_init_ T) (hr.mono (by decide)) T.B_InvalidSetting_init_ .nil pass0 rfl T.X_InvalidSetting.g (pa_cons pe_str pa_nil)))) pss_nil)
      (pss_cons (ps_fld (pv 0) (pv 1) rfl)
      (pss_cons (ps_fld (pv 0) (pe_op op_mul pe_int (pv 1)) rfl)
      (pss_cons (ps_fld (pv 0) (ClX.pe_cval (pe_glob (v := .ref T.c_Control) rfl T.g_Control rfl)) rfl)
      (pss_cons (ps_fld (pv 0) pe_int rfl)
      (pss_one (ps_fld (pv 0) pe_bl rfl))))))), ?_⟩
    refine st_Control_init_ ?_
    o_args
    rcases h with ⟨u, rfl, h1, h2, k⟩ | ⟨ho, hE⟩
    · refine in_between h1 h2 ?_
      o_args
      refine fstore hp T.cl_Climb T.n_Climb_unit (Nat.le_of_ble_eq_true rfl) rfl fun H1 s1 h1 => ?_
      o_args
      refine fstore h1 T.cl_Climb T.n_Climb_window (Nat.le_of_ble_eq_true rfl) rfl fun H2 s2 h2 => ?_
      o_args
      refine cval T.R_Control T.V_Control_GREATEST ?_
      o_args
      refine fstore h2 T.cl_Climb T.n_Climb_threshold (Nat.le_of_ble_eq_true rfl) rfl fun H3 s3 h3 => ?_
      o_args
      refine fstore h3 T.cl_Climb T.n_Climb_credit (Nat.le_of_ble_eq_true rfl) rfl fun H4 s4 h4 => ?_
      o_args
      refine fstore h4 T.cl_Climb T.n_Climb_stalled (Nat.le_of_ble_eq_true rfl) rfl fun H5 s5 h5 => ?_
      o_args
      exact k H5 ((((s1.trans s2).trans s3).trans s4).trans s5) ⟨dx, h5⟩
    · refine out_between ho ?_
      o_args
      exact mkO_of T.X_InvalidSetting.o T.nX_InvalidSetting fun d H1 nd ss hx => hE d H1 ss hx
def sp_Control_starting (C : Addr) : Sp := fun vs H Q _ => ∃ (e : Addr) (x : Cs), vs = [.ref e] ∧ CtAt C H e x ∧ Q (.bl (decide (x.w < x.t))) H
theorem ok_Control_starting (T : Txt K mg) : FnOk P w K mg base CX0 1 T.a_Control_starting T.fd_Control_starting ["self"] (sp_Control_starting T.c_Climb) := by
  have S := sc_Control_starting
  refine T.F_Control_starting.ok S (fun vs H Q E h => ?_) (fun cdv A outer s H vs Q E hr h => ?_)
  · obtain ⟨e, x, rfl, _⟩ := h
    rfl
  · obtain ⟨e, x, rfl, ⟨dx, he⟩, k⟩ := h
    refine ⟨_, (pss_one (ps_ret (pe_cmpR op_lt (pe_fld (pv 0) rfl) (pe_fld (pv 0) rfl) (nomark _)))), ?_⟩
    refine st_Control_starting ?_
    o_args
    refine fget he T.cl_Climb T.n_Climb_window rfl ?_
    o_args
    refine fget he T.cl_Climb T.n_Climb_threshold rfl ?_
    o_args
    exact k
def sp_Control_set_window (C : Addr) : Sp := fun vs H Q _ => ∃ (e : Addr) (x : Cs) (n : Int), vs = [.ref e, .int n] ∧ CtAt C H e x ∧ ∀ H', SameX e H H' → CtAt C H' e { x with w := min n 4194304 } → Q .non H'
theorem ok_Control_set_window (T : Txt K mg) : FnOk P w K mg base CX0 1 T.a_Control_set_window T.fd_Control_set_window ["self", "window"] (sp_Control_set_window T.c_Climb) := by
  have S := sc_Control_set_window
  refine T.F_Control_set_window.ok S (fun vs H Q E h => ?_) (fun cdv A outer s H vs Q E hr h => ?_)
  · obtain ⟨e, x, n, rfl, _⟩ := h
    rfl
  · obtain ⟨e, x, n, rfl, ⟨dx, he⟩, k⟩ := h
    refine ⟨_, (pss_one (ps_fld (pv 0) (pe_callB (id := "min") (call_min2K rfl) (by rfl) T.b_min (by decide +kernel) (pa_cons (pv 1) (pa_cons (ClX.pe_cval (pe_glob (v := .ref T.c_Control) rfl T.g_Control rfl)) pa_nil))) rfl)), ?_⟩
    refine st_Control_set_window ?_
    o_args
    refine cval T.R_Control T.V_Control_GREATEST ?_
    o_args
    refine fstore he T.cl_Climb T.n_Climb_window (Nat.le_of_ble_eq_true rfl) rfl fun H1 s1 h1 => ?_
    o_args
    exact k H1 s1 ⟨dx, h1⟩
def Cs.lost (x : Cs) (f : Int) : Cs := { x with t := max (f / 2) (2 * x.u), w := min (max (f / 2) (2 * x.u)) 4194304, c := 0 }
def sp_Control_on_loss (C : Addr) : Sp := fun vs H Q _ => ∃ (e : Addr) (x : Cs) (f : Int) (n : V), vs = [.ref e, .int f, n] ∧ CtAt C H e x ∧ 0 ≤ f ∧ ∀ H', SameX e H H' → CtAt C H' e (x.lost f) → Q .non H'
theorem ok_Control_on_loss (T : Txt K mg) : FnOk P w K mg base CX0 2 T.a_Control_on_loss T.fd_Control_on_loss ["self", "flight", "now"] (sp_Control_on_loss T.c_Climb) := by
  have S := sc_Control_on_loss
  refine T.F_Control_on_loss.ok S (fun vs H Q E h => ?_) (fun cdv A outer s H vs Q E hr h => ?_)
  · obtain ⟨e, x, f, n, rfl, _⟩ := h
    rfl
  · obtain ⟨e, x, f, n, rfl, ⟨dx, he⟩, f0, k⟩ := h
    refine ⟨_, (pss_cons (ps_fld (pv 0) (pe_callB (id := "max") (call_max2K rfl) (by rfl) T.b_max (by decide +kernel) (pa_cons (pe_op op_fdiv (pv 1) pe_int) (pa_cons (pe_op op_mul pe_int (pe_fld (pv 0) rfl)) pa_nil))) rfl)
      (pss_cons (ps_expr (pe_meth (pv 0) T.cl_Climb T.m_Climb_set_window (ok_Control_set_window T) (hr.mono (by decide)) T.B_Control_set_window .nil pass0 (pa_cons (pe_fld (pv 0) rfl) pa_nil)))
      (pss_one (ps_fld (pv 0) pe_int rfl)))), ?_⟩
    refine st_Control_on_loss ?_
    o_args
    refine fget he T.cl_Climb T.n_Climb_unit rfl ?_
    o_args
    refine fstore he T.cl_Climb T.n_Climb_threshold (Nat.le_of_ble_eq_true rfl) rfl fun H1 s1 h1 => ?_
    o_args
    refine ⟨e, dx, _, rfl, h1, rfl, ?_⟩
    o_args
    refine fget h1 T.cl_Climb T.n_Climb_threshold rfl ?_
    o_args
    refine ⟨e, { x with t := max (f / 2) (2 * x.u) }, _, rfl, ⟨dx, h1⟩, fun H2 s2 ⟨dy, h2⟩ => ?_⟩
    o_args
    refine fstore h2 T.cl_Climb T.n_Climb_credit (Nat.le_of_ble_eq_true rfl) rfl fun H3 s3 h3 => ?_
    o_args
    exact k H3 ((s1.trans s2).trans s3) ⟨dy, h3⟩
def Cs.expired (x : Cs) (f : Int) : Cs := { x with t := if x.st = true then x.t else max (f / 2) (2 * x.u), w := x.u, c := 0, st := true }
def sp_Control_on_expiry (C : Addr) : Sp := fun vs H Q _ => ∃ (e : Addr) (x : Cs) (f : Int) (n : V), vs = [.ref e, .int f, n] ∧ CtAt C H e x ∧ 0 ≤ f ∧ ∀ H', SameX e H H' → CtAt C H' e (x.expired f) → Q .non H'
theorem ok_Control_on_expiry (T : Txt K mg) : FnOk P w K mg base CX0 1 T.a_Control_on_expiry T.fd_Control_on_expiry ["self", "flight", "now"] (sp_Control_on_expiry T.c_Climb) := by
  have S := sc_Control_on_expiry
  refine T.F_Control_on_expiry.ok S (fun vs H Q E h => ?_) (fun cdv A outer s H vs Q E hr h => ?_)
  · obtain ⟨e, x, f, n, rfl, _⟩ := h
    rfl
  · obtain ⟨e, x, f, n, rfl, ⟨dx, he⟩, f0, k⟩ := h
    refine ⟨_, (pss_cons (ps_if (pt_not (pt_val (pe_fld (pv 0) rfl))) (pss_one (ps_fld (pv 0) (pe_callB (id := "max") (call_max2K rfl) (by rfl) T.b_max (by decide +kernel) (pa_cons (pe_op op_fdiv (pv 1) pe_int) (pa_cons (pe_op op_mul pe_int (pe_fld (pv 0) rfl)) pa_nil))) rfl)) pss_nil)
      (pss_cons (ps_fld (pv 0) (pe_fld (pv 0) rfl) rfl)
      (pss_cons (ps_fld (pv 0) pe_int rfl)
      (pss_one (ps_fld (pv 0) pe_bl rfl))))), ?_⟩
    refine st_Control_on_expiry ?_
    o_args
    refine fget he T.cl_Climb T.n_Climb_stalled rfl ?_
    unfold Cs.expired at k
    cases hst : x.st with
    | true =>
      rw [hst, if_pos rfl] at k
      rw [hst] at he
      o_args
      refine fget he T.cl_Climb T.n_Climb_unit rfl ?_
      o_args
      refine fstore he T.cl_Climb T.n_Climb_window (Nat.le_of_ble_eq_true rfl) rfl fun H1 s1 h1 => ?_
      o_args
      refine fstore h1 T.cl_Climb T.n_Climb_credit (Nat.le_of_ble_eq_true rfl) rfl fun H2 s2 h2 => ?_
      o_args
      refine fstore h2 T.cl_Climb T.n_Climb_stalled (Nat.le_of_ble_eq_true rfl) rfl fun H3 s3 h3 => ?_
      o_args
      exact k H3 ((s1.trans s2).trans s3) ⟨dx, h3⟩
    | false =>
      rw [hst, if_neg Bool.false_ne_true] at k
      rw [hst] at he
      o_args
      refine fget he T.cl_Climb T.n_Climb_unit rfl ?_
      o_args
      refine fstore he T.cl_Climb T.n_Climb_threshold (Nat.le_of_ble_eq_true rfl) rfl fun H0 s0 h0 => ?_
      o_args
      refine fget h0 T.cl_Climb T.n_Climb_unit rfl ?_
      o_args
      refine fstore h0 T.cl_Climb T.n_Climb_window (Nat.le_of_ble_eq_true rfl) rfl fun H1 s1 h1 => ?_
      o_args
      refine fstore h1 T.cl_Climb T.n_Climb_credit (Nat.le_of_ble_eq_true rfl) rfl fun H2 s2 h2 => ?_
      o_args
      refine fstore h2 T.cl_Climb T.n_Climb_stalled (Nat.le_of_ble_eq_true rfl) rfl fun H3 s3 h3 => ?_
      o_args
      exact k H3 (((s0.trans s1).trans s2).trans s3) ⟨dx, h3⟩
def sp_Control_on_sample : Sp := fun vs H Q _ => ∃ (e n : V), vs = [e, n] ∧ Q .non H
theorem ok_Control_on_sample (T : Txt K mg) : FnOk P w K mg base CX0 1 T.a_Control_on_sample T.fd_Control_on_sample ["self", "ticks"] (sp_Control_on_sample) := by
  have S := sc_Control_on_sample
  refine T.F_Control_on_sample.ok S (fun vs H Q E h => ?_) (fun cdv A outer s H vs Q E hr h => ?_)
  · obtain ⟨e, n, rfl, _⟩ := h
    rfl
  · obtain ⟨e, n, rfl, k⟩ := h
    refine ⟨_, (pss_one ps_pass), ?_⟩
    refine st_Control_on_sample ?_
    o_args
    exact k
def sp_Climb_step (C : Addr) : Sp := fun vs H Q _ => ∃ (e : Addr) (x : Cs), vs = [.ref e] ∧ CtAt C H e x ∧ x.Fit ∧ ∀ H', SameX e H H' → CtAt C H' e { x with w := min (x.w + x.u) 4194304 } → Q .non H'
theorem ok_Climb_step (T : Txt K mg) : FnOk P w K mg base CX0 2 T.a_Climb_step T.fd_Climb_step ["self"] (sp_Climb_step T.c_Climb) := by
  have S := sc_Climb_step
  refine T.F_Climb_step.ok S (fun vs H Q E h => ?_) (fun cdv A outer s H vs Q E hr h => ?_)
  · obtain ⟨e, x, rfl, _⟩ := h
    rfl
  · obtain ⟨e, x, rfl, hc, _, k⟩ := h
    obtain ⟨dx, he⟩ := id hc
    refine ⟨_, (pss_one (ps_expr (pe_meth (pv 0) T.cl_Climb T.m_Climb_set_window (ok_Control_set_window T) (hr.mono (by decide)) T.B_Control_set_window .nil pass0 (pa_cons (pe_op op_add (pe_fld (pv 0) rfl) (pe_fld (pv 0) rfl)) pa_nil)))), ?_⟩
    refine st_Climb_step ?_
    o_args
    refine ⟨e, dx, _, rfl, he, rfl, ?_⟩
    o_args
    refine fget he T.cl_Climb T.n_Climb_window rfl ?_
    o_args
    refine fget he T.cl_Climb T.n_Climb_unit rfl ?_
    o_args
    refine ⟨e, x, _, rfl, hc, fun H1 s1 h1 => ?_⟩
    o_args
    exact k H1 s1 h1
def sp_Climb_grow (K : PySem.W.Frag) (C Ce : Addr) : Sp := fun vs H Q E => ∃ (e : Addr) (v now : V) (x : Cs), vs = [.ref e, v, now] ∧ CtAt C H e x ∧
  ((∃ n, v = .int n ∧ 1 ≤ n ∧ n ≤ 65535 ∧ x.Fit ∧ 1 ≤ x.w ∧ ∀ H' c' w', SameX e H H' → Climbs x.up (x.c + n) x.w c' w' → CtAt C H' e { x with c := c', w := w' } → Q .non H') ∨ (Out K H v 1 65535 ∧ Err Ce "number" v H E))
theorem ok_Climb_grow (T : Txt K mg) : FnOk P w K mg base (L2.CX P w) 4 T.a_Climb_grow T.fd_Climb_grow ["self", "count", "now"] (sp_Climb_grow K T.c_Climb T.c_InvalidNumber) := by
  have S := sc_Climb_grow
  refine T.F_Climb_grow.okX S (fun vs H Q E h => ?_) (fun cdv A outer s H vs Q E hr h => ?_)
  · obtain ⟨e, v, now, x, rfl, _⟩ := h
    rfl
  · obtain ⟨e, v, now, x, rfl, ⟨dx, he⟩, h⟩ := h
    refine ⟨_, (pss_cons (ps_expr (pe_call (ok_require_new_bytes T) (hr.mono (by decide)) rfl T.g_require_new_bytes T.F_require_new_bytes.kp T.B_require_new_bytes .nil (passes_call (takes_of rfl rfl rfl rfl) (fun _ _ _ _ h => h)) (pa_cons (pv 1) pa_nil)))
      (pss_cons (ps_fldaug (pv 0) (pv 1) ip_add)
      (pss_one (ps_while (passes_of rfl) (pt_cmpR op_ge (pe_fld (pv 0) rfl) (pe_fld (pv 0) rfl) (nomark _)) (pss_cons (ps_fldaug (pv 0) (pe_fld (pv 0) rfl) ip_sub)
      (pss_one (ps_expr (pe_meth0 (pv 0) T.cl_Climb T.m_Climb_step (ok_Climb_step T) (hr.mono (by decide)) T.B_Climb_step .nil pass0)))))))), ?_⟩
    refine st_Climb_grow ?_
    o_args
    rcases h with ⟨n, rfl, n1, n2, u1, w1, k⟩ | ⟨ho, hE⟩
    · refine ⟨_, rfl, .inl ⟨n, rfl, n1, n2, ?_⟩⟩
      o_args
      refine fraise he T.cl_Climb T.n_Climb_credit (Nat.le_of_ble_eq_true rfl) rfl ?_
      o_args
      refine fput he (Nat.le_of_ble_eq_true rfl) rfl fun H1 s1 h1 => ?_
      o_args
      refine ⟨fun m σ H' => ∃ c w, m = c.toNat ∧ σ = [some (.ref e), some (.int n), some now] ∧ SameX e H H' ∧ 1 ≤ w ∧ (∀ c' w', Climbs x.up c w c' w' → Climbs x.up (x.c + n) x.w c' w') ∧
        CtAt T.c_Climb H' e { x with w := w, c := c }, ⟨_, x.c + n, x.w, rfl, rfl, s1, w1, fun _ _ z => z, ⟨dx, h1⟩⟩, ?_⟩
      rintro m σ H2 ⟨c, w, rfl, rfl, s2, w0, up, dy, h2⟩
      o_args
      refine fget h2 T.cl_Climb T.n_Climb_credit rfl ?_
      o_args
      refine fget h2 T.cl_Climb T.n_Climb_window rfl ?_
      o_args
      refine brD (fun q => ?_) (fun q => ?_)
      · refine ⟨fun σ' H' => σ' = [some (.ref e), some (.int n), some now] ∧ SameX e H H' ∧ CtAt T.c_Climb H' e { x with w := x.up w, c := c - w }, fun σ' H' ⟨hσ, sN, hN⟩ => ⟨_, ?_, c - w, x.up w, rfl, hσ, sN, x.up_pos u1 w0, fun c' w' r => up c' w' (.step q r), hN⟩, ?_⟩
        · omega
        o_args
        refine fraise h2 T.cl_Climb T.n_Climb_credit (Nat.le_of_ble_eq_true rfl) rfl ?_
        o_args
        refine fget h2 T.cl_Climb T.n_Climb_window rfl ?_
        o_args
        refine fput h2 (Nat.le_of_ble_eq_true rfl) rfl fun H3 s3 h3 => ?_
        o_args
        refine ⟨e, dy, _, rfl, h3, rfl, ?_⟩
        o_args
        refine ⟨e, { x with w := w, c := c - w }, rfl, ⟨dy, h3⟩, u1, fun H4 s4 h4 => ?_⟩
        o_args
        exact ⟨rfl, (s2.trans s3).trans s4, h4⟩
      · o_args
        exact k H2 _ _ s2 (up _ _ (.done (by omega))) ⟨dy, h2⟩
    · exact ⟨_, rfl, .inr ⟨ho, hE⟩⟩
/-- the window grows by steps of what it has -/
inductive Grown (x : Cs) (n : Int) (now : V) : Cs → Prop
  | mk {c' w' : Int} (r : Climbs x.up (x.c + n) x.w c' w') : Grown x n now { x with c := c', w := w' }
theorem Grown.det {x y z : Cs} {n : Int} {now : V} (a : Grown x n now y) (b : Grown x n now z) : y = z := by
  cases a with
  | mk r => cases b with
    | mk r' =>
      obtain ⟨rfl, rfl⟩ := r.det r'
      rfl
structure Cs.Ready (x : Cs) (now : V) : Prop where
  fit : x.Fit
  w1 : 1 ≤ x.w
theorem Cs.Ready.st {x : Cs} {now : V} (h : x.Ready now) : ({ x with st := false } : Cs).Ready now := ⟨h.fit, h.w1⟩
inductive Acked (x : Cs) (n f : Int) (now : V) : Cs → Prop
  | idle (h : 2 * (f + n) < x.w) : Acked x n f now { x with st := false }
  | start (h : ¬ 2 * (f + n) < x.w) (g : x.w < x.t) : Acked x n f now { x with st := false, w := min (x.w + min n x.u) 4194304 }
  | grow {y : Cs} (h : ¬ 2 * (f + n) < x.w) (g : ¬ x.w < x.t) (r : Grown { x with st := false } n now y) : Acked x n f now y
theorem Acked.det {x y z : Cs} {n f : Int} {now : V} (a : Acked x n f now y) (b : Acked x n f now z) : y = z := by
  cases a with
  | idle h => cases b with
    | idle _ => rfl
    | start h' _ => exact absurd h h'
    | grow h' _ _ => exact absurd h h'
  | start h g => cases b with
    | idle h' => exact absurd h' h
    | start _ _ => rfl
    | grow _ g' _ => exact absurd g g'
  | grow h g r => cases b with
    | idle h' => exact absurd h' h
    | start _ g' => exact absurd g' g
    | grow _ _ r' => exact r.det r'
theorem Acked.inv {x y : Cs} {n f : Int} {now : V} (a : Acked x n f now y) : (2 * (f + n) < x.w → y = { x with st := false }) ∧ (¬ 2 * (f + n) < x.w → x.w < x.t → y = { x with st := false, w := min (x.w + min n x.u) 4194304 }) ∧
    (¬ 2 * (f + n) < x.w → ¬ x.w < x.t → Grown { x with st := false } n now y) := by
  cases a with
  | idle h => exact ⟨fun _ => rfl, fun q => absurd h q, fun q => absurd h q⟩
  | start h g => exact ⟨fun q => absurd q h, fun _ _ => rfl, fun _ q => absurd g q⟩
  | grow h g r => exact ⟨fun q => absurd q h, fun _ q => absurd q g, fun _ _ => r⟩
def sp_Control_on_ack (K : PySem.W.Frag) (C Ce : Addr) : Sp := fun vs H Q E => ∃ (e : Addr) (v now : V) (f : Int) (x : Cs), vs = [.ref e, v, .int f, now] ∧ CtAt C H e x ∧
  ((∃ n, v = .int n ∧ 1 ≤ n ∧ n ≤ 65535 ∧ x.Ready now ∧ ∀ H' y, SameX e H H' → Acked x n f now y → CtAt C H' e y → Q .non H') ∨ (Out K H v 1 65535 ∧ Err Ce "number" v H E))
theorem ok_Control_on_ack (T : Txt K mg) : FnOk P w K mg base (L2.CX P w) 6 T.a_Control_on_ack T.fd_Control_on_ack ["self", "count", "flight", "now"] (sp_Control_on_ack K T.c_Climb T.c_InvalidNumber) := by
  have S := sc_Control_on_ack
  refine T.F_Control_on_ack.okX S (fun vs H Q E h => ?_) (fun cdv A outer s H vs Q E hr h => ?_)
  · obtain ⟨e, v, now, f, x, rfl, _⟩ := h
    rfl
  · obtain ⟨e, v, now, f, x, rfl, ⟨dx, he⟩, h⟩ := h
    refine ⟨_, (pss_cons (ps_expr (pe_call (ok_require_new_bytes T) (hr.mono (by decide)) rfl T.g_require_new_bytes T.F_require_new_bytes.kp T.B_require_new_bytes .nil (passes_call (takes_of rfl rfl rfl rfl) (fun _ _ _ _ h => h)) (pa_cons (pv 1) pa_nil)))
      (pss_cons (ps_fld (pv 0) pe_bl rfl)
      (pss_cons (ps_if (pt_cmpR op_lt (pe_op op_mul pe_int (pe_op op_add (pv 2) (pv 1))) (pe_fld (pv 0) rfl) (nomark _)) (pss_one ps_retN) pss_nil)
      (pss_one (ps_if (pt_val (pe_prop (pv 0) T.cl_Climb T.PR_Climb_starting (ok_Control_starting T) (hr.mono (by decide)) T.B_Control_starting .nil pass0 rfl)) (pss_one (ps_expr (pe_meth (pv 0) T.cl_Climb T.m_Climb_set_window (ok_Control_set_window T) (hr.mono (by decide)) T.B_Control_set_window .nil pass0 (pa_cons (pe_op op_add (pe_fld (pv 0) rfl) (pe_callB (id := "min") (call_min2K rfl) (by rfl) T.b_min (by decide +kernel) (pa_cons (pv 1) (pa_cons (pe_fld (pv 0) rfl) pa_nil)))) pa_nil)))) (pss_one (ps_expr (pe_meth (pv 0) T.cl_Climb T.m_Climb_grow (ok_Climb_grow T) (hr.mono (by decide)) T.B_Climb_grow .nil (passes_call (takes_of rfl rfl rfl rfl) (fun _ _ _ _ h => h)) (pa_cons (pv 1) (pa_cons (pv 3) pa_nil)))))))))), ?_⟩
    refine st_Control_on_ack ?_
    o_args
    rcases h with ⟨n, rfl, n1, n2, rdy, k⟩ | ⟨ho, hE⟩
    · refine ⟨_, rfl, .inl ⟨n, rfl, n1, n2, ?_⟩⟩
      o_args
      refine fstore he T.cl_Climb T.n_Climb_stalled (Nat.le_of_ble_eq_true rfl) rfl fun H1 s1 h1 => ?_
      o_args
      refine fget h1 T.cl_Climb T.n_Climb_window rfl ?_
      o_args
      refine brD (fun q => ?_) (fun q => ?_)
      · o_args
        exact k H1 _ s1 (.idle q) ⟨dx, h1⟩
      o_args
      refine ⟨e, dx, _, rfl, h1, e, { x with st := false }, rfl, ⟨dx, h1⟩, ?_⟩
      o_args
      refine brD (fun q' => ?_) (fun q' => ?_)
      · o_args
        refine ⟨e, dx, _, rfl, h1, rfl, ?_⟩
        o_args
        refine fget h1 T.cl_Climb T.n_Climb_window rfl ?_
        o_args
        refine fget h1 T.cl_Climb T.n_Climb_unit rfl ?_
        o_args
        refine ⟨e, { x with st := false }, _, rfl, ⟨dx, h1⟩, fun H2 s2 h2 => ?_⟩
        o_args
        exact k H2 _ (s1.trans s2) (.start q q') h2
      · o_args
        refine ⟨e, dx, _, rfl, h1, rfl, ?_⟩
        o_args
        refine ⟨e, _, _, { x with st := false }, rfl, ⟨dx, h1⟩, .inl ⟨n, rfl, n1, n2, rdy.st.fit, rdy.st.w1, fun H2 c' w' s2 r h2 => ?_⟩⟩
        o_args
        exact k H2 _ (s1.trans s2) (.grow q q' (.mk r)) h2
    · exact ⟨_, rfl, .inr ⟨ho, hE⟩⟩
def sp_Climb_on_ack (K : PySem.W.Frag) (C Ce : Addr) : Sp := sp_Control_on_ack K C Ce
theorem ok_Climb_on_ack (T : Txt K mg) : FnOk P w K mg base (L2.CX P w) 7 T.a_Climb_on_ack T.fd_Climb_on_ack ["self", "count", "flight", "now"] (sp_Climb_on_ack K T.c_Climb T.c_InvalidNumber) := by
  have S := sc_Climb_on_ack
  refine T.F_Climb_on_ack.okX T.SK_Climb_on_ack.cell S (fun vs H Q E h => ?_) (fun A outer s H vs Q E hr h => ?_)
  · obtain ⟨e, v, now, f, x, rfl, _⟩ := h
    rfl
  · obtain ⟨e, v, now, f, x, rfl, hc, h⟩ := h
    obtain ⟨dx, he⟩ := id hc
    refine ⟨_, (pssa_one (psa_super (D := T.c_Climb) (m := "on_ack") (g := T.a_Control_on_ack) T.SK_Climb_on_ack ⟨rfl, rfl, rfl, se_Climb_on_ack.1, se_Climb_on_ack.2.1, se_Climb_on_ack.2.2, rfl, T.b_super⟩ ((ok_Control_on_ack T).raw T.B_Control_on_ack .nil) (hr.mono (by decide)) (passes_call (takes_of rfl rfl rfl rfl) (fun _ _ _ _ h => h)) (pa_cons (pv 1) (pa_cons (pv 2) (pa_cons (pv 3) pa_nil))))), ?_⟩
    refine st_Climb_on_ack ?_
    o_args
    refine ⟨e, _, dx, _, rfl, he, T.SC_Climb_Climb_on_ack, ?_⟩
    o_args
    refine ⟨e, v, now, f, x, rfl, hc, ?_⟩
    rcases h with ⟨n, rfl, n1, n2, rdy, k⟩ | ⟨ho, hE⟩
    · exact .inl ⟨n, rfl, n1, n2, rdy, fun H' y s1 a h1 => k H' y s1 a h1⟩
    · exact .inr ⟨ho, hE⟩
def sp_Climb_on_loss (C : Addr) : Sp := sp_Control_on_loss C
theorem ok_Climb_on_loss (T : Txt K mg) : FnOk P w K mg base (L2.CX P w) 3 T.a_Climb_on_loss T.fd_Climb_on_loss ["self", "flight", "now"] (sp_Climb_on_loss T.c_Climb) := by
  have S := sc_Climb_on_loss
  refine T.F_Climb_on_loss.okX T.SK_Climb_on_loss.cell S (fun vs H Q E h => ?_) (fun A outer s H vs Q E hr h => ?_)
  · obtain ⟨e, x, f, n, rfl, _⟩ := h
    rfl
  · obtain ⟨e, x, f, n, rfl, hc, f0, k⟩ := h
    obtain ⟨dx, he⟩ := id hc
    refine ⟨_, (pssa_one (psa_super (D := T.c_Climb) (m := "on_loss") (g := T.a_Control_on_loss) T.SK_Climb_on_loss ⟨rfl, rfl, rfl, se_Climb_on_loss.1, se_Climb_on_loss.2.1, se_Climb_on_loss.2.2, rfl, T.b_super⟩ ((ok_Control_on_loss T).raw T.B_Control_on_loss .nil) (hr.mono (by decide)) pass0 (pa_cons (pv 1) (pa_cons (pv 2) pa_nil)))), ?_⟩
    refine st_Climb_on_loss ?_
    o_args
    refine ⟨e, _, dx, _, rfl, he, T.SC_Climb_Climb_on_loss, ?_⟩
    o_args
    exact ⟨e, x, f, n, rfl, hc, f0, k⟩
def sp_Climb_on_expiry (C : Addr) : Sp := sp_Control_on_expiry C
theorem ok_Climb_on_expiry (T : Txt K mg) : FnOk P w K mg base (L2.CX P w) 2 T.a_Climb_on_expiry T.fd_Climb_on_expiry ["self", "flight", "now"] (sp_Climb_on_expiry T.c_Climb) := by
  have S := sc_Climb_on_expiry
  refine T.F_Climb_on_expiry.okX T.SK_Climb_on_expiry.cell S (fun vs H Q E h => ?_) (fun A outer s H vs Q E hr h => ?_)
  · obtain ⟨e, x, f, n, rfl, _⟩ := h
    rfl
  · obtain ⟨e, x, f, n, rfl, hc, f0, k⟩ := h
    obtain ⟨dx, he⟩ := id hc
    refine ⟨_, (pssa_one (psa_super (D := T.c_Climb) (m := "on_expiry") (g := T.a_Control_on_expiry) T.SK_Climb_on_expiry ⟨rfl, rfl, rfl, se_Climb_on_expiry.1, se_Climb_on_expiry.2.1, se_Climb_on_expiry.2.2, rfl, T.b_super⟩ ((ok_Control_on_expiry T).raw T.B_Control_on_expiry .nil) (hr.mono (by decide)) pass0 (pa_cons (pv 1) (pa_cons (pv 2) pa_nil)))), ?_⟩
    refine st_Climb_on_expiry ?_
    o_args
    refine ⟨e, _, dx, _, rfl, he, T.SC_Climb_Climb_on_expiry, ?_⟩
    o_args
    exact ⟨e, x, f, n, rfl, hc, f0, k⟩
def sp_Climb_on_sample (C : Addr) : Sp := fun vs H Q _ => ∃ (e : Addr) (n : V) (x : Cs), vs = [.ref e, n] ∧ CtAt C H e x ∧ Q .non H
theorem ok_Climb_on_sample (T : Txt K mg) : FnOk P w K mg base (L2.CX P w) 2 T.a_Climb_on_sample T.fd_Climb_on_sample ["self", "ticks"] (sp_Climb_on_sample T.c_Climb) := by
  have S := sc_Climb_on_sample
  refine T.F_Climb_on_sample.okX T.SK_Climb_on_sample.cell S (fun vs H Q E h => ?_) (fun A outer s H vs Q E hr h => ?_)
  · obtain ⟨e, n, x, rfl, _⟩ := h
    rfl
  · obtain ⟨e, n, x, rfl, hc, k⟩ := h
    obtain ⟨dx, he⟩ := id hc
    refine ⟨_, (pssa_one (psa_super (D := T.c_Climb) (m := "on_sample") (g := T.a_Control_on_sample) T.SK_Climb_on_sample ⟨rfl, rfl, rfl, se_Climb_on_sample.1, se_Climb_on_sample.2.1, se_Climb_on_sample.2.2, rfl, T.b_super⟩ ((ok_Control_on_sample T).raw T.B_Control_on_sample .nil) (hr.mono (by decide)) pass0 (pa_cons (pv 1) pa_nil))), ?_⟩
    refine st_Climb_on_sample ?_
    o_args
    refine ⟨e, _, dx, _, rfl, he, T.SC_Climb_Climb_on_sample, ?_⟩
    o_args
    exact ⟨_, n, rfl, k⟩
end NC
namespace NV

/-! ### the state of a curve -/
def bV : Option Int → V
  | none => .non
  | some n => .int n
structure Cs where
  u : Int
  w : Int
  t : Int
  c : Int
  st : Bool
  p : Int
  s : Int
  b : Option Int
def Cs.up (x : Cs) : Int → Int := fun w => min (w + x.u) 4194304
def Cs.Fit (x : Cs) : Prop := 1 ≤ x.u
theorem Cs.up_pos (x : Cs) {w : Int} (h : x.Fit) (hw : 1 ≤ w) : 1 ≤ x.up w := by
  unfold Cs.Fit at h
  show 1 ≤ min (w + x.u) 4194304
  omega
theorem pow3 (i : Int) : i ^ Int.toNat 3 = i * i * i := by
  show i ^ 3 = _
  rw [Int.pow_succ, Int.pow_succ, Int.pow_succ, Int.pow_zero, Int.one_mul]
theorem cube_mono {a b : Int} (h0 : 0 ≤ a) (h : a ≤ b) : a * a * a ≤ b * b * b :=
  Int.mul_le_mul (Int.mul_le_mul h h h0 (by omega)) h h0 (Int.mul_nonneg (by omega) (by omega))
theorem cube_ge {s u : Int} (h : 0 ≤ s) (hu : 1 ≤ u) : s ≤ u * (s * s * s) := by
  by_cases e : s = 0
  · subst e; simp
  · have h1 : 1 ≤ s := by omega
    have h2 : 1 ≤ s * s := Int.mul_le_mul h1 h1 (by decide) h
    have h3 : 1 * s ≤ s * s * s := Int.mul_le_mul_of_nonneg_right h2 h
    have h4 : 1 * (s * s * s) ≤ u * (s * s * s) := Int.mul_le_mul_of_nonneg_right hu (by omega)
    omega
/-- s is the least number whose cube brings u to need -/
structure Span (u need s : Int) : Prop where
  s0 : 0 ≤ s
  hi : need ≤ u * (s * s * s)
  lo : s = 0 ∨ u * ((s - 1) * (s - 1) * (s - 1)) < need
theorem Span.le {u need s : Int} (h : Span u need s) (u1 : 1 ≤ u) : s = 0 ∨ s ≤ need := by
  rcases h.lo with e | e
  · exact .inl e
  · by_cases z : s = 0
    · exact .inl z
    · have := cube_ge (s := s - 1) (u := u) (by have := h.s0; omega) u1
      exact .inr (by omega)
theorem Span.det {u need s s' : Int} (h : Span u need s) (g : Span u need s') (u1 : 1 ≤ u) : s = s' := by
  have key : ∀ {a b : Int}, Span u need a → Span u need b → ¬ a < b := fun {a b} ha hb l => by
    rcases hb.lo with e | e
    · have := ha.s0; omega
    · have h1 := cube_mono (a := a) (b := b - 1) ha.s0 (by omega)
      have h2 : u * (a * a * a) ≤ u * ((b - 1) * (b - 1) * (b - 1)) := Int.mul_le_mul_of_nonneg_left h1 (by omega)
      have := ha.hi
      omega
  have := key h g
  have := key g h
  omega
def Cs.goal (x : Cs) (b m : Int) : Int := x.p + x.u * ((m - b - x.s) * (m - b - x.s) * (m - b - x.s)) / 64
structure Cs.Ready (x : Cs) (now : V) : Prop where
  fit : x.Fit
  w1 : 1 ≤ x.w
  u2 : x.u ≤ 65535
  near : ∀ b, x.b = some b → ∃ m, now = .int m ∧ -(2 ^ 62) < m - b - x.s ∧ m - b - x.s < 2 ^ 62
theorem Cs.Ready.st {x : Cs} {now : V} (h : x.Ready now) : ({ x with st := false } : Cs).Ready now := ⟨h.fit, h.w1, h.u2, h.near⟩
/-! ### a control, of the class Curve -/
theorem cval {K : PySem.W.Frag} {C : Addr} {mc : Value} {f : Str} {v : V} {σ : L2.St} {H : Hp} {Q : VK} (R : ClX.CRead K C mc) (V : ∃ u, ClX.CVal K C mc f v u) (q : Q v H) : ClX.tCVal K (tC (.ref C)) f σ H Q :=
  V.elim fun u h => ⟨C, mc, v, u, rfl, R, h, q⟩
def CtAt (C : Addr) (H : Hp) (e : Addr) (x : Cs) : Prop := ∃ dx, H e = some (.ins C dx [("unit", .int x.u), ("window", .int x.w), ("threshold", .int x.t), ("credit", .int x.c), ("stalled", .bl x.st), ("peak", .int x.p), ("span", .int x.s), ("born", bV x.b)])
theorem CtAt.same {C : Addr} {H H' : Hp} {e : Addr} {x : Cs} (h : CtAt C H e x) (s : Same H H') : CtAt C H' e x := h.elim fun dx h => ⟨dx, s _ _ h⟩
theorem CtAt.on {C : Addr} {H H' : Hp} {e b : Addr} {x : Cs} (h : CtAt C H e x) (s : SameX b H H') (n : e ≠ b) : CtAt C H' e x := h.elim fun dx h => ⟨dx, s _ _ n h⟩
def sp_require_new_bytes (K : PySem.W.Frag) (Ce : Addr) : Sp := fun vs H Q E => ∃ (x : V), vs = [x] ∧ ((∃ n, x = .int n ∧ 1 ≤ n ∧ n ≤ 65535 ∧ Q .non H) ∨ (Out K H x 1 65535 ∧ Err Ce "number" x H E))
theorem ok_require_new_bytes (T : Txt K mg) : FnOk P w K mg base (L2.CX P w) 3 T.a_require_new_bytes T.fd_require_new_bytes ["count"] (sp_require_new_bytes K T.c_InvalidNumber) := by
  have S := sc_require_new_bytes
  refine T.F_require_new_bytes.okX S (fun vs H Q E h => ?_) (fun cdv A outer s H vs Q E hr h => ?_)
  · obtain ⟨x, rfl, _⟩ := h
    rfl
  · obtain ⟨x, rfl, h⟩ := h
    refine ⟨_, (pss_one (ps_if (pt_not (pt_val (pe_call (ok_is_between T) (hr.mono (by decide)) rfl T.g_is_between T.F_is_between.kp T.B_is_between .nil pass0 (pa_cons (pv 0) (pa_cons pe_int (pa_cons pe_int pa_nil)))))) (pss_one (ps_raise rfl (takes_of rfl rfl rfl rfl) (pmk_oex T.X_InvalidNumber.o T.X_InvalidNumber.i T.X_InvalidNumber.t (ok_InvalidNumber_init_ T) (hr.mono (by decide)) T.B_InvalidNumber_init_ .nil pass0 rfl T.X_InvalidNumber.g (pa_cons (pv 0) pa_nil)))) pss_nil)), ?_⟩
    refine st_require_new_bytes ?_
    o_args
    rcases h with ⟨n, rfl, h1, h2, k⟩ | ⟨ho, hE⟩
    · refine in_between h1 h2 ?_
      o_args
      exact k
    · refine out_between ho ?_
      o_args
      exact ⟨_, rfl, mkO_of T.X_InvalidNumber.o T.nX_InvalidNumber fun d H1 nd ss hx => hE d H1 ss hx⟩
def Ct5 (C : Addr) (H : Hp) (e : Addr) (u : Int) : Prop := ∃ dx, H e = some (.ins C dx [("unit", .int u), ("window", .int (2 * u)), ("threshold", .int 4194304), ("credit", .int 0), ("stalled", .bl false)])
def sp_Control_init_ (K : PySem.W.Frag) (C Ce : Addr) : Sp := fun vs H Q E => ∃ (p dx : Addr) (v : V), vs = [.ref p, v] ∧ H p = some (.ins C dx []) ∧
  ((∃ u, v = .int u ∧ 1 ≤ u ∧ u ≤ 65535 ∧ ∀ H', SameX p H H' → Ct5 C H' p u → Q .non H') ∨ (Out K H v 1 65535 ∧ Err Ce "setting" (.str "unit") H E))
theorem ok_Control_init_ (T : Txt K mg) : FnOk P w K mg base (L2.CX P w) 3 T.a_Control_init_ T.fd_Control_init_ ["self", "unit"] (sp_Control_init_ K T.c_Curve T.c_InvalidSetting) := by
  have S := sc_Control_init_
  refine T.F_Control_init_.okX S (fun vs H Q E h => ?_) (fun cdv A outer s H vs Q E hr h => ?_)
  · obtain ⟨p, dx, v, rfl, _⟩ := h
    rfl
  · obtain ⟨p, dx, v, rfl, hp, h⟩ := h
    refine ⟨_, (pss_cons (ps_if (pt_not (pt_val (pe_call (ok_is_between T) (hr.mono (by decide)) rfl T.g_is_between T.F_is_between.kp T.B_is_between .nil pass0 (pa_cons (pv 1) (pa_cons pe_int (pa_cons pe_int pa_nil)))))) (pss_one (ps_raise rfl (takes_of rfl rfl rfl rfl) (pmk_oex T.X_InvalidSetting.o T.X_InvalidSetting.i T.X_InvalidSetting.t (ok_InvalidSetting_init_ T) (hr.mono (by decide)) T.B_InvalidSetting_init_ .nil pass0 rfl T.X_InvalidSetting.g (pa_cons pe_str pa_nil)))) pss_nil)
      (pss_cons (ps_fld (pv 0) (pv 1) rfl)
      (pss_cons (ps_fld (pv 0) (pe_op op_mul pe_int (pv 1)) rfl)
      (pss_cons (ps_fld (pv 0) (ClX.pe_cval (pe_glob (v := .ref T.c_Control) rfl T.g_Control rfl)) rfl)
      (pss_cons (ps_fld (pv 0) pe_int rfl)
      (pss_one (ps_fld (pv 0) pe_bl rfl))))))), ?_⟩
    refine st_Control_init_ ?_
    o_args
    rcases h with ⟨u, rfl, h1, h2, k⟩ | ⟨ho, hE⟩
    · refine in_between h1 h2 ?_
      o_args
      refine fstore hp T.cl_Curve T.n_Curve_unit (Nat.le_of_ble_eq_true rfl) rfl fun H1 s1 h1 => ?_
      o_args
      refine fstore h1 T.cl_Curve T.n_Curve_window (Nat.le_of_ble_eq_true rfl) rfl fun H2 s2 h2 => ?_
      o_args
      refine cval T.R_Control T.V_Control_GREATEST ?_
      o_args
      refine fstore h2 T.cl_Curve T.n_Curve_threshold (Nat.le_of_ble_eq_true rfl) rfl fun H3 s3 h3 => ?_
      o_args
      refine fstore h3 T.cl_Curve T.n_Curve_credit (Nat.le_of_ble_eq_true rfl) rfl fun H4 s4 h4 => ?_
      o_args
      refine fstore h4 T.cl_Curve T.n_Curve_stalled (Nat.le_of_ble_eq_true rfl) rfl fun H5 s5 h5 => ?_
      o_args
      exact k H5 ((((s1.trans s2).trans s3).trans s4).trans s5) ⟨dx, h5⟩
    · refine out_between ho ?_
      o_args
      exact mkO_of T.X_InvalidSetting.o T.nX_InvalidSetting fun d H1 nd ss hx => hE d H1 ss hx
def sp_Control_starting (C : Addr) : Sp := fun vs H Q _ => ∃ (e : Addr) (x : Cs), vs = [.ref e] ∧ CtAt C H e x ∧ Q (.bl (decide (x.w < x.t))) H
theorem ok_Control_starting (T : Txt K mg) : FnOk P w K mg base CX0 1 T.a_Control_starting T.fd_Control_starting ["self"] (sp_Control_starting T.c_Curve) := by
  have S := sc_Control_starting
  refine T.F_Control_starting.ok S (fun vs H Q E h => ?_) (fun cdv A outer s H vs Q E hr h => ?_)
  · obtain ⟨e, x, rfl, _⟩ := h
    rfl
  · obtain ⟨e, x, rfl, ⟨dx, he⟩, k⟩ := h
    refine ⟨_, (pss_one (ps_ret (pe_cmpR op_lt (pe_fld (pv 0) rfl) (pe_fld (pv 0) rfl) (nomark _)))), ?_⟩
    refine st_Control_starting ?_
    o_args
    refine fget he T.cl_Curve T.n_Curve_window rfl ?_
    o_args
    refine fget he T.cl_Curve T.n_Curve_threshold rfl ?_
    o_args
    exact k
def sp_Control_set_window (C : Addr) : Sp := fun vs H Q _ => ∃ (e : Addr) (x : Cs) (n : Int), vs = [.ref e, .int n] ∧ CtAt C H e x ∧ ∀ H', SameX e H H' → CtAt C H' e { x with w := min n 4194304 } → Q .non H'
theorem ok_Control_set_window (T : Txt K mg) : FnOk P w K mg base CX0 1 T.a_Control_set_window T.fd_Control_set_window ["self", "window"] (sp_Control_set_window T.c_Curve) := by
  have S := sc_Control_set_window
  refine T.F_Control_set_window.ok S (fun vs H Q E h => ?_) (fun cdv A outer s H vs Q E hr h => ?_)
  · obtain ⟨e, x, n, rfl, _⟩ := h
    rfl
  · obtain ⟨e, x, n, rfl, ⟨dx, he⟩, k⟩ := h
    refine ⟨_, (pss_one (ps_fld (pv 0) (pe_callB (id := "min") (call_min2K rfl) (by rfl) T.b_min (by decide +kernel) (pa_cons (pv 1) (pa_cons (ClX.pe_cval (pe_glob (v := .ref T.c_Control) rfl T.g_Control rfl)) pa_nil))) rfl)), ?_⟩
    refine st_Control_set_window ?_
    o_args
    refine cval T.R_Control T.V_Control_GREATEST ?_
    o_args
    refine fstore he T.cl_Curve T.n_Curve_window (Nat.le_of_ble_eq_true rfl) rfl fun H1 s1 h1 => ?_
    o_args
    exact k H1 s1 ⟨dx, h1⟩
def Cs.expired (x : Cs) (f : Int) : Cs := { x with t := if x.st = true then x.t else max (f / 2) (2 * x.u), w := x.u, c := 0, st := true }
def sp_Control_on_expiry (C : Addr) : Sp := fun vs H Q _ => ∃ (e : Addr) (x : Cs) (f : Int) (n : V), vs = [.ref e, .int f, n] ∧ CtAt C H e x ∧ 0 ≤ f ∧ ∀ H', SameX e H H' → CtAt C H' e (x.expired f) → Q .non H'
theorem ok_Control_on_expiry (T : Txt K mg) : FnOk P w K mg base CX0 1 T.a_Control_on_expiry T.fd_Control_on_expiry ["self", "flight", "now"] (sp_Control_on_expiry T.c_Curve) := by
  have S := sc_Control_on_expiry
  refine T.F_Control_on_expiry.ok S (fun vs H Q E h => ?_) (fun cdv A outer s H vs Q E hr h => ?_)
  · obtain ⟨e, x, f, n, rfl, _⟩ := h
    rfl
  · obtain ⟨e, x, f, n, rfl, ⟨dx, he⟩, f0, k⟩ := h
    refine ⟨_, (pss_cons (ps_if (pt_not (pt_val (pe_fld (pv 0) rfl))) (pss_one (ps_fld (pv 0) (pe_callB (id := "max") (call_max2K rfl) (by rfl) T.b_max (by decide +kernel) (pa_cons (pe_op op_fdiv (pv 1) pe_int) (pa_cons (pe_op op_mul pe_int (pe_fld (pv 0) rfl)) pa_nil))) rfl)) pss_nil)
      (pss_cons (ps_fld (pv 0) (pe_fld (pv 0) rfl) rfl)
      (pss_cons (ps_fld (pv 0) pe_int rfl)
      (pss_one (ps_fld (pv 0) pe_bl rfl))))), ?_⟩
    refine st_Control_on_expiry ?_
    o_args
    refine fget he T.cl_Curve T.n_Curve_stalled rfl ?_
    unfold Cs.expired at k
    cases hst : x.st with
    | true =>
      rw [hst, if_pos rfl] at k
      rw [hst] at he
      o_args
      refine fget he T.cl_Curve T.n_Curve_unit rfl ?_
      o_args
      refine fstore he T.cl_Curve T.n_Curve_window (Nat.le_of_ble_eq_true rfl) rfl fun H1 s1 h1 => ?_
      o_args
      refine fstore h1 T.cl_Curve T.n_Curve_credit (Nat.le_of_ble_eq_true rfl) rfl fun H2 s2 h2 => ?_
      o_args
      refine fstore h2 T.cl_Curve T.n_Curve_stalled (Nat.le_of_ble_eq_true rfl) rfl fun H3 s3 h3 => ?_
      o_args
      exact k H3 ((s1.trans s2).trans s3) ⟨dx, h3⟩
    | false =>
      rw [hst, if_neg Bool.false_ne_true] at k
      rw [hst] at he
      o_args
      refine fget he T.cl_Curve T.n_Curve_unit rfl ?_
      o_args
      refine fstore he T.cl_Curve T.n_Curve_threshold (Nat.le_of_ble_eq_true rfl) rfl fun H0 s0 h0 => ?_
      o_args
      refine fget h0 T.cl_Curve T.n_Curve_unit rfl ?_
      o_args
      refine fstore h0 T.cl_Curve T.n_Curve_window (Nat.le_of_ble_eq_true rfl) rfl fun H1 s1 h1 => ?_
      o_args
      refine fstore h1 T.cl_Curve T.n_Curve_credit (Nat.le_of_ble_eq_true rfl) rfl fun H2 s2 h2 => ?_
      o_args
      refine fstore h2 T.cl_Curve T.n_Curve_stalled (Nat.le_of_ble_eq_true rfl) rfl fun H3 s3 h3 => ?_
      o_args
      exact k H3 (((s0.trans s1).trans s2).trans s3) ⟨dx, h3⟩
def sp_Control_on_sample : Sp := fun vs H Q _ => ∃ (e n : V), vs = [e, n] ∧ Q .non H
theorem ok_Control_on_sample (T : Txt K mg) : FnOk P w K mg base CX0 1 T.a_Control_on_sample T.fd_Control_on_sample ["self", "ticks"] (sp_Control_on_sample) := by
  have S := sc_Control_on_sample
  refine T.F_Control_on_sample.ok S (fun vs H Q E h => ?_) (fun cdv A outer s H vs Q E hr h => ?_)
  · obtain ⟨e, n, rfl, _⟩ := h
    rfl
  · obtain ⟨e, n, rfl, k⟩ := h
    refine ⟨_, (pss_one ps_pass), ?_⟩
    refine st_Control_on_sample ?_
    o_args
    exact k
def sp_Climb_step (C : Addr) : Sp := fun vs H Q _ => ∃ (e : Addr) (x : Cs), vs = [.ref e] ∧ CtAt C H e x ∧ x.Fit ∧ ∀ H', SameX e H H' → CtAt C H' e { x with w := min (x.w + x.u) 4194304 } → Q .non H'
theorem ok_Climb_step (T : Txt K mg) : FnOk P w K mg base CX0 2 T.a_Climb_step T.fd_Climb_step ["self"] (sp_Climb_step T.c_Curve) := by
  have S := sc_Climb_step
  refine T.F_Climb_step.ok S (fun vs H Q E h => ?_) (fun cdv A outer s H vs Q E hr h => ?_)
  · obtain ⟨e, x, rfl, _⟩ := h
    rfl
  · obtain ⟨e, x, rfl, hc, _, k⟩ := h
    obtain ⟨dx, he⟩ := id hc
    refine ⟨_, (pss_one (ps_expr (pe_meth (pv 0) T.cl_Curve T.m_Curve_set_window (ok_Control_set_window T) (hr.mono (by decide)) T.B_Control_set_window .nil pass0 (pa_cons (pe_op op_add (pe_fld (pv 0) rfl) (pe_fld (pv 0) rfl)) pa_nil)))), ?_⟩
    refine st_Climb_step ?_
    o_args
    refine ⟨e, dx, _, rfl, he, rfl, ?_⟩
    o_args
    refine fget he T.cl_Curve T.n_Curve_window rfl ?_
    o_args
    refine fget he T.cl_Curve T.n_Curve_unit rfl ?_
    o_args
    refine ⟨e, x, _, rfl, hc, fun H1 s1 h1 => ?_⟩
    o_args
    exact k H1 s1 h1
def sp_Climb_grow (K : PySem.W.Frag) (C Ce : Addr) : Sp := fun vs H Q E => ∃ (e : Addr) (v now : V) (x : Cs), vs = [.ref e, v, now] ∧ CtAt C H e x ∧
  ((∃ n, v = .int n ∧ 1 ≤ n ∧ n ≤ 65535 ∧ x.Fit ∧ 1 ≤ x.w ∧ ∀ H' c' w', SameX e H H' → Climbs x.up (x.c + n) x.w c' w' → CtAt C H' e { x with c := c', w := w' } → Q .non H') ∨ (Out K H v 1 65535 ∧ Err Ce "number" v H E))
theorem ok_Climb_grow (T : Txt K mg) : FnOk P w K mg base (L2.CX P w) 4 T.a_Climb_grow T.fd_Climb_grow ["self", "count", "now"] (sp_Climb_grow K T.c_Curve T.c_InvalidNumber) := by
  have S := sc_Climb_grow
  refine T.F_Climb_grow.okX S (fun vs H Q E h => ?_) (fun cdv A outer s H vs Q E hr h => ?_)
  · obtain ⟨e, v, now, x, rfl, _⟩ := h
    rfl
  · obtain ⟨e, v, now, x, rfl, ⟨dx, he⟩, h⟩ := h
    refine ⟨_, (pss_cons (ps_expr (pe_call (ok_require_new_bytes T) (hr.mono (by decide)) rfl T.g_require_new_bytes T.F_require_new_bytes.kp T.B_require_new_bytes .nil (passes_call (takes_of rfl rfl rfl rfl) (fun _ _ _ _ h => h)) (pa_cons (pv 1) pa_nil)))
      (pss_cons (ps_fldaug (pv 0) (pv 1) ip_add)
      (pss_one (ps_while (passes_of rfl) (pt_cmpR op_ge (pe_fld (pv 0) rfl) (pe_fld (pv 0) rfl) (nomark _)) (pss_cons (ps_fldaug (pv 0) (pe_fld (pv 0) rfl) ip_sub)
      (pss_one (ps_expr (pe_meth0 (pv 0) T.cl_Curve T.m_Curve_step (ok_Climb_step T) (hr.mono (by decide)) T.B_Climb_step .nil pass0)))))))), ?_⟩
    refine st_Climb_grow ?_
    o_args
    rcases h with ⟨n, rfl, n1, n2, u1, w1, k⟩ | ⟨ho, hE⟩
    · refine ⟨_, rfl, .inl ⟨n, rfl, n1, n2, ?_⟩⟩
      o_args
      refine fraise he T.cl_Curve T.n_Curve_credit (Nat.le_of_ble_eq_true rfl) rfl ?_
      o_args
      refine fput he (Nat.le_of_ble_eq_true rfl) rfl fun H1 s1 h1 => ?_
      o_args
      refine ⟨fun m σ H' => ∃ c w, m = c.toNat ∧ σ = [some (.ref e), some (.int n), some now] ∧ SameX e H H' ∧ 1 ≤ w ∧ (∀ c' w', Climbs x.up c w c' w' → Climbs x.up (x.c + n) x.w c' w') ∧
        CtAt T.c_Curve H' e { x with w := w, c := c }, ⟨_, x.c + n, x.w, rfl, rfl, s1, w1, fun _ _ z => z, ⟨dx, h1⟩⟩, ?_⟩
      rintro m σ H2 ⟨c, w, rfl, rfl, s2, w0, up, dy, h2⟩
      o_args
      refine fget h2 T.cl_Curve T.n_Curve_credit rfl ?_
      o_args
      refine fget h2 T.cl_Curve T.n_Curve_window rfl ?_
      o_args
      refine brD (fun q => ?_) (fun q => ?_)
      · refine ⟨fun σ' H' => σ' = [some (.ref e), some (.int n), some now] ∧ SameX e H H' ∧ CtAt T.c_Curve H' e { x with w := x.up w, c := c - w }, fun σ' H' ⟨hσ, sN, hN⟩ => ⟨_, ?_, c - w, x.up w, rfl, hσ, sN, x.up_pos u1 w0, fun c' w' r => up c' w' (.step q r), hN⟩, ?_⟩
        · omega
        o_args
        refine fraise h2 T.cl_Curve T.n_Curve_credit (Nat.le_of_ble_eq_true rfl) rfl ?_
        o_args
        refine fget h2 T.cl_Curve T.n_Curve_window rfl ?_
        o_args
        refine fput h2 (Nat.le_of_ble_eq_true rfl) rfl fun H3 s3 h3 => ?_
        o_args
        refine ⟨e, dy, _, rfl, h3, rfl, ?_⟩
        o_args
        refine ⟨e, { x with w := w, c := c - w }, rfl, ⟨dy, h3⟩, u1, fun H4 s4 h4 => ?_⟩
        o_args
        exact ⟨rfl, (s2.trans s3).trans s4, h4⟩
      · o_args
        exact k H2 _ _ s2 (up _ _ (.done (by omega))) ⟨dy, h2⟩
    · exact ⟨_, rfl, .inr ⟨ho, hE⟩⟩
/-! ### a curve grows -/
inductive Grown (x : Cs) (n : Int) (now : V) : Cs → Prop
  | climb {c' w' : Int} (h : x.b = none) (r : Climbs x.up (x.c + n) x.w c' w') : Grown x n now { x with c := c', w := w' }
  | curve {b m : Int} (h : x.b = some b) (e : now = .int m) : Grown x n now { x with w := min (min (x.w + n) (max x.w (x.goal b m))) 4194304 }
theorem Grown.det {x y z : Cs} {n : Int} {now : V} (a : Grown x n now y) (b : Grown x n now z) : y = z := by
  cases a with
  | climb h r => cases b with
    | climb _ r' =>
      obtain ⟨rfl, rfl⟩ := r.det r'
      rfl
    | curve h' _ => rw [h] at h'; cases h'
  | curve h e => cases b with
    | climb h' _ => rw [h] at h'; cases h'
    | curve h' e' =>
      rw [h] at h'
      cases h'
      rw [e] at e'
      cases e'
      rfl
def sp_Curve_grow (K : PySem.W.Frag) (C Ce : Addr) : Sp := fun vs H Q E => ∃ (e : Addr) (v now : V) (x : Cs), vs = [.ref e, v, now] ∧ CtAt C H e x ∧
  ((∃ n, v = .int n ∧ 1 ≤ n ∧ n ≤ 65535 ∧ x.Ready now ∧ ∀ H' y, SameX e H H' → Grown x n now y → CtAt C H' e y → Q .non H') ∨ (Out K H v 1 65535 ∧ Err Ce "number" v H E))
theorem ok_Curve_grow (T : Txt K mg) : FnOk P w K mg base (L2.CX P w) 5 T.a_Curve_grow T.fd_Curve_grow ["self", "count", "now"] (sp_Curve_grow K T.c_Curve T.c_InvalidNumber) := by
  have S := sc_Curve_grow
  refine T.F_Curve_grow.okX T.SK_Curve_grow.cell S (fun vs H Q E h => ?_) (fun A outer s H vs Q E hr h => ?_)
  · obtain ⟨e, v, now, x, rfl, _⟩ := h
    rfl
  · obtain ⟨e, v, now, x, rfl, hc, h⟩ := h
    obtain ⟨dx, he⟩ := id hc
    refine ⟨_, (pssa_cons (psa_of (ps_expr (pe_call (ok_require_new_bytes T) (hr.mono (by decide)) rfl T.g_require_new_bytes T.F_require_new_bytes.kp T.B_require_new_bytes .nil (passes_call (takes_of rfl rfl rfl rfl) (fun _ _ _ _ h => h)) (pa_cons (pv 1) pa_nil))))
      (pssa_cons (psa_if (pt_cmpR op_isN (pe_fld (pv 0) rfl) pe_non (nomark _)) (pssa_cons (psa_super (D := T.c_Curve) (m := "grow") (g := T.a_Climb_grow) T.SK_Curve_grow ⟨rfl, rfl, rfl, se_Curve_grow.1, se_Curve_grow.2.1, se_Curve_grow.2.2, rfl, T.b_super⟩ ((ok_Climb_grow T).raw T.B_Climb_grow .nil) (hr.mono (by decide)) (passes_call (takes_of rfl rfl rfl rfl) (fun _ _ _ _ h => h)) (pa_cons (pv 1) (pa_cons (pv 2) pa_nil)))
      (pssa_one (psa_of ps_retN))) (pssa_of pss_nil))
      (pssa_cons (psa_of (ps_set (i := 4) S.nd rfl (Or.inl rfl) (pe_op op_add (pe_fld (pv 0) rfl) (pe_op op_fdiv (pe_op op_mul (pe_fld (pv 0) rfl) (pe_op op_pow (pe_op op_sub (pe_op op_sub (pv 2) (pe_fld (pv 0) rfl)) (pe_fld (pv 0) rfl)) pe_int)) pe_int))))
      (pssa_one (psa_of (ps_expr (pe_meth (pv 0) T.cl_Curve T.m_Curve_set_window (ok_Control_set_window T) (hr.mono (by decide)) T.B_Control_set_window .nil pass0 (pa_cons (pe_callB (id := "min") (call_min2K rfl) (by rfl) T.b_min (by decide +kernel) (pa_cons (pe_op op_add (pe_fld (pv 0) rfl) (pv 1)) (pa_cons (pe_callB (id := "max") (call_max2K rfl) (by rfl) T.b_max (by decide +kernel) (pa_cons (pe_fld (pv 0) rfl) (pa_cons (pv 4) pa_nil))) pa_nil))) pa_nil)))))))), ?_⟩
    refine st_Curve_grow ?_
    o_args
    rcases h with ⟨n, rfl, n1, n2, rdy, k⟩ | ⟨ho, hE⟩
    · refine ⟨_, rfl, .inl ⟨n, rfl, n1, n2, ?_⟩⟩
      o_args
      refine fget he T.cl_Curve T.n_Curve_born rfl ?_
      cases hb : x.b with
      | none =>
        o_args
        refine ⟨e, _, dx, _, rfl, he, T.SC_Curve_Curve_grow, ?_⟩
        o_args
        refine ⟨e, .int n, now, x, rfl, hc, .inl ⟨n, rfl, n1, n2, rdy.fit, rdy.w1, fun H' c' w' s1 r h1 => ?_⟩⟩
        o_args
        exact k H' _ s1 (.climb hb r) h1
      | some b =>
        obtain ⟨m, rfl, m1, m2⟩ := rdy.near b hb
        have hf := rdy.fit
        unfold Cs.Fit at hf
        have u2 := rdy.u2
        o_args
        refine brDF (fun z => by cases z) ?_
        o_args
        refine fget he T.cl_Curve T.n_Curve_peak rfl ?_
        o_args
        refine fget he T.cl_Curve T.n_Curve_unit rfl ?_
        o_args
        refine fget he T.cl_Curve T.n_Curve_born rfl ?_
        rw [hb]
        dsimp only [bV]
        o_args
        refine fget he T.cl_Curve T.n_Curve_span rfl ?_
        o_args
        refine x_pow ⟨by decide, by decide, by omega⟩ ?_
        rw [pow3]
        refine x_mulL ⟨by omega, by omega⟩ ?_
        o_args
        refine ⟨e, dx, _, rfl, he, rfl, ?_⟩
        o_args
        refine fget he T.cl_Curve T.n_Curve_window rfl ?_
        o_args
        refine fget he T.cl_Curve T.n_Curve_window rfl ?_
        o_args
        refine ⟨e, x, _, rfl, hc, fun H1 s1 h1 => ?_⟩
        o_args
        exact k H1 _ s1 (.curve hb rfl) h1
    · exact ⟨_, rfl, .inr ⟨ho, hE⟩⟩
inductive Acked (x : Cs) (n f : Int) (now : V) : Cs → Prop
  | idle (h : 2 * (f + n) < x.w) : Acked x n f now { x with st := false }
  | start (h : ¬ 2 * (f + n) < x.w) (g : x.w < x.t) : Acked x n f now { x with st := false, w := min (x.w + min n x.u) 4194304 }
  | grow {y : Cs} (h : ¬ 2 * (f + n) < x.w) (g : ¬ x.w < x.t) (r : Grown { x with st := false } n now y) : Acked x n f now y
theorem Acked.det {x y z : Cs} {n f : Int} {now : V} (a : Acked x n f now y) (b : Acked x n f now z) : y = z := by
  cases a with
  | idle h => cases b with
    | idle _ => rfl
    | start h' _ => exact absurd h h'
    | grow h' _ _ => exact absurd h h'
  | start h g => cases b with
    | idle h' => exact absurd h' h
    | start _ _ => rfl
    | grow _ g' _ => exact absurd g g'
  | grow h g r => cases b with
    | idle h' => exact absurd h' h
    | start _ g' => exact absurd g' g
    | grow _ _ r' => exact r.det r'
theorem Acked.inv {x y : Cs} {n f : Int} {now : V} (a : Acked x n f now y) : (2 * (f + n) < x.w → y = { x with st := false }) ∧ (¬ 2 * (f + n) < x.w → x.w < x.t → y = { x with st := false, w := min (x.w + min n x.u) 4194304 }) ∧
    (¬ 2 * (f + n) < x.w → ¬ x.w < x.t → Grown { x with st := false } n now y) := by
  cases a with
  | idle h => exact ⟨fun _ => rfl, fun q => absurd h q, fun q => absurd h q⟩
  | start h g => exact ⟨fun q => absurd q h, fun _ _ => rfl, fun _ q => absurd g q⟩
  | grow h g r => exact ⟨fun q => absurd q h, fun _ q => absurd q g, fun _ _ => r⟩
def sp_Control_on_ack (K : PySem.W.Frag) (C Ce : Addr) : Sp := fun vs H Q E => ∃ (e : Addr) (v now : V) (f : Int) (x : Cs), vs = [.ref e, v, .int f, now] ∧ CtAt C H e x ∧
  ((∃ n, v = .int n ∧ 1 ≤ n ∧ n ≤ 65535 ∧ x.Ready now ∧ ∀ H' y, SameX e H H' → Acked x n f now y → CtAt C H' e y → Q .non H') ∨ (Out K H v 1 65535 ∧ Err Ce "number" v H E))
theorem ok_Control_on_ack (T : Txt K mg) : FnOk P w K mg base (L2.CX P w) 6 T.a_Control_on_ack T.fd_Control_on_ack ["self", "count", "flight", "now"] (sp_Control_on_ack K T.c_Curve T.c_InvalidNumber) := by
  have S := sc_Control_on_ack
  refine T.F_Control_on_ack.okX S (fun vs H Q E h => ?_) (fun cdv A outer s H vs Q E hr h => ?_)
  · obtain ⟨e, v, now, f, x, rfl, _⟩ := h
    rfl
  · obtain ⟨e, v, now, f, x, rfl, ⟨dx, he⟩, h⟩ := h
    refine ⟨_, (pss_cons (ps_expr (pe_call (ok_require_new_bytes T) (hr.mono (by decide)) rfl T.g_require_new_bytes T.F_require_new_bytes.kp T.B_require_new_bytes .nil (passes_call (takes_of rfl rfl rfl rfl) (fun _ _ _ _ h => h)) (pa_cons (pv 1) pa_nil)))
      (pss_cons (ps_fld (pv 0) pe_bl rfl)
      (pss_cons (ps_if (pt_cmpR op_lt (pe_op op_mul pe_int (pe_op op_add (pv 2) (pv 1))) (pe_fld (pv 0) rfl) (nomark _)) (pss_one ps_retN) pss_nil)
      (pss_one (ps_if (pt_val (pe_prop (pv 0) T.cl_Curve T.PR_Curve_starting (ok_Control_starting T) (hr.mono (by decide)) T.B_Control_starting .nil pass0 rfl)) (pss_one (ps_expr (pe_meth (pv 0) T.cl_Curve T.m_Curve_set_window (ok_Control_set_window T) (hr.mono (by decide)) T.B_Control_set_window .nil pass0 (pa_cons (pe_op op_add (pe_fld (pv 0) rfl) (pe_callB (id := "min") (call_min2K rfl) (by rfl) T.b_min (by decide +kernel) (pa_cons (pv 1) (pa_cons (pe_fld (pv 0) rfl) pa_nil)))) pa_nil)))) (pss_one (ps_expr (pe_meth (pv 0) T.cl_Curve T.m_Curve_grow (ok_Curve_grow T) (hr.mono (by decide)) T.B_Curve_grow .nil (passes_call (takes_of rfl rfl rfl rfl) (fun _ _ _ _ h => h)) (pa_cons (pv 1) (pa_cons (pv 3) pa_nil)))))))))), ?_⟩
    refine st_Control_on_ack ?_
    o_args
    rcases h with ⟨n, rfl, n1, n2, rdy, k⟩ | ⟨ho, hE⟩
    · refine ⟨_, rfl, .inl ⟨n, rfl, n1, n2, ?_⟩⟩
      o_args
      refine fstore he T.cl_Curve T.n_Curve_stalled (Nat.le_of_ble_eq_true rfl) rfl fun H1 s1 h1 => ?_
      o_args
      refine fget h1 T.cl_Curve T.n_Curve_window rfl ?_
      o_args
      refine brD (fun q => ?_) (fun q => ?_)
      · o_args
        exact k H1 _ s1 (.idle q) ⟨dx, h1⟩
      o_args
      refine ⟨e, dx, _, rfl, h1, e, { x with st := false }, rfl, ⟨dx, h1⟩, ?_⟩
      o_args
      refine brD (fun q' => ?_) (fun q' => ?_)
      · o_args
        refine ⟨e, dx, _, rfl, h1, rfl, ?_⟩
        o_args
        refine fget h1 T.cl_Curve T.n_Curve_window rfl ?_
        o_args
        refine fget h1 T.cl_Curve T.n_Curve_unit rfl ?_
        o_args
        refine ⟨e, { x with st := false }, _, rfl, ⟨dx, h1⟩, fun H2 s2 h2 => ?_⟩
        o_args
        exact k H2 _ (s1.trans s2) (.start q q') h2
      · o_args
        refine ⟨e, dx, _, rfl, h1, rfl, ?_⟩
        o_args
        refine ⟨e, _, _, { x with st := false }, rfl, ⟨dx, h1⟩, .inl ⟨n, rfl, n1, n2, rdy.st, fun H2 y s2 r h2 => ?_⟩⟩
        o_args
        exact k H2 _ (s1.trans s2) (.grow q q' r) h2
    · exact ⟨_, rfl, .inr ⟨ho, hE⟩⟩
def sp_Climb_on_ack (K : PySem.W.Frag) (C Ce : Addr) : Sp := sp_Control_on_ack K C Ce
theorem ok_Climb_on_ack (T : Txt K mg) : FnOk P w K mg base (L2.CX P w) 7 T.a_Climb_on_ack T.fd_Climb_on_ack ["self", "count", "flight", "now"] (sp_Climb_on_ack K T.c_Curve T.c_InvalidNumber) := by
  have S := sc_Climb_on_ack
  refine T.F_Climb_on_ack.okX T.SK_Climb_on_ack.cell S (fun vs H Q E h => ?_) (fun A outer s H vs Q E hr h => ?_)
  · obtain ⟨e, v, now, f, x, rfl, _⟩ := h
    rfl
  · obtain ⟨e, v, now, f, x, rfl, hc, h⟩ := h
    obtain ⟨dx, he⟩ := id hc
    refine ⟨_, (pssa_one (psa_super (D := T.c_Climb) (m := "on_ack") (g := T.a_Control_on_ack) T.SK_Climb_on_ack ⟨rfl, rfl, rfl, se_Climb_on_ack.1, se_Climb_on_ack.2.1, se_Climb_on_ack.2.2, rfl, T.b_super⟩ ((ok_Control_on_ack T).raw T.B_Control_on_ack .nil) (hr.mono (by decide)) (passes_call (takes_of rfl rfl rfl rfl) (fun _ _ _ _ h => h)) (pa_cons (pv 1) (pa_cons (pv 2) (pa_cons (pv 3) pa_nil))))), ?_⟩
    refine st_Climb_on_ack ?_
    o_args
    refine ⟨e, _, dx, _, rfl, he, T.SC_Curve_Climb_on_ack, ?_⟩
    o_args
    refine ⟨e, v, now, f, x, rfl, hc, ?_⟩
    rcases h with ⟨n, rfl, n1, n2, rdy, k⟩ | ⟨ho, hE⟩
    · exact .inl ⟨n, rfl, n1, n2, rdy, fun H' y s1 a h1 => k H' y s1 a h1⟩
    · exact .inr ⟨ho, hE⟩
def sp_Climb_on_expiry (C : Addr) : Sp := sp_Control_on_expiry C
theorem ok_Climb_on_expiry (T : Txt K mg) : FnOk P w K mg base (L2.CX P w) 2 T.a_Climb_on_expiry T.fd_Climb_on_expiry ["self", "flight", "now"] (sp_Climb_on_expiry T.c_Curve) := by
  have S := sc_Climb_on_expiry
  refine T.F_Climb_on_expiry.okX T.SK_Climb_on_expiry.cell S (fun vs H Q E h => ?_) (fun A outer s H vs Q E hr h => ?_)
  · obtain ⟨e, x, f, n, rfl, _⟩ := h
    rfl
  · obtain ⟨e, x, f, n, rfl, hc, f0, k⟩ := h
    obtain ⟨dx, he⟩ := id hc
    refine ⟨_, (pssa_one (psa_super (D := T.c_Climb) (m := "on_expiry") (g := T.a_Control_on_expiry) T.SK_Climb_on_expiry ⟨rfl, rfl, rfl, se_Climb_on_expiry.1, se_Climb_on_expiry.2.1, se_Climb_on_expiry.2.2, rfl, T.b_super⟩ ((ok_Control_on_expiry T).raw T.B_Control_on_expiry .nil) (hr.mono (by decide)) pass0 (pa_cons (pv 1) (pa_cons (pv 2) pa_nil)))), ?_⟩
    refine st_Climb_on_expiry ?_
    o_args
    refine ⟨e, _, dx, _, rfl, he, T.SC_Curve_Climb_on_expiry, ?_⟩
    o_args
    exact ⟨e, x, f, n, rfl, hc, f0, k⟩
def sp_Climb_on_sample (C : Addr) : Sp := fun vs H Q _ => ∃ (e : Addr) (n : V) (x : Cs), vs = [.ref e, n] ∧ CtAt C H e x ∧ Q .non H
theorem ok_Climb_on_sample (T : Txt K mg) : FnOk P w K mg base (L2.CX P w) 2 T.a_Climb_on_sample T.fd_Climb_on_sample ["self", "ticks"] (sp_Climb_on_sample T.c_Curve) := by
  have S := sc_Climb_on_sample
  refine T.F_Climb_on_sample.okX T.SK_Climb_on_sample.cell S (fun vs H Q E h => ?_) (fun A outer s H vs Q E hr h => ?_)
  · obtain ⟨e, n, x, rfl, _⟩ := h
    rfl
  · obtain ⟨e, n, x, rfl, hc, k⟩ := h
    obtain ⟨dx, he⟩ := id hc
    refine ⟨_, (pssa_one (psa_super (D := T.c_Climb) (m := "on_sample") (g := T.a_Control_on_sample) T.SK_Climb_on_sample ⟨rfl, rfl, rfl, se_Climb_on_sample.1, se_Climb_on_sample.2.1, se_Climb_on_sample.2.2, rfl, T.b_super⟩ ((ok_Control_on_sample T).raw T.B_Control_on_sample .nil) (hr.mono (by decide)) pass0 (pa_cons (pv 1) pa_nil))), ?_⟩
    refine st_Climb_on_sample ?_
    o_args
    refine ⟨e, _, dx, _, rfl, he, T.SC_Curve_Climb_on_sample, ?_⟩
    o_args
    exact ⟨_, n, rfl, k⟩
/-! ### the other methods of a curve -/
def sp_Curve_on_ack (K : PySem.W.Frag) (C Ce : Addr) : Sp := sp_Control_on_ack K C Ce
theorem ok_Curve_on_ack (T : Txt K mg) : FnOk P w K mg base (L2.CX P w) 8 T.a_Curve_on_ack T.fd_Curve_on_ack ["self", "count", "flight", "now"] (sp_Curve_on_ack K T.c_Curve T.c_InvalidNumber) := by
  have S := sc_Curve_on_ack
  refine T.F_Curve_on_ack.okX T.SK_Curve_on_ack.cell S (fun vs H Q E h => ?_) (fun A outer s H vs Q E hr h => ?_)
  · obtain ⟨e, v, now, f, x, rfl, _⟩ := h
    rfl
  · obtain ⟨e, v, now, f, x, rfl, hc, h⟩ := h
    obtain ⟨dx, he⟩ := id hc
    refine ⟨_, (pssa_one (psa_super (D := T.c_Curve) (m := "on_ack") (g := T.a_Climb_on_ack) T.SK_Curve_on_ack ⟨rfl, rfl, rfl, se_Curve_on_ack.1, se_Curve_on_ack.2.1, se_Curve_on_ack.2.2, rfl, T.b_super⟩ ((ok_Climb_on_ack T).raw T.B_Climb_on_ack .nil) (hr.mono (by decide)) (passes_call (takes_of rfl rfl rfl rfl) (fun _ _ _ _ h => h)) (pa_cons (pv 1) (pa_cons (pv 2) (pa_cons (pv 3) pa_nil))))), ?_⟩
    refine st_Curve_on_ack ?_
    o_args
    refine ⟨e, _, dx, _, rfl, he, T.SC_Curve_Curve_on_ack, ?_⟩
    o_args
    refine ⟨e, v, now, f, x, rfl, hc, ?_⟩
    rcases h with ⟨n, rfl, n1, n2, rdy, k⟩ | ⟨ho, hE⟩
    · exact .inl ⟨n, rfl, n1, n2, rdy, fun H' y s1 a h1 => k H' y s1 a h1⟩
    · exact .inr ⟨ho, hE⟩
def sp_Curve_span_to (C : Addr) : Sp := fun vs H Q _ => ∃ (e : Addr) (x : Cs) (p : Int), vs = [.ref e, .int p] ∧ CtAt C H e x ∧ 1 ≤ x.u ∧ x.u ≤ 65535 ∧ p - x.w ≤ 4194304 ∧ ∀ s, Span x.u (64 * (p - x.w)) s → Q (.int s) H
theorem ok_Curve_span_to (T : Txt K mg) : FnOk P w K mg base CX0 1 T.a_Curve_span_to T.fd_Curve_span_to ["self", "peak"] (sp_Curve_span_to T.c_Curve) := by
  have S := sc_Curve_span_to
  refine T.F_Curve_span_to.ok S (fun vs H Q E h => ?_) (fun cdv A outer s H vs Q E hr h => ?_)
  · obtain ⟨e, x, p, rfl, _⟩ := h
    rfl
  · obtain ⟨e, x, p, rfl, ⟨dx, he⟩, u1, u2, pw, k⟩ := h
    refine ⟨_, (pss_cons (ps_set (i := 2) S.nd rfl (Or.inl rfl) pe_int)
      (pss_cons (ps_while PassesOwn.never (pt_cmpR op_lt (pe_op op_mul (pe_fld (pv 0) rfl) (pe_op op_pow (pv 2) pe_int)) (pe_op op_mul pe_int (pe_op op_sub (pv 1) (pe_fld (pv 0) rfl))) (nomark _)) (pss_one (ps_aug (i := 2) S.nd rfl (.inl rfl) pe_int ip_add)))
      (pss_one (ps_ret (pv 2))))), ?_⟩
    refine st_Curve_span_to ?_
    o_args
    refine ⟨fun m σ H' => ∃ s : Int, m = (64 * (p - x.w) - s).toNat ∧ σ = [some (.ref e), some (.int p), some (.int s)] ∧ H' = H ∧ 0 ≤ s ∧ (s = 0 ∨ x.u * ((s - 1) * (s - 1) * (s - 1)) < 64 * (p - x.w)), ⟨_, 0, rfl, rfl, rfl, by omega, .inl rfl⟩, ?_⟩
    rintro m σ H1 ⟨s, rfl, rfl, rfl, s0, sl⟩
    have sb : s ≤ 2 ^ 30 := by
      rcases sl with z | z
      · omega
      · by_cases q : s = 0
        · omega
        · have := cube_ge (s := s - 1) (u := x.u) (by omega) u1
          omega
    o_args
    refine fget he T.cl_Curve T.n_Curve_unit rfl ?_
    o_args
    refine x_pow ⟨by decide, by decide, by omega⟩ ?_
    rw [pow3]
    refine x_mulL ⟨by omega, by omega⟩ ?_
    o_args
    refine fget he T.cl_Curve T.n_Curve_window rfl ?_
    o_args
    refine brD (fun q => ?_) (fun q => ?_)
    · have := cube_ge (s := s) (u := x.u) s0 u1
      refine ⟨fun σ' H' => σ' = [some (.ref e), some (.int p), some (.int (s + 1))] ∧ H' = H1, fun σ' H' ⟨hσ, hh⟩ => ⟨_, ?_, s + 1, rfl, hσ, hh, by omega, .inr (by rw [show s + 1 - 1 = s by omega]; exact q)⟩, ?_⟩
      · omega
      o_args
      refine ⟨_, rfl, _, _, rfl, rfl, ?_⟩
      exact ⟨rfl, rfl⟩
    · o_args
      exact k s ⟨s0, by omega, sl⟩
def Cs.fell (x : Cs) (m s : Int) : Cs := { x with p := x.w, t := max (x.w * 7 / 10) (2 * x.u), w := max (x.w * 7 / 10) (2 * x.u), c := 0, b := some m, s := s }
def Cs.need (x : Cs) : Int := 64 * (x.w - max (x.w * 7 / 10) (2 * x.u))
def sp_Curve_on_loss (C : Addr) : Sp := fun vs H Q _ => ∃ (e : Addr) (x : Cs) (f : V) (m : Int), vs = [.ref e, f, .int m] ∧ CtAt C H e x ∧ 1 ≤ x.u ∧ x.u ≤ 65535 ∧ 1 ≤ x.w ∧ x.w ≤ 4194304 ∧ ∀ H' s, SameX e H H' → Span x.u x.need s → CtAt C H' e (x.fell m s) → Q .non H'
theorem ok_Curve_on_loss (T : Txt K mg) : FnOk P w K mg base CX0 2 T.a_Curve_on_loss T.fd_Curve_on_loss ["self", "flight", "now"] (sp_Curve_on_loss T.c_Curve) := by
  have S := sc_Curve_on_loss
  refine T.F_Curve_on_loss.ok S (fun vs H Q E h => ?_) (fun cdv A outer s H vs Q E hr h => ?_)
  · obtain ⟨e, x, f, m, rfl, _⟩ := h
    rfl
  · obtain ⟨e, x, f, m, rfl, ⟨dx, he⟩, u1, u2, w1, w2, k⟩ := h
    refine ⟨_, (pss_cons (ps_fld (pv 0) (pe_fld (pv 0) rfl) rfl)
      (pss_cons (ps_fld (pv 0) (pe_callB (id := "max") (call_max2K rfl) (by rfl) T.b_max (by decide +kernel) (pa_cons (pe_op op_fdiv (pe_op op_mul (pe_fld (pv 0) rfl) pe_int) pe_int) (pa_cons (pe_op op_mul pe_int (pe_fld (pv 0) rfl)) pa_nil))) rfl)
      (pss_cons (ps_fld (pv 0) (pe_fld (pv 0) rfl) rfl)
      (pss_cons (ps_fld (pv 0) pe_int rfl)
      (pss_cons (ps_fld (pv 0) (pv 2) rfl)
      (pss_one (ps_fld (pv 0) (pe_meth (pv 0) T.cl_Curve T.m_Curve_span_to (ok_Curve_span_to T) (hr.mono (by decide)) T.B_Curve_span_to .nil pass0 (pa_cons (pe_fld (pv 0) rfl) pa_nil)) rfl))))))), ?_⟩
    refine st_Curve_on_loss ?_
    o_args
    refine fget he T.cl_Curve T.n_Curve_window rfl ?_
    o_args
    refine fstore he T.cl_Curve T.n_Curve_peak (Nat.le_of_ble_eq_true rfl) rfl fun H1 s1 h1 => ?_
    o_args
    refine fget h1 T.cl_Curve T.n_Curve_window rfl ?_
    o_args
    refine fget h1 T.cl_Curve T.n_Curve_unit rfl ?_
    o_args
    refine fstore h1 T.cl_Curve T.n_Curve_threshold (Nat.le_of_ble_eq_true rfl) rfl fun H2 s2 h2 => ?_
    o_args
    refine fget h2 T.cl_Curve T.n_Curve_threshold rfl ?_
    o_args
    refine fstore h2 T.cl_Curve T.n_Curve_window (Nat.le_of_ble_eq_true rfl) rfl fun H3 s3 h3 => ?_
    o_args
    refine fstore h3 T.cl_Curve T.n_Curve_credit (Nat.le_of_ble_eq_true rfl) rfl fun H4 s4 h4 => ?_
    o_args
    refine fstore h4 T.cl_Curve T.n_Curve_born (Nat.le_of_ble_eq_true rfl) rfl fun H5 s5 h5 => ?_
    o_args
    refine ⟨e, dx, _, rfl, h5, rfl, ?_⟩
    o_args
    refine fget h5 T.cl_Curve T.n_Curve_peak rfl ?_
    o_args
    refine ⟨e, x.fell m x.s, x.w, rfl, ⟨dx, h5⟩, u1, u2, ?_, fun s hs => ?_⟩
    · show x.w - max (x.w * 7 / 10) (2 * x.u) ≤ 4194304
      omega
    o_args
    refine fstore h5 T.cl_Curve T.n_Curve_span (Nat.le_of_ble_eq_true rfl) rfl fun H6 s6 h6 => ?_
    o_args
    exact k H6 s (((((s1.trans s2).trans s3).trans s4).trans s5).trans s6) hs ⟨dx, h6⟩
def Cs.gone (x : Cs) (f : Int) : Cs := ({ x with p := x.w, b := none } : Cs).expired f
def sp_Curve_on_expiry (C : Addr) : Sp := fun vs H Q _ => ∃ (e : Addr) (x : Cs) (f : Int) (n : V), vs = [.ref e, .int f, n] ∧ CtAt C H e x ∧ 0 ≤ f ∧ ∀ H', SameX e H H' → CtAt C H' e (x.gone f) → Q .non H'
theorem ok_Curve_on_expiry (T : Txt K mg) : FnOk P w K mg base (L2.CX P w) 3 T.a_Curve_on_expiry T.fd_Curve_on_expiry ["self", "flight", "now"] (sp_Curve_on_expiry T.c_Curve) := by
  have S := sc_Curve_on_expiry
  refine T.F_Curve_on_expiry.okX T.SK_Curve_on_expiry.cell S (fun vs H Q E h => ?_) (fun A outer s H vs Q E hr h => ?_)
  · obtain ⟨e, x, f, n, rfl, _⟩ := h
    rfl
  · obtain ⟨e, x, f, n, rfl, hc, f0, k⟩ := h
    obtain ⟨dx, he⟩ := id hc
    refine ⟨_, (pssa_cons (psa_of (ps_fld (pv 0) (pe_fld (pv 0) rfl) rfl))
      (pssa_cons (psa_of (ps_fld (pv 0) pe_non rfl))
      (pssa_one (psa_super (D := T.c_Curve) (m := "on_expiry") (g := T.a_Climb_on_expiry) T.SK_Curve_on_expiry ⟨rfl, rfl, rfl, se_Curve_on_expiry.1, se_Curve_on_expiry.2.1, se_Curve_on_expiry.2.2, rfl, T.b_super⟩ ((ok_Climb_on_expiry T).raw T.B_Climb_on_expiry .nil) (hr.mono (by decide)) (passes_call (takes_of rfl rfl rfl rfl) (fun _ _ _ _ h => h)) (pa_cons (pv 1) (pa_cons (pv 2) pa_nil)))))), ?_⟩
    refine st_Curve_on_expiry ?_
    o_args
    refine fget he T.cl_Curve T.n_Curve_window rfl ?_
    o_args
    refine fstore he T.cl_Curve T.n_Curve_peak (Nat.le_of_ble_eq_true rfl) rfl fun H1 s1 h1 => ?_
    o_args
    refine fstore h1 T.cl_Curve T.n_Curve_born (Nat.le_of_ble_eq_true rfl) rfl fun H2 s2 h2 => ?_
    o_args
    refine ⟨e, _, dx, _, rfl, h2, T.SC_Curve_Curve_on_expiry, ?_⟩
    o_args
    exact ⟨e, { x with p := x.w, b := none }, f, n, rfl, ⟨dx, h2⟩, f0, fun H3 s3 h3 => k H3 ((s1.trans s2).trans s3) h3⟩
def sp_Curve_on_sample (C : Addr) : Sp := fun vs H Q _ => ∃ (e : Addr) (n : V) (x : Cs), vs = [.ref e, n] ∧ CtAt C H e x ∧ Q .non H
theorem ok_Curve_on_sample (T : Txt K mg) : FnOk P w K mg base (L2.CX P w) 3 T.a_Curve_on_sample T.fd_Curve_on_sample ["self", "ticks"] (sp_Curve_on_sample T.c_Curve) := by
  have S := sc_Curve_on_sample
  refine T.F_Curve_on_sample.okX T.SK_Curve_on_sample.cell S (fun vs H Q E h => ?_) (fun A outer s H vs Q E hr h => ?_)
  · obtain ⟨e, n, x, rfl, _⟩ := h
    rfl
  · obtain ⟨e, n, x, rfl, hc, k⟩ := h
    obtain ⟨dx, he⟩ := id hc
    refine ⟨_, (pssa_one (psa_super (D := T.c_Curve) (m := "on_sample") (g := T.a_Climb_on_sample) T.SK_Curve_on_sample ⟨rfl, rfl, rfl, se_Curve_on_sample.1, se_Curve_on_sample.2.1, se_Curve_on_sample.2.2, rfl, T.b_super⟩ ((ok_Climb_on_sample T).raw T.B_Climb_on_sample .nil) (hr.mono (by decide)) (passes_call (takes_of rfl rfl rfl rfl) (fun _ _ _ _ h => h)) (pa_cons (pv 1) pa_nil))), ?_⟩
    refine st_Curve_on_sample ?_
    o_args
    refine ⟨e, _, dx, _, rfl, he, T.SC_Curve_Curve_on_sample, ?_⟩
    o_args
    exact ⟨e, n, x, rfl, hc, k⟩
def sp_Curve_init_ (K : PySem.W.Frag) (C Ce : Addr) : Sp := fun vs H Q E => ∃ (p dx : Addr) (v : V), vs = [.ref p, v] ∧ H p = some (.ins C dx []) ∧
  ((∃ u, v = .int u ∧ 1 ≤ u ∧ u ≤ 65535 ∧ ∀ H', SameX p H H' → CtAt C H' p ⟨u, 2 * u, 4194304, 0, false, 0, 0, none⟩ → Q .non H') ∨ (Out K H v 1 65535 ∧ Err Ce "setting" (.str "unit") H E))
theorem ok_Curve_init_ (T : Txt K mg) : FnOk P w K mg base (L2.CX P w) 4 T.a_Curve_init_ T.fd_Curve_init_ ["self", "unit"] (sp_Curve_init_ K T.c_Curve T.c_InvalidSetting) := by
  have S := sc_Curve_init_
  refine T.F_Curve_init_.okX T.SK_Curve_init_.cell S (fun vs H Q E h => ?_) (fun A outer s H vs Q E hr h => ?_)
  · obtain ⟨p, dx, v, rfl, _⟩ := h
    rfl
  · obtain ⟨p, dx, v, rfl, hp, h⟩ := h
    refine ⟨_, (pssa_cons (psa_super (D := T.c_Curve) (m := "__init__") (g := T.a_Control_init_) T.SK_Curve_init_ ⟨rfl, rfl, rfl, se_Curve_init_.1, se_Curve_init_.2.1, se_Curve_init_.2.2, rfl, T.b_super⟩ ((ok_Control_init_ T).raw T.B_Control_init_ .nil) (hr.mono (by decide)) (passes_call (takes_of rfl rfl rfl rfl) (fun _ _ _ _ h => h)) (pa_cons (pv 1) pa_nil))
      (pssa_cons (psa_of (ps_fld (pv 0) pe_int rfl))
      (pssa_cons (psa_of (ps_fld (pv 0) pe_int rfl))
      (pssa_one (psa_of (ps_fld (pv 0) pe_non rfl)))))), ?_⟩
    refine st_Curve_init_ ?_
    o_args
    refine ⟨p, _, dx, _, rfl, hp, T.SC_Curve_Curve_init_, ?_⟩
    o_args
    rcases h with ⟨u, rfl, h1, h2, k⟩ | ⟨ho, hE⟩
    · refine ⟨p, dx, _, rfl, hp, .inl ⟨u, rfl, h1, h2, fun H0 s0 ⟨d0, h0⟩ => ?_⟩⟩
      o_args
      refine fstore h0 T.cl_Curve T.n_Curve_peak (Nat.le_of_ble_eq_true rfl) rfl fun H1 s1 h1 => ?_
      o_args
      refine fstore h1 T.cl_Curve T.n_Curve_span (Nat.le_of_ble_eq_true rfl) rfl fun H2 s2 h2 => ?_
      o_args
      refine fstore h2 T.cl_Curve T.n_Curve_born (Nat.le_of_ble_eq_true rfl) rfl fun H3 s3 h3 => ?_
      o_args
      exact k H3 (((s0.trans s1).trans s2).trans s3) ⟨d0, h3⟩
    · exact ⟨p, dx, _, rfl, hp, .inr ⟨ho, hE⟩⟩
end NV
namespace ND

/-! ### the state of a delay -/
structure Cs where
  u : Int
  w : Int
  t : Int
  c : Int
  st : Bool
  l : Int
  la : Int
  sm : Int
def sur (l la w : Int) : Int := if la = 0 then 0 else w * (la - l) / la
def rise (u l la w : Int) : Int := if sur l la w < 2 * u then min (w + u) 4194304 else if sur l la w > 4 * u then max (2 * u) (w - u) else w
def Cs.up (x : Cs) : Int → Int := rise x.u x.l x.la
def Cs.Fit (x : Cs) : Prop := 1 ≤ x.u ∧ 0 ≤ x.l ∧ x.l < 2 ^ 62 ∧ 0 ≤ x.la ∧ x.la < 2 ^ 62
theorem Cs.up_pos (x : Cs) {w : Int} (h : x.Fit) (hw : 1 ≤ w) : 1 ≤ x.up w := by
  have := h.1
  show 1 ≤ rise x.u x.l x.la w
  unfold rise
  split
  · omega
  · split
    · omega
    · exact hw
/-! ### a control, of the class Delay -/
theorem cval {K : PySem.W.Frag} {C : Addr} {mc : Value} {f : Str} {v : V} {σ : L2.St} {H : Hp} {Q : VK} (R : ClX.CRead K C mc) (V : ∃ u, ClX.CVal K C mc f v u) (q : Q v H) : ClX.tCVal K (tC (.ref C)) f σ H Q :=
  V.elim fun u h => ⟨C, mc, v, u, rfl, R, h, q⟩
def CtAt (C : Addr) (H : Hp) (e : Addr) (x : Cs) : Prop := ∃ dx, H e = some (.ins C dx [("unit", .int x.u), ("window", .int x.w), ("threshold", .int x.t), ("credit", .int x.c), ("stalled", .bl x.st), ("least", .int x.l), ("latest", .int x.la), ("samples", .int x.sm)])
theorem CtAt.same {C : Addr} {H H' : Hp} {e : Addr} {x : Cs} (h : CtAt C H e x) (s : Same H H') : CtAt C H' e x := h.elim fun dx h => ⟨dx, s _ _ h⟩
theorem CtAt.on {C : Addr} {H H' : Hp} {e b : Addr} {x : Cs} (h : CtAt C H e x) (s : SameX b H H') (n : e ≠ b) : CtAt C H' e x := h.elim fun dx h => ⟨dx, s _ _ n h⟩
def sp_require_new_bytes (K : PySem.W.Frag) (Ce : Addr) : Sp := fun vs H Q E => ∃ (x : V), vs = [x] ∧ ((∃ n, x = .int n ∧ 1 ≤ n ∧ n ≤ 65535 ∧ Q .non H) ∨ (Out K H x 1 65535 ∧ Err Ce "number" x H E))
theorem ok_require_new_bytes (T : Txt K mg) : FnOk P w K mg base (L2.CX P w) 3 T.a_require_new_bytes T.fd_require_new_bytes ["count"] (sp_require_new_bytes K T.c_InvalidNumber) := by
  have S := sc_require_new_bytes
  refine T.F_require_new_bytes.okX S (fun vs H Q E h => ?_) (fun cdv A outer s H vs Q E hr h => ?_)
  · obtain ⟨x, rfl, _⟩ := h
    rfl
  · obtain ⟨x, rfl, h⟩ := h
    refine ⟨_, (pss_one (ps_if (pt_not (pt_val (pe_call (ok_is_between T) (hr.mono (by decide)) rfl T.g_is_between T.F_is_between.kp T.B_is_between .nil pass0 (pa_cons (pv 0) (pa_cons pe_int (pa_cons pe_int pa_nil)))))) (pss_one (ps_raise rfl (takes_of rfl rfl rfl rfl) (pmk_oex T.X_InvalidNumber.o T.X_InvalidNumber.i T.X_InvalidNumber.t (ok_InvalidNumber_init_ T) (hr.mono (by decide)) T.B_InvalidNumber_init_ .nil pass0 rfl T.X_InvalidNumber.g (pa_cons (pv 0) pa_nil)))) pss_nil)), ?_⟩
    refine st_require_new_bytes ?_
    o_args
    rcases h with ⟨n, rfl, h1, h2, k⟩ | ⟨ho, hE⟩
    · refine in_between h1 h2 ?_
      o_args
      exact k
    · refine out_between ho ?_
      o_args
      exact ⟨_, rfl, mkO_of T.X_InvalidNumber.o T.nX_InvalidNumber fun d H1 nd ss hx => hE d H1 ss hx⟩
def Ct5 (C : Addr) (H : Hp) (e : Addr) (u : Int) : Prop := ∃ dx, H e = some (.ins C dx [("unit", .int u), ("window", .int (2 * u)), ("threshold", .int 4194304), ("credit", .int 0), ("stalled", .bl false)])
def sp_Control_init_ (K : PySem.W.Frag) (C Ce : Addr) : Sp := fun vs H Q E => ∃ (p dx : Addr) (v : V), vs = [.ref p, v] ∧ H p = some (.ins C dx []) ∧
  ((∃ u, v = .int u ∧ 1 ≤ u ∧ u ≤ 65535 ∧ ∀ H', SameX p H H' → Ct5 C H' p u → Q .non H') ∨ (Out K H v 1 65535 ∧ Err Ce "setting" (.str "unit") H E))
theorem ok_Control_init_ (T : Txt K mg) : FnOk P w K mg base (L2.CX P w) 3 T.a_Control_init_ T.fd_Control_init_ ["self", "unit"] (sp_Control_init_ K T.c_Delay T.c_InvalidSetting) := by
  have S := sc_Control_init_
  refine T.F_Control_init_.okX S (fun vs H Q E h => ?_) (fun cdv A outer s H vs Q E hr h => ?_)
  · obtain ⟨p, dx, v, rfl, _⟩ := h
    rfl
  · obtain ⟨p, dx, v, rfl, hp, h⟩ := h
    refine ⟨_, (pss_cons (ps_if (pt_not (pt_val (pe_call (ok_is_between T) (hr.mono (by decide)) rfl T.g_is_between T.F_is_between.kp T.B_is_between .nil pass0 (pa_cons (pv 1) (pa_cons pe_int (pa_cons pe_int pa_nil)))))) (pss_one (ps_raise rfl (takes_of rfl rfl rfl rfl) (pmk_oex T.X_InvalidSetting.o T.X_InvalidSetting.i T.X_InvalidSetting.t (ok_InvalidSetting_init_ T) (hr.mono (by decide)) T.B_InvalidSetting_init_ .nil pass0 rfl T.X_InvalidSetting.g (pa_cons pe_str pa_nil)))) pss_nil)
      (pss_cons (ps_fld (pv 0) (pv 1) rfl)
      (pss_cons (ps_fld (pv 0) (pe_op op_mul pe_int (pv 1)) rfl)
      (pss_cons (ps_fld (pv 0) (ClX.pe_cval (pe_glob (v := .ref T.c_Control) rfl T.g_Control rfl)) rfl)
      (pss_cons (ps_fld (pv 0) pe_int rfl)
      (pss_one (ps_fld (pv 0) pe_bl rfl))))))), ?_⟩
    refine st_Control_init_ ?_
    o_args
    rcases h with ⟨u, rfl, h1, h2, k⟩ | ⟨ho, hE⟩
    · refine in_between h1 h2 ?_
      o_args
      refine fstore hp T.cl_Delay T.n_Delay_unit (Nat.le_of_ble_eq_true rfl) rfl fun H1 s1 h1 => ?_
      o_args
      refine fstore h1 T.cl_Delay T.n_Delay_window (Nat.le_of_ble_eq_true rfl) rfl fun H2 s2 h2 => ?_
      o_args
      refine cval T.R_Control T.V_Control_GREATEST ?_
      o_args
      refine fstore h2 T.cl_Delay T.n_Delay_threshold (Nat.le_of_ble_eq_true rfl) rfl fun H3 s3 h3 => ?_
      o_args
      refine fstore h3 T.cl_Delay T.n_Delay_credit (Nat.le_of_ble_eq_true rfl) rfl fun H4 s4 h4 => ?_
      o_args
      refine fstore h4 T.cl_Delay T.n_Delay_stalled (Nat.le_of_ble_eq_true rfl) rfl fun H5 s5 h5 => ?_
      o_args
      exact k H5 ((((s1.trans s2).trans s3).trans s4).trans s5) ⟨dx, h5⟩
    · refine out_between ho ?_
      o_args
      exact mkO_of T.X_InvalidSetting.o T.nX_InvalidSetting fun d H1 nd ss hx => hE d H1 ss hx
def sp_Control_starting (C : Addr) : Sp := fun vs H Q _ => ∃ (e : Addr) (x : Cs), vs = [.ref e] ∧ CtAt C H e x ∧ Q (.bl (decide (x.w < x.t))) H
theorem ok_Control_starting (T : Txt K mg) : FnOk P w K mg base CX0 1 T.a_Control_starting T.fd_Control_starting ["self"] (sp_Control_starting T.c_Delay) := by
  have S := sc_Control_starting
  refine T.F_Control_starting.ok S (fun vs H Q E h => ?_) (fun cdv A outer s H vs Q E hr h => ?_)
  · obtain ⟨e, x, rfl, _⟩ := h
    rfl
  · obtain ⟨e, x, rfl, ⟨dx, he⟩, k⟩ := h
    refine ⟨_, (pss_one (ps_ret (pe_cmpR op_lt (pe_fld (pv 0) rfl) (pe_fld (pv 0) rfl) (nomark _)))), ?_⟩
    refine st_Control_starting ?_
    o_args
    refine fget he T.cl_Delay T.n_Delay_window rfl ?_
    o_args
    refine fget he T.cl_Delay T.n_Delay_threshold rfl ?_
    o_args
    exact k
def sp_Control_set_window (C : Addr) : Sp := fun vs H Q _ => ∃ (e : Addr) (x : Cs) (n : Int), vs = [.ref e, .int n] ∧ CtAt C H e x ∧ ∀ H', SameX e H H' → CtAt C H' e { x with w := min n 4194304 } → Q .non H'
theorem ok_Control_set_window (T : Txt K mg) : FnOk P w K mg base CX0 1 T.a_Control_set_window T.fd_Control_set_window ["self", "window"] (sp_Control_set_window T.c_Delay) := by
  have S := sc_Control_set_window
  refine T.F_Control_set_window.ok S (fun vs H Q E h => ?_) (fun cdv A outer s H vs Q E hr h => ?_)
  · obtain ⟨e, x, n, rfl, _⟩ := h
    rfl
  · obtain ⟨e, x, n, rfl, ⟨dx, he⟩, k⟩ := h
    refine ⟨_, (pss_one (ps_fld (pv 0) (pe_callB (id := "min") (call_min2K rfl) (by rfl) T.b_min (by decide +kernel) (pa_cons (pv 1) (pa_cons (ClX.pe_cval (pe_glob (v := .ref T.c_Control) rfl T.g_Control rfl)) pa_nil))) rfl)), ?_⟩
    refine st_Control_set_window ?_
    o_args
    refine cval T.R_Control T.V_Control_GREATEST ?_
    o_args
    refine fstore he T.cl_Delay T.n_Delay_window (Nat.le_of_ble_eq_true rfl) rfl fun H1 s1 h1 => ?_
    o_args
    exact k H1 s1 ⟨dx, h1⟩
def Cs.lost (x : Cs) (f : Int) : Cs := { x with t := max (f / 2) (2 * x.u), w := min (max (f / 2) (2 * x.u)) 4194304, c := 0 }
def sp_Control_on_loss (C : Addr) : Sp := fun vs H Q _ => ∃ (e : Addr) (x : Cs) (f : Int) (n : V), vs = [.ref e, .int f, n] ∧ CtAt C H e x ∧ 0 ≤ f ∧ ∀ H', SameX e H H' → CtAt C H' e (x.lost f) → Q .non H'
theorem ok_Control_on_loss (T : Txt K mg) : FnOk P w K mg base CX0 2 T.a_Control_on_loss T.fd_Control_on_loss ["self", "flight", "now"] (sp_Control_on_loss T.c_Delay) := by
  have S := sc_Control_on_loss
  refine T.F_Control_on_loss.ok S (fun vs H Q E h => ?_) (fun cdv A outer s H vs Q E hr h => ?_)
  · obtain ⟨e, x, f, n, rfl, _⟩ := h
    rfl
  · obtain ⟨e, x, f, n, rfl, ⟨dx, he⟩, f0, k⟩ := h
    refine ⟨_, (pss_cons (ps_fld (pv 0) (pe_callB (id := "max") (call_max2K rfl) (by rfl) T.b_max (by decide +kernel) (pa_cons (pe_op op_fdiv (pv 1) pe_int) (pa_cons (pe_op op_mul pe_int (pe_fld (pv 0) rfl)) pa_nil))) rfl)
      (pss_cons (ps_expr (pe_meth (pv 0) T.cl_Delay T.m_Delay_set_window (ok_Control_set_window T) (hr.mono (by decide)) T.B_Control_set_window .nil pass0 (pa_cons (pe_fld (pv 0) rfl) pa_nil)))
      (pss_one (ps_fld (pv 0) pe_int rfl)))), ?_⟩
    refine st_Control_on_loss ?_
    o_args
    refine fget he T.cl_Delay T.n_Delay_unit rfl ?_
    o_args
    refine fstore he T.cl_Delay T.n_Delay_threshold (Nat.le_of_ble_eq_true rfl) rfl fun H1 s1 h1 => ?_
    o_args
    refine ⟨e, dx, _, rfl, h1, rfl, ?_⟩
    o_args
    refine fget h1 T.cl_Delay T.n_Delay_threshold rfl ?_
    o_args
    refine ⟨e, { x with t := max (f / 2) (2 * x.u) }, _, rfl, ⟨dx, h1⟩, fun H2 s2 ⟨dy, h2⟩ => ?_⟩
    o_args
    refine fstore h2 T.cl_Delay T.n_Delay_credit (Nat.le_of_ble_eq_true rfl) rfl fun H3 s3 h3 => ?_
    o_args
    exact k H3 ((s1.trans s2).trans s3) ⟨dy, h3⟩
def Cs.expired (x : Cs) (f : Int) : Cs := { x with t := if x.st = true then x.t else max (f / 2) (2 * x.u), w := x.u, c := 0, st := true }
def sp_Control_on_expiry (C : Addr) : Sp := fun vs H Q _ => ∃ (e : Addr) (x : Cs) (f : Int) (n : V), vs = [.ref e, .int f, n] ∧ CtAt C H e x ∧ 0 ≤ f ∧ ∀ H', SameX e H H' → CtAt C H' e (x.expired f) → Q .non H'
theorem ok_Control_on_expiry (T : Txt K mg) : FnOk P w K mg base CX0 1 T.a_Control_on_expiry T.fd_Control_on_expiry ["self", "flight", "now"] (sp_Control_on_expiry T.c_Delay) := by
  have S := sc_Control_on_expiry
  refine T.F_Control_on_expiry.ok S (fun vs H Q E h => ?_) (fun cdv A outer s H vs Q E hr h => ?_)
  · obtain ⟨e, x, f, n, rfl, _⟩ := h
    rfl
  · obtain ⟨e, x, f, n, rfl, ⟨dx, he⟩, f0, k⟩ := h
    refine ⟨_, (pss_cons (ps_if (pt_not (pt_val (pe_fld (pv 0) rfl))) (pss_one (ps_fld (pv 0) (pe_callB (id := "max") (call_max2K rfl) (by rfl) T.b_max (by decide +kernel) (pa_cons (pe_op op_fdiv (pv 1) pe_int) (pa_cons (pe_op op_mul pe_int (pe_fld (pv 0) rfl)) pa_nil))) rfl)) pss_nil)
      (pss_cons (ps_fld (pv 0) (pe_fld (pv 0) rfl) rfl)
      (pss_cons (ps_fld (pv 0) pe_int rfl)
      (pss_one (ps_fld (pv 0) pe_bl rfl))))), ?_⟩
    refine st_Control_on_expiry ?_
    o_args
    refine fget he T.cl_Delay T.n_Delay_stalled rfl ?_
    unfold Cs.expired at k
    cases hst : x.st with
    | true =>
      rw [hst, if_pos rfl] at k
      rw [hst] at he
      o_args
      refine fget he T.cl_Delay T.n_Delay_unit rfl ?_
      o_args
      refine fstore he T.cl_Delay T.n_Delay_window (Nat.le_of_ble_eq_true rfl) rfl fun H1 s1 h1 => ?_
      o_args
      refine fstore h1 T.cl_Delay T.n_Delay_credit (Nat.le_of_ble_eq_true rfl) rfl fun H2 s2 h2 => ?_
      o_args
      refine fstore h2 T.cl_Delay T.n_Delay_stalled (Nat.le_of_ble_eq_true rfl) rfl fun H3 s3 h3 => ?_
      o_args
      exact k H3 ((s1.trans s2).trans s3) ⟨dx, h3⟩
    | false =>
      rw [hst, if_neg Bool.false_ne_true] at k
      rw [hst] at he
      o_args
      refine fget he T.cl_Delay T.n_Delay_unit rfl ?_
      o_args
      refine fstore he T.cl_Delay T.n_Delay_threshold (Nat.le_of_ble_eq_true rfl) rfl fun H0 s0 h0 => ?_
      o_args
      refine fget h0 T.cl_Delay T.n_Delay_unit rfl ?_
      o_args
      refine fstore h0 T.cl_Delay T.n_Delay_window (Nat.le_of_ble_eq_true rfl) rfl fun H1 s1 h1 => ?_
      o_args
      refine fstore h1 T.cl_Delay T.n_Delay_credit (Nat.le_of_ble_eq_true rfl) rfl fun H2 s2 h2 => ?_
      o_args
      refine fstore h2 T.cl_Delay T.n_Delay_stalled (Nat.le_of_ble_eq_true rfl) rfl fun H3 s3 h3 => ?_
      o_args
      exact k H3 (((s0.trans s1).trans s2).trans s3) ⟨dx, h3⟩
def sp_Control_on_sample : Sp := fun vs H Q _ => ∃ (e n : V), vs = [e, n] ∧ Q .non H
theorem ok_Control_on_sample (T : Txt K mg) : FnOk P w K mg base CX0 1 T.a_Control_on_sample T.fd_Control_on_sample ["self", "ticks"] (sp_Control_on_sample) := by
  have S := sc_Control_on_sample
  refine T.F_Control_on_sample.ok S (fun vs H Q E h => ?_) (fun cdv A outer s H vs Q E hr h => ?_)
  · obtain ⟨e, n, rfl, _⟩ := h
    rfl
  · obtain ⟨e, n, rfl, k⟩ := h
    refine ⟨_, (pss_one ps_pass), ?_⟩
    refine st_Control_on_sample ?_
    o_args
    exact k
/-! ### a step of a delay -/
def sp_Delay_surplus (C : Addr) : Sp := fun vs H Q _ => ∃ (e : Addr) (x : Cs), vs = [.ref e] ∧ CtAt C H e x ∧ x.Fit ∧ Q (.int (sur x.l x.la x.w)) H
theorem ok_Delay_surplus (T : Txt K mg) : FnOk P w K mg base CX0 1 T.a_Delay_surplus T.fd_Delay_surplus ["self"] (sp_Delay_surplus T.c_Delay) := by
  have S := sc_Delay_surplus
  refine T.F_Delay_surplus.ok S (fun vs H Q E h => ?_) (fun cdv A outer s H vs Q E hr h => ?_)
  · obtain ⟨e, x, rfl, _⟩ := h
    rfl
  · obtain ⟨e, x, rfl, ⟨dx, he⟩, F, k⟩ := h
    obtain ⟨u1, l0, l1, m0, m1⟩ := F
    refine ⟨_, (pss_cons (ps_if (pt_cmpR op_eq (pe_fld (pv 0) rfl) pe_int (nomark _)) (pss_one (ps_ret pe_int)) pss_nil)
      (pss_one (ps_ret (pe_op op_fdivW (pe_op op_mul (pe_fld (pv 0) rfl) (pe_op op_sub (pe_fld (pv 0) rfl) (pe_fld (pv 0) rfl))) (pe_fld (pv 0) rfl))))), ?_⟩
    refine st_Delay_surplus ?_
    o_args
    refine fget he T.cl_Delay T.n_Delay_latest rfl ?_
    unfold sur at k
    o_args
    refine brD (fun q => ?_) (fun q => ?_)
    · rw [if_pos q] at k
      o_args
      exact k
    · rw [if_neg q] at k
      o_args
      refine fget he T.cl_Delay T.n_Delay_window rfl ?_
      o_args
      refine fget he T.cl_Delay T.n_Delay_latest rfl ?_
      o_args
      refine fget he T.cl_Delay T.n_Delay_least rfl ?_
      o_args
      refine x_mulR ⟨by omega, by omega⟩ ?_
      o_args
      refine fget he T.cl_Delay T.n_Delay_latest rfl ?_
      refine x_divW (by omega) (by omega) ?_
      o_args
      exact k
def sp_Delay_step (C : Addr) : Sp := fun vs H Q _ => ∃ (e : Addr) (x : Cs), vs = [.ref e] ∧ CtAt C H e x ∧ x.Fit ∧ ∀ H', SameX e H H' → CtAt C H' e { x with w := x.up x.w } → Q .non H'
theorem ok_Delay_step (T : Txt K mg) : FnOk P w K mg base CX0 2 T.a_Delay_step T.fd_Delay_step ["self"] (sp_Delay_step T.c_Delay) := by
  have S := sc_Delay_step
  refine T.F_Delay_step.ok S (fun vs H Q E h => ?_) (fun cdv A outer s H vs Q E hr h => ?_)
  · obtain ⟨e, x, rfl, _⟩ := h
    rfl
  · obtain ⟨e, x, rfl, hc, F, k⟩ := h
    obtain ⟨dx, he⟩ := id hc
    unfold Cs.up rise at k
    refine ⟨_, (pss_cons (ps_set (i := 1) S.nd rfl (Or.inl rfl) (pe_meth0 (pv 0) T.cl_Delay T.m_Delay_surplus (ok_Delay_surplus T) (hr.mono (by decide)) T.B_Delay_surplus .nil pass0))
      (pss_one (ps_if (pt_cmpR op_lt (pv 1) (pe_op op_mul pe_int (pe_fld (pv 0) rfl)) (nomark _)) (pss_one (ps_expr (pe_meth (pv 0) T.cl_Delay T.m_Delay_set_window (ok_Control_set_window T) (hr.mono (by decide)) T.B_Control_set_window .nil pass0 (pa_cons (pe_op op_add (pe_fld (pv 0) rfl) (pe_fld (pv 0) rfl)) pa_nil)))) (pss_one (ps_if (pt_cmpR op_gt (pv 1) (pe_op op_mul pe_int (pe_fld (pv 0) rfl)) (nomark _)) (pss_one (ps_fld (pv 0) (pe_callB (id := "max") (call_max2K rfl) (by rfl) T.b_max (by decide +kernel) (pa_cons (pe_op op_mul pe_int (pe_fld (pv 0) rfl)) (pa_cons (pe_op op_sub (pe_fld (pv 0) rfl) (pe_fld (pv 0) rfl)) pa_nil))) rfl)) pss_nil))))), ?_⟩
    refine st_Delay_step ?_
    o_args
    refine ⟨e, dx, _, rfl, he, rfl, ?_⟩
    o_args
    refine ⟨e, x, rfl, hc, F, ?_⟩
    generalize sur x.l x.la x.w = z at k
    o_args
    refine fget he T.cl_Delay T.n_Delay_unit rfl ?_
    o_args
    refine brD (fun q => ?_) (fun q => ?_)
    · rw [if_pos q] at k
      o_args
      refine ⟨e, dx, _, rfl, he, rfl, ?_⟩
      o_args
      refine fget he T.cl_Delay T.n_Delay_window rfl ?_
      o_args
      refine fget he T.cl_Delay T.n_Delay_unit rfl ?_
      o_args
      refine ⟨e, x, _, rfl, hc, fun H1 s1 h1 => ?_⟩
      o_args
      exact k H1 s1 h1
    rw [if_neg q] at k
    o_args
    refine fget he T.cl_Delay T.n_Delay_unit rfl ?_
    o_args
    refine brD (fun q => ?_) (fun q => ?_)
    · rw [if_pos q] at k
      o_args
      refine fget he T.cl_Delay T.n_Delay_unit rfl ?_
      o_args
      refine fget he T.cl_Delay T.n_Delay_window rfl ?_
      o_args
      refine fget he T.cl_Delay T.n_Delay_unit rfl ?_
      o_args
      refine fstore he T.cl_Delay T.n_Delay_window (Nat.le_of_ble_eq_true rfl) rfl fun H1 s1 h1 => ?_
      o_args
      exact k H1 s1 ⟨dx, h1⟩
    · rw [if_neg q] at k
      o_args
      exact k H SameX.refl hc
def sp_Climb_grow (K : PySem.W.Frag) (C Ce : Addr) : Sp := fun vs H Q E => ∃ (e : Addr) (v now : V) (x : Cs), vs = [.ref e, v, now] ∧ CtAt C H e x ∧
  ((∃ n, v = .int n ∧ 1 ≤ n ∧ n ≤ 65535 ∧ x.Fit ∧ 1 ≤ x.w ∧ ∀ H' c' w', SameX e H H' → Climbs x.up (x.c + n) x.w c' w' → CtAt C H' e { x with c := c', w := w' } → Q .non H') ∨ (Out K H v 1 65535 ∧ Err Ce "number" v H E))
theorem ok_Climb_grow (T : Txt K mg) : FnOk P w K mg base (L2.CX P w) 4 T.a_Climb_grow T.fd_Climb_grow ["self", "count", "now"] (sp_Climb_grow K T.c_Delay T.c_InvalidNumber) := by
  have S := sc_Climb_grow
  refine T.F_Climb_grow.okX S (fun vs H Q E h => ?_) (fun cdv A outer s H vs Q E hr h => ?_)
  · obtain ⟨e, v, now, x, rfl, _⟩ := h
    rfl
  · obtain ⟨e, v, now, x, rfl, ⟨dx, he⟩, h⟩ := h
    refine ⟨_, (pss_cons (ps_expr (pe_call (ok_require_new_bytes T) (hr.mono (by decide)) rfl T.g_require_new_bytes T.F_require_new_bytes.kp T.B_require_new_bytes .nil (passes_call (takes_of rfl rfl rfl rfl) (fun _ _ _ _ h => h)) (pa_cons (pv 1) pa_nil)))
      (pss_cons (ps_fldaug (pv 0) (pv 1) ip_add)
      (pss_one (ps_while (passes_of rfl) (pt_cmpR op_ge (pe_fld (pv 0) rfl) (pe_fld (pv 0) rfl) (nomark _)) (pss_cons (ps_fldaug (pv 0) (pe_fld (pv 0) rfl) ip_sub)
      (pss_one (ps_expr (pe_meth0 (pv 0) T.cl_Delay T.m_Delay_step (ok_Delay_step T) (hr.mono (by decide)) T.B_Delay_step .nil pass0)))))))), ?_⟩
    refine st_Climb_grow ?_
    o_args
    rcases h with ⟨n, rfl, n1, n2, u1, w1, k⟩ | ⟨ho, hE⟩
    · refine ⟨_, rfl, .inl ⟨n, rfl, n1, n2, ?_⟩⟩
      o_args
      refine fraise he T.cl_Delay T.n_Delay_credit (Nat.le_of_ble_eq_true rfl) rfl ?_
      o_args
      refine fput he (Nat.le_of_ble_eq_true rfl) rfl fun H1 s1 h1 => ?_
      o_args
      refine ⟨fun m σ H' => ∃ c w, m = c.toNat ∧ σ = [some (.ref e), some (.int n), some now] ∧ SameX e H H' ∧ 1 ≤ w ∧ (∀ c' w', Climbs x.up c w c' w' → Climbs x.up (x.c + n) x.w c' w') ∧
        CtAt T.c_Delay H' e { x with w := w, c := c }, ⟨_, x.c + n, x.w, rfl, rfl, s1, w1, fun _ _ z => z, ⟨dx, h1⟩⟩, ?_⟩
      rintro m σ H2 ⟨c, w, rfl, rfl, s2, w0, up, dy, h2⟩
      o_args
      refine fget h2 T.cl_Delay T.n_Delay_credit rfl ?_
      o_args
      refine fget h2 T.cl_Delay T.n_Delay_window rfl ?_
      o_args
      refine brD (fun q => ?_) (fun q => ?_)
      · refine ⟨fun σ' H' => σ' = [some (.ref e), some (.int n), some now] ∧ SameX e H H' ∧ CtAt T.c_Delay H' e { x with w := x.up w, c := c - w }, fun σ' H' ⟨hσ, sN, hN⟩ => ⟨_, ?_, c - w, x.up w, rfl, hσ, sN, x.up_pos u1 w0, fun c' w' r => up c' w' (.step q r), hN⟩, ?_⟩
        · omega
        o_args
        refine fraise h2 T.cl_Delay T.n_Delay_credit (Nat.le_of_ble_eq_true rfl) rfl ?_
        o_args
        refine fget h2 T.cl_Delay T.n_Delay_window rfl ?_
        o_args
        refine fput h2 (Nat.le_of_ble_eq_true rfl) rfl fun H3 s3 h3 => ?_
        o_args
        refine ⟨e, dy, _, rfl, h3, rfl, ?_⟩
        o_args
        refine ⟨e, { x with w := w, c := c - w }, rfl, ⟨dy, h3⟩, u1, fun H4 s4 h4 => ?_⟩
        o_args
        exact ⟨rfl, (s2.trans s3).trans s4, h4⟩
      · o_args
        exact k H2 _ _ s2 (up _ _ (.done (by omega))) ⟨dy, h2⟩
    · exact ⟨_, rfl, .inr ⟨ho, hE⟩⟩
def sp_Delay_grow (K : PySem.W.Frag) (C Ce : Addr) : Sp := sp_Climb_grow K C Ce
theorem ok_Delay_grow (T : Txt K mg) : FnOk P w K mg base (L2.CX P w) 5 T.a_Delay_grow T.fd_Delay_grow ["self", "count", "now"] (sp_Delay_grow K T.c_Delay T.c_InvalidNumber) := by
  have S := sc_Delay_grow
  refine T.F_Delay_grow.okX T.SK_Delay_grow.cell S (fun vs H Q E h => ?_) (fun A outer s H vs Q E hr h => ?_)
  · obtain ⟨e, v, now, x, rfl, _⟩ := h
    rfl
  · obtain ⟨e, v, now, x, rfl, hc, h⟩ := h
    obtain ⟨dx, he⟩ := id hc
    refine ⟨_, (pssa_one (psa_super (D := T.c_Delay) (m := "grow") (g := T.a_Climb_grow) T.SK_Delay_grow ⟨rfl, rfl, rfl, se_Delay_grow.1, se_Delay_grow.2.1, se_Delay_grow.2.2, rfl, T.b_super⟩ ((ok_Climb_grow T).raw T.B_Climb_grow .nil) (hr.mono (by decide)) (passes_call (takes_of rfl rfl rfl rfl) (fun _ _ _ _ h => h)) (pa_cons (pv 1) (pa_cons (pv 2) pa_nil)))), ?_⟩
    refine st_Delay_grow ?_
    o_args
    refine ⟨e, _, dx, _, rfl, he, T.SC_Delay_Delay_grow, ?_⟩
    o_args
    exact ⟨e, v, now, x, rfl, hc, h⟩
/-- the window grows by steps of what it has -/
inductive Grown (x : Cs) (n : Int) (now : V) : Cs → Prop
  | mk {c' w' : Int} (r : Climbs x.up (x.c + n) x.w c' w') : Grown x n now { x with c := c', w := w' }
theorem Grown.det {x y z : Cs} {n : Int} {now : V} (a : Grown x n now y) (b : Grown x n now z) : y = z := by
  cases a with
  | mk r => cases b with
    | mk r' =>
      obtain ⟨rfl, rfl⟩ := r.det r'
      rfl
structure Cs.Ready (x : Cs) (now : V) : Prop where
  fit : x.Fit
  w1 : 1 ≤ x.w
theorem Cs.Ready.st {x : Cs} {now : V} (h : x.Ready now) : ({ x with st := false } : Cs).Ready now := ⟨h.fit, h.w1⟩
inductive Acked (x : Cs) (n f : Int) (now : V) : Cs → Prop
  | idle (h : 2 * (f + n) < x.w) : Acked x n f now { x with st := false }
  | start (h : ¬ 2 * (f + n) < x.w) (g : x.w < x.t) : Acked x n f now { x with st := false, w := min (x.w + min n x.u) 4194304 }
  | grow {y : Cs} (h : ¬ 2 * (f + n) < x.w) (g : ¬ x.w < x.t) (r : Grown { x with st := false } n now y) : Acked x n f now y
theorem Acked.det {x y z : Cs} {n f : Int} {now : V} (a : Acked x n f now y) (b : Acked x n f now z) : y = z := by
  cases a with
  | idle h => cases b with
    | idle _ => rfl
    | start h' _ => exact absurd h h'
    | grow h' _ _ => exact absurd h h'
  | start h g => cases b with
    | idle h' => exact absurd h' h
    | start _ _ => rfl
    | grow _ g' _ => exact absurd g g'
  | grow h g r => cases b with
    | idle h' => exact absurd h' h
    | start _ g' => exact absurd g' g
    | grow _ _ r' => exact r.det r'
theorem Acked.inv {x y : Cs} {n f : Int} {now : V} (a : Acked x n f now y) : (2 * (f + n) < x.w → y = { x with st := false }) ∧ (¬ 2 * (f + n) < x.w → x.w < x.t → y = { x with st := false, w := min (x.w + min n x.u) 4194304 }) ∧
    (¬ 2 * (f + n) < x.w → ¬ x.w < x.t → Grown { x with st := false } n now y) := by
  cases a with
  | idle h => exact ⟨fun _ => rfl, fun q => absurd h q, fun q => absurd h q⟩
  | start h g => exact ⟨fun q => absurd q h, fun _ _ => rfl, fun _ q => absurd g q⟩
  | grow h g r => exact ⟨fun q => absurd q h, fun _ q => absurd q g, fun _ _ => r⟩
def sp_Control_on_ack (K : PySem.W.Frag) (C Ce : Addr) : Sp := fun vs H Q E => ∃ (e : Addr) (v now : V) (f : Int) (x : Cs), vs = [.ref e, v, .int f, now] ∧ CtAt C H e x ∧
  ((∃ n, v = .int n ∧ 1 ≤ n ∧ n ≤ 65535 ∧ x.Ready now ∧ ∀ H' y, SameX e H H' → Acked x n f now y → CtAt C H' e y → Q .non H') ∨ (Out K H v 1 65535 ∧ Err Ce "number" v H E))
theorem ok_Control_on_ack (T : Txt K mg) : FnOk P w K mg base (L2.CX P w) 6 T.a_Control_on_ack T.fd_Control_on_ack ["self", "count", "flight", "now"] (sp_Control_on_ack K T.c_Delay T.c_InvalidNumber) := by
  have S := sc_Control_on_ack
  refine T.F_Control_on_ack.okX S (fun vs H Q E h => ?_) (fun cdv A outer s H vs Q E hr h => ?_)
  · obtain ⟨e, v, now, f, x, rfl, _⟩ := h
    rfl
  · obtain ⟨e, v, now, f, x, rfl, ⟨dx, he⟩, h⟩ := h
    refine ⟨_, (pss_cons (ps_expr (pe_call (ok_require_new_bytes T) (hr.mono (by decide)) rfl T.g_require_new_bytes T.F_require_new_bytes.kp T.B_require_new_bytes .nil (passes_call (takes_of rfl rfl rfl rfl) (fun _ _ _ _ h => h)) (pa_cons (pv 1) pa_nil)))
      (pss_cons (ps_fld (pv 0) pe_bl rfl)
      (pss_cons (ps_if (pt_cmpR op_lt (pe_op op_mul pe_int (pe_op op_add (pv 2) (pv 1))) (pe_fld (pv 0) rfl) (nomark _)) (pss_one ps_retN) pss_nil)
      (pss_one (ps_if (pt_val (pe_prop (pv 0) T.cl_Delay T.PR_Delay_starting (ok_Control_starting T) (hr.mono (by decide)) T.B_Control_starting .nil pass0 rfl)) (pss_one (ps_expr (pe_meth (pv 0) T.cl_Delay T.m_Delay_set_window (ok_Control_set_window T) (hr.mono (by decide)) T.B_Control_set_window .nil pass0 (pa_cons (pe_op op_add (pe_fld (pv 0) rfl) (pe_callB (id := "min") (call_min2K rfl) (by rfl) T.b_min (by decide +kernel) (pa_cons (pv 1) (pa_cons (pe_fld (pv 0) rfl) pa_nil)))) pa_nil)))) (pss_one (ps_expr (pe_meth (pv 0) T.cl_Delay T.m_Delay_grow (ok_Delay_grow T) (hr.mono (by decide)) T.B_Delay_grow .nil (passes_call (takes_of rfl rfl rfl rfl) (fun _ _ _ _ h => h)) (pa_cons (pv 1) (pa_cons (pv 3) pa_nil)))))))))), ?_⟩
    refine st_Control_on_ack ?_
    o_args
    rcases h with ⟨n, rfl, n1, n2, rdy, k⟩ | ⟨ho, hE⟩
    · refine ⟨_, rfl, .inl ⟨n, rfl, n1, n2, ?_⟩⟩
      o_args
      refine fstore he T.cl_Delay T.n_Delay_stalled (Nat.le_of_ble_eq_true rfl) rfl fun H1 s1 h1 => ?_
      o_args
      refine fget h1 T.cl_Delay T.n_Delay_window rfl ?_
      o_args
      refine brD (fun q => ?_) (fun q => ?_)
      · o_args
        exact k H1 _ s1 (.idle q) ⟨dx, h1⟩
      o_args
      refine ⟨e, dx, _, rfl, h1, e, { x with st := false }, rfl, ⟨dx, h1⟩, ?_⟩
      o_args
      refine brD (fun q' => ?_) (fun q' => ?_)
      · o_args
        refine ⟨e, dx, _, rfl, h1, rfl, ?_⟩
        o_args
        refine fget h1 T.cl_Delay T.n_Delay_window rfl ?_
        o_args
        refine fget h1 T.cl_Delay T.n_Delay_unit rfl ?_
        o_args
        refine ⟨e, { x with st := false }, _, rfl, ⟨dx, h1⟩, fun H2 s2 h2 => ?_⟩
        o_args
        exact k H2 _ (s1.trans s2) (.start q q') h2
      · o_args
        refine ⟨e, dx, _, rfl, h1, rfl, ?_⟩
        o_args
        refine ⟨e, _, _, { x with st := false }, rfl, ⟨dx, h1⟩, .inl ⟨n, rfl, n1, n2, rdy.st.fit, rdy.st.w1, fun H2 c' w' s2 r h2 => ?_⟩⟩
        o_args
        exact k H2 _ (s1.trans s2) (.grow q q' (.mk r)) h2
    · exact ⟨_, rfl, .inr ⟨ho, hE⟩⟩
def sp_Climb_on_ack (K : PySem.W.Frag) (C Ce : Addr) : Sp := sp_Control_on_ack K C Ce
theorem ok_Climb_on_ack (T : Txt K mg) : FnOk P w K mg base (L2.CX P w) 7 T.a_Climb_on_ack T.fd_Climb_on_ack ["self", "count", "flight", "now"] (sp_Climb_on_ack K T.c_Delay T.c_InvalidNumber) := by
  have S := sc_Climb_on_ack
  refine T.F_Climb_on_ack.okX T.SK_Climb_on_ack.cell S (fun vs H Q E h => ?_) (fun A outer s H vs Q E hr h => ?_)
  · obtain ⟨e, v, now, f, x, rfl, _⟩ := h
    rfl
  · obtain ⟨e, v, now, f, x, rfl, hc, h⟩ := h
    obtain ⟨dx, he⟩ := id hc
    refine ⟨_, (pssa_one (psa_super (D := T.c_Climb) (m := "on_ack") (g := T.a_Control_on_ack) T.SK_Climb_on_ack ⟨rfl, rfl, rfl, se_Climb_on_ack.1, se_Climb_on_ack.2.1, se_Climb_on_ack.2.2, rfl, T.b_super⟩ ((ok_Control_on_ack T).raw T.B_Control_on_ack .nil) (hr.mono (by decide)) (passes_call (takes_of rfl rfl rfl rfl) (fun _ _ _ _ h => h)) (pa_cons (pv 1) (pa_cons (pv 2) (pa_cons (pv 3) pa_nil))))), ?_⟩
    refine st_Climb_on_ack ?_
    o_args
    refine ⟨e, _, dx, _, rfl, he, T.SC_Delay_Climb_on_ack, ?_⟩
    o_args
    refine ⟨e, v, now, f, x, rfl, hc, ?_⟩
    rcases h with ⟨n, rfl, n1, n2, rdy, k⟩ | ⟨ho, hE⟩
    · exact .inl ⟨n, rfl, n1, n2, rdy, fun H' y s1 a h1 => k H' y s1 a h1⟩
    · exact .inr ⟨ho, hE⟩
def sp_Climb_on_loss (C : Addr) : Sp := sp_Control_on_loss C
theorem ok_Climb_on_loss (T : Txt K mg) : FnOk P w K mg base (L2.CX P w) 3 T.a_Climb_on_loss T.fd_Climb_on_loss ["self", "flight", "now"] (sp_Climb_on_loss T.c_Delay) := by
  have S := sc_Climb_on_loss
  refine T.F_Climb_on_loss.okX T.SK_Climb_on_loss.cell S (fun vs H Q E h => ?_) (fun A outer s H vs Q E hr h => ?_)
  · obtain ⟨e, x, f, n, rfl, _⟩ := h
    rfl
  · obtain ⟨e, x, f, n, rfl, hc, f0, k⟩ := h
    obtain ⟨dx, he⟩ := id hc
    refine ⟨_, (pssa_one (psa_super (D := T.c_Climb) (m := "on_loss") (g := T.a_Control_on_loss) T.SK_Climb_on_loss ⟨rfl, rfl, rfl, se_Climb_on_loss.1, se_Climb_on_loss.2.1, se_Climb_on_loss.2.2, rfl, T.b_super⟩ ((ok_Control_on_loss T).raw T.B_Control_on_loss .nil) (hr.mono (by decide)) pass0 (pa_cons (pv 1) (pa_cons (pv 2) pa_nil)))), ?_⟩
    refine st_Climb_on_loss ?_
    o_args
    refine ⟨e, _, dx, _, rfl, he, T.SC_Delay_Climb_on_loss, ?_⟩
    o_args
    exact ⟨e, x, f, n, rfl, hc, f0, k⟩
def sp_Climb_on_expiry (C : Addr) : Sp := sp_Control_on_expiry C
theorem ok_Climb_on_expiry (T : Txt K mg) : FnOk P w K mg base (L2.CX P w) 2 T.a_Climb_on_expiry T.fd_Climb_on_expiry ["self", "flight", "now"] (sp_Climb_on_expiry T.c_Delay) := by
  have S := sc_Climb_on_expiry
  refine T.F_Climb_on_expiry.okX T.SK_Climb_on_expiry.cell S (fun vs H Q E h => ?_) (fun A outer s H vs Q E hr h => ?_)
  · obtain ⟨e, x, f, n, rfl, _⟩ := h
    rfl
  · obtain ⟨e, x, f, n, rfl, hc, f0, k⟩ := h
    obtain ⟨dx, he⟩ := id hc
    refine ⟨_, (pssa_one (psa_super (D := T.c_Climb) (m := "on_expiry") (g := T.a_Control_on_expiry) T.SK_Climb_on_expiry ⟨rfl, rfl, rfl, se_Climb_on_expiry.1, se_Climb_on_expiry.2.1, se_Climb_on_expiry.2.2, rfl, T.b_super⟩ ((ok_Control_on_expiry T).raw T.B_Control_on_expiry .nil) (hr.mono (by decide)) pass0 (pa_cons (pv 1) (pa_cons (pv 2) pa_nil)))), ?_⟩
    refine st_Climb_on_expiry ?_
    o_args
    refine ⟨e, _, dx, _, rfl, he, T.SC_Delay_Climb_on_expiry, ?_⟩
    o_args
    exact ⟨e, x, f, n, rfl, hc, f0, k⟩
def sp_Climb_on_sample (C : Addr) : Sp := fun vs H Q _ => ∃ (e : Addr) (n : V) (x : Cs), vs = [.ref e, n] ∧ CtAt C H e x ∧ Q .non H
theorem ok_Climb_on_sample (T : Txt K mg) : FnOk P w K mg base (L2.CX P w) 2 T.a_Climb_on_sample T.fd_Climb_on_sample ["self", "ticks"] (sp_Climb_on_sample T.c_Delay) := by
  have S := sc_Climb_on_sample
  refine T.F_Climb_on_sample.okX T.SK_Climb_on_sample.cell S (fun vs H Q E h => ?_) (fun A outer s H vs Q E hr h => ?_)
  · obtain ⟨e, n, x, rfl, _⟩ := h
    rfl
  · obtain ⟨e, n, x, rfl, hc, k⟩ := h
    obtain ⟨dx, he⟩ := id hc
    refine ⟨_, (pssa_one (psa_super (D := T.c_Climb) (m := "on_sample") (g := T.a_Control_on_sample) T.SK_Climb_on_sample ⟨rfl, rfl, rfl, se_Climb_on_sample.1, se_Climb_on_sample.2.1, se_Climb_on_sample.2.2, rfl, T.b_super⟩ ((ok_Control_on_sample T).raw T.B_Control_on_sample .nil) (hr.mono (by decide)) pass0 (pa_cons (pv 1) pa_nil))), ?_⟩
    refine st_Climb_on_sample ?_
    o_args
    refine ⟨e, _, dx, _, rfl, he, T.SC_Delay_Climb_on_sample, ?_⟩
    o_args
    exact ⟨_, n, rfl, k⟩
/-! ### the other methods of a delay -/
def sp_Delay_on_ack (K : PySem.W.Frag) (C Ce : Addr) : Sp := sp_Control_on_ack K C Ce
theorem ok_Delay_on_ack (T : Txt K mg) : FnOk P w K mg base (L2.CX P w) 8 T.a_Delay_on_ack T.fd_Delay_on_ack ["self", "count", "flight", "now"] (sp_Delay_on_ack K T.c_Delay T.c_InvalidNumber) := by
  have S := sc_Delay_on_ack
  refine T.F_Delay_on_ack.okX T.SK_Delay_on_ack.cell S (fun vs H Q E h => ?_) (fun A outer s H vs Q E hr h => ?_)
  · obtain ⟨e, v, now, f, x, rfl, _⟩ := h
    rfl
  · obtain ⟨e, v, now, f, x, rfl, hc, h⟩ := h
    obtain ⟨dx, he⟩ := id hc
    refine ⟨_, (pssa_one (psa_super (D := T.c_Delay) (m := "on_ack") (g := T.a_Climb_on_ack) T.SK_Delay_on_ack ⟨rfl, rfl, rfl, se_Delay_on_ack.1, se_Delay_on_ack.2.1, se_Delay_on_ack.2.2, rfl, T.b_super⟩ ((ok_Climb_on_ack T).raw T.B_Climb_on_ack .nil) (hr.mono (by decide)) (passes_call (takes_of rfl rfl rfl rfl) (fun _ _ _ _ h => h)) (pa_cons (pv 1) (pa_cons (pv 2) (pa_cons (pv 3) pa_nil))))), ?_⟩
    refine st_Delay_on_ack ?_
    o_args
    refine ⟨e, _, dx, _, rfl, he, T.SC_Delay_Delay_on_ack, ?_⟩
    o_args
    exact ⟨e, v, now, f, x, rfl, hc, h⟩
def sp_Delay_on_loss (C : Addr) : Sp := sp_Control_on_loss C
theorem ok_Delay_on_loss (T : Txt K mg) : FnOk P w K mg base (L2.CX P w) 4 T.a_Delay_on_loss T.fd_Delay_on_loss ["self", "flight", "now"] (sp_Delay_on_loss T.c_Delay) := by
  have S := sc_Delay_on_loss
  refine T.F_Delay_on_loss.okX T.SK_Delay_on_loss.cell S (fun vs H Q E h => ?_) (fun A outer s H vs Q E hr h => ?_)
  · obtain ⟨e, x, f, n, rfl, _⟩ := h
    rfl
  · obtain ⟨e, x, f, n, rfl, hc, h⟩ := h
    obtain ⟨dx, he⟩ := id hc
    refine ⟨_, (pssa_one (psa_super (D := T.c_Delay) (m := "on_loss") (g := T.a_Climb_on_loss) T.SK_Delay_on_loss ⟨rfl, rfl, rfl, se_Delay_on_loss.1, se_Delay_on_loss.2.1, se_Delay_on_loss.2.2, rfl, T.b_super⟩ ((ok_Climb_on_loss T).raw T.B_Climb_on_loss .nil) (hr.mono (by decide)) (passes_call (takes_of rfl rfl rfl rfl) (fun _ _ _ _ h => h)) (pa_cons (pv 1) (pa_cons (pv 2) pa_nil)))), ?_⟩
    refine st_Delay_on_loss ?_
    o_args
    refine ⟨e, _, dx, _, rfl, he, T.SC_Delay_Delay_on_loss, ?_⟩
    o_args
    exact ⟨e, x, f, n, rfl, hc, h⟩
def sp_Delay_on_expiry (C : Addr) : Sp := sp_Control_on_expiry C
theorem ok_Delay_on_expiry (T : Txt K mg) : FnOk P w K mg base (L2.CX P w) 3 T.a_Delay_on_expiry T.fd_Delay_on_expiry ["self", "flight", "now"] (sp_Delay_on_expiry T.c_Delay) := by
  have S := sc_Delay_on_expiry
  refine T.F_Delay_on_expiry.okX T.SK_Delay_on_expiry.cell S (fun vs H Q E h => ?_) (fun A outer s H vs Q E hr h => ?_)
  · obtain ⟨e, x, f, n, rfl, _⟩ := h
    rfl
  · obtain ⟨e, x, f, n, rfl, hc, h⟩ := h
    obtain ⟨dx, he⟩ := id hc
    refine ⟨_, (pssa_one (psa_super (D := T.c_Delay) (m := "on_expiry") (g := T.a_Climb_on_expiry) T.SK_Delay_on_expiry ⟨rfl, rfl, rfl, se_Delay_on_expiry.1, se_Delay_on_expiry.2.1, se_Delay_on_expiry.2.2, rfl, T.b_super⟩ ((ok_Climb_on_expiry T).raw T.B_Climb_on_expiry .nil) (hr.mono (by decide)) (passes_call (takes_of rfl rfl rfl rfl) (fun _ _ _ _ h => h)) (pa_cons (pv 1) (pa_cons (pv 2) pa_nil)))), ?_⟩
    refine st_Delay_on_expiry ?_
    o_args
    refine ⟨e, _, dx, _, rfl, he, T.SC_Delay_Delay_on_expiry, ?_⟩
    o_args
    exact ⟨e, x, f, n, rfl, hc, h⟩
def Cs.sampled (x : Cs) (n : Int) : Cs := { x with la := n, l := if x.sm = 0 then n else min x.l n, sm := x.sm + 1 }
def sp_Delay_on_sample (C : Addr) : Sp := fun vs H Q _ => ∃ (e : Addr) (n : Int) (x : Cs), vs = [.ref e, .int n] ∧ CtAt C H e x ∧ ∀ H', SameX e H H' → CtAt C H' e (x.sampled n) → Q .non H'
theorem ok_Delay_on_sample (T : Txt K mg) : FnOk P w K mg base CX0 1 T.a_Delay_on_sample T.fd_Delay_on_sample ["self", "ticks"] (sp_Delay_on_sample T.c_Delay) := by
  have S := sc_Delay_on_sample
  refine T.F_Delay_on_sample.ok S (fun vs H Q E h => ?_) (fun cdv A outer s H vs Q E hr h => ?_)
  · obtain ⟨e, n, x, rfl, _⟩ := h
    rfl
  · obtain ⟨e, n, x, rfl, ⟨dx, he⟩, k⟩ := h
    unfold Cs.sampled at k
    refine ⟨_, (pss_cons (ps_fld (pv 0) (pv 1) rfl)
      (pss_cons (ps_fld (pv 0) (pe_ifExp (pt_cmpR op_eq (pe_fld (pv 0) rfl) pe_int (nomark _)) (pv 1) (pe_callB (id := "min") (call_min2K rfl) (by rfl) T.b_min (by decide +kernel) (pa_cons (pe_fld (pv 0) rfl) (pa_cons (pv 1) pa_nil)))) rfl)
      (pss_one (ps_fldaug (pv 0) pe_int ip_add)))), ?_⟩
    refine st_Delay_on_sample ?_
    o_args
    refine fstore he T.cl_Delay T.n_Delay_latest (Nat.le_of_ble_eq_true rfl) rfl fun H1 s1 h1 => ?_
    o_args
    refine fget h1 T.cl_Delay T.n_Delay_samples rfl ?_
    o_args
    refine brD (fun q => ?_) (fun q => ?_)
    · rw [if_pos q] at k
      o_args
      refine fstore h1 T.cl_Delay T.n_Delay_least (Nat.le_of_ble_eq_true rfl) rfl fun H2 s2 h2 => ?_
      o_args
      refine fraise h2 T.cl_Delay T.n_Delay_samples (Nat.le_of_ble_eq_true rfl) rfl ?_
      o_args
      refine fput h2 (Nat.le_of_ble_eq_true rfl) rfl fun H3 s3 h3 => ?_
      o_args
      exact k H3 ((s1.trans s2).trans s3) ⟨dx, h3⟩
    · rw [if_neg q] at k
      o_args
      refine fget h1 T.cl_Delay T.n_Delay_least rfl ?_
      o_args
      refine fstore h1 T.cl_Delay T.n_Delay_least (Nat.le_of_ble_eq_true rfl) rfl fun H2 s2 h2 => ?_
      o_args
      refine fraise h2 T.cl_Delay T.n_Delay_samples (Nat.le_of_ble_eq_true rfl) rfl ?_
      o_args
      refine fput h2 (Nat.le_of_ble_eq_true rfl) rfl fun H3 s3 h3 => ?_
      o_args
      exact k H3 ((s1.trans s2).trans s3) ⟨dx, h3⟩
def sp_Delay_init_ (K : PySem.W.Frag) (C Ce : Addr) : Sp := fun vs H Q E => ∃ (p dx : Addr) (v : V), vs = [.ref p, v] ∧ H p = some (.ins C dx []) ∧
  ((∃ u, v = .int u ∧ 1 ≤ u ∧ u ≤ 65535 ∧ ∀ H', SameX p H H' → CtAt C H' p ⟨u, 2 * u, 4194304, 0, false, 0, 0, 0⟩ → Q .non H') ∨ (Out K H v 1 65535 ∧ Err Ce "setting" (.str "unit") H E))
theorem ok_Delay_init_ (T : Txt K mg) : FnOk P w K mg base (L2.CX P w) 4 T.a_Delay_init_ T.fd_Delay_init_ ["self", "unit"] (sp_Delay_init_ K T.c_Delay T.c_InvalidSetting) := by
  have S := sc_Delay_init_
  refine T.F_Delay_init_.okX T.SK_Delay_init_.cell S (fun vs H Q E h => ?_) (fun A outer s H vs Q E hr h => ?_)
  · obtain ⟨p, dx, v, rfl, _⟩ := h
    rfl
  · obtain ⟨p, dx, v, rfl, hp, h⟩ := h
    refine ⟨_, (pssa_cons (psa_super (D := T.c_Delay) (m := "__init__") (g := T.a_Control_init_) T.SK_Delay_init_ ⟨rfl, rfl, rfl, se_Delay_init_.1, se_Delay_init_.2.1, se_Delay_init_.2.2, rfl, T.b_super⟩ ((ok_Control_init_ T).raw T.B_Control_init_ .nil) (hr.mono (by decide)) (passes_call (takes_of rfl rfl rfl rfl) (fun _ _ _ _ h => h)) (pa_cons (pv 1) pa_nil))
      (pssa_cons (psa_of (ps_fld (pv 0) pe_int rfl))
      (pssa_cons (psa_of (ps_fld (pv 0) pe_int rfl))
      (pssa_one (psa_of (ps_fld (pv 0) pe_int rfl)))))), ?_⟩
    refine st_Delay_init_ ?_
    o_args
    refine ⟨p, _, dx, _, rfl, hp, T.SC_Delay_Delay_init_, ?_⟩
    o_args
    rcases h with ⟨u, rfl, h1, h2, k⟩ | ⟨ho, hE⟩
    · refine ⟨p, dx, _, rfl, hp, .inl ⟨u, rfl, h1, h2, fun H0 s0 ⟨d0, h0⟩ => ?_⟩⟩
      o_args
      refine fstore h0 T.cl_Delay T.n_Delay_least (Nat.le_of_ble_eq_true rfl) rfl fun H1 s1 h1 => ?_
      o_args
      refine fstore h1 T.cl_Delay T.n_Delay_latest (Nat.le_of_ble_eq_true rfl) rfl fun H2 s2 h2 => ?_
      o_args
      refine fstore h2 T.cl_Delay T.n_Delay_samples (Nat.le_of_ble_eq_true rfl) rfl fun H3 s3 h3 => ?_
      o_args
      exact k H3 (((s0.trans s1).trans s2).trans s3) ⟨d0, h3⟩
    · exact ⟨p, dx, _, rfl, hp, .inr ⟨ho, hE⟩⟩
end ND
/-! ### a box of three, drawn from -/
def Bx (a : Addr) (H : Hp) : Prop := ∃ x y z : Int, H a = some (.lst [.int x, .int y, .int z]) ∧ 0 ≤ x
theorem Bx.same {a : Addr} {H H' : Hp} (B : Bx a H) (s : Same H H') : Bx a H' := B.elim fun x h => h.elim fun y h => h.elim fun z h => ⟨x, y, z, s _ _ h.1, h.2⟩
theorem Bx.on {a b : Addr} {H H' : Hp} (B : Bx a H) (s : SameX b H H') (n : a ≠ b) : Bx a H' := B.elim fun x h => h.elim fun y h => h.elim fun z h => ⟨x, y, z, s _ _ n h.1, h.2⟩
theorem Bx.ne {a b : Addr} {o : HO} {H : Hp} (B : Bx a H) (h : H b = some o) (ho : ∀ x y z, o ≠ .lst [x, y, z] := by intro _ _ _ e; cases e) : b ≠ a := fun e => by
  subst e
  obtain ⟨x, y, z, h', _⟩ := B
  rw [h'] at h
  exact ho _ _ _ (Option.some.inj h).symm
def sp__law_cell (K : PySem.W.Frag) : Sp := fun vs H Q _ => ∃ (a : Addr) (ns : List Int) (k : Int), vs = [.ref a, .int k] ∧ SqL K H a (ns.map V.int) ∧ 0 ≤ k ∧ ∀ n H', Same H H' → Q (.int n) H'
theorem ok__law_cell (T : Txt K mg) : FnOk P w K mg base CX0 1 T.a__law_cell T.fd__law_cell ["script", "k"] (sp__law_cell K) := by
  have S := sc__law_cell
  refine T.F__law_cell.ok S (fun vs H Q E h => ?_) (fun cdv A outer s H vs Q E hr h => ?_)
  · obtain ⟨a, ns, k, rfl, _⟩ := h
    rfl
  · obtain ⟨a, ns, j, rfl, hS, j0, k⟩ := h
    refine ⟨_, (pss_cons (ps_if (pt_cmpR op_lt (pv 1) (pe_callB (id := "len") (call_lenK (K := K) rfl) (by rfl) T.b_len (by decide +kernel) (pa_cons (pv 0) pa_nil)) (nomark _)) (pss_one (ps_ret (pe_ix ix_list (pv 0) (pv 1) (fun _ _ => rfl)))) pss_nil)
      (pss_one (ps_ret (pe_op op_add (pe_op op_add (pe_op op_mul pe_int (pv 1)) pe_int) (pe_op op_mod (pe_callTy (T := "int") call_int1 (by rfl) T.b_int (by decide +kernel) (pa_cons (pe_callB (id := "sum") (cr_sum rfl) (by rfl) T.b_sum (by decide +kernel) (pa_cons (pe_slice sl_list (pv 0) po_none (po_some pe_int)) pa_nil)) pa_nil)) pe_int))))), ?_⟩
    refine st__law_cell ?_
    o_args
    refine lenA (.inl hS) ?_
    o_args
    refine brD (fun q => ?_) (fun q => ?_)
    · o_args
      obtain ⟨j, rfl⟩ : ∃ i : Nat, j = i := ⟨j.toNat, by omega⟩
      have q' : j < (ns.map V.int).length := by omega
      rw [List.length_map] at q'
      refine ⟨_, _, _, _, rfl, rfl, hS, atI_nat (v := .int ns[j]) (by rw [List.getElem?_map, List.getElem?_eq_getElem q']; rfl), ?_⟩
      o_args
      exact k _ _ (Same.refl _)
    · o_args
      refine sliceL hS fun l H1 hl s1 h1 => ?_
      o_args
      have h1 : H1 l = some (.lst (cutV (ns.map V.int) none (some ((1 : Nat) : Int)))) := h1
      rw [cut_to, ← List.map_take] at h1
      refine ⟨_, _, rfl, SqL.of h1, ?_⟩
      o_args
      exact k _ _ s1
def sp__law_rounds (K : PySem.W.Frag) : Sp := fun vs H Q _ => ∃ (a : Addr) (xs : List V), vs = [.ref a] ∧ SqL K H a xs ∧ ∀ n, 4 ≤ n → n ≤ 62 → Q (.int n) H
theorem ok__law_rounds (T : Txt K mg) : FnOk P w K mg base CX0 1 T.a__law_rounds T.fd__law_rounds ["script"] (sp__law_rounds K) := by
  have S := sc__law_rounds
  refine T.F__law_rounds.ok S (fun vs H Q E h => ?_) (fun cdv A outer s H vs Q E hr h => ?_)
  · obtain ⟨a, xs, rfl, _⟩ := h
    rfl
  · obtain ⟨a, xs, rfl, hS, k⟩ := h
    refine ⟨_, (pss_one (ps_ret (pe_callB (id := "min") (call_min2K rfl) (by rfl) T.b_min (by decide +kernel) (pa_cons pe_int (pa_cons (pe_callB (id := "max") (call_max2K rfl) (by rfl) T.b_max (by decide +kernel) (pa_cons (pe_op op_add pe_int (pe_op op_mul pe_int (pe_callB (id := "min") (call_min2K rfl) (by rfl) T.b_min (by decide +kernel) (pa_cons pe_int (pa_cons (pe_callB (id := "len") (call_lenK (K := K) rfl) (by rfl) T.b_len (by decide +kernel) (pa_cons (pv 0) pa_nil)) pa_nil))))) (pa_cons (pe_op op_sub (pe_callB (id := "len") (call_lenK (K := K) rfl) (by rfl) T.b_len (by decide +kernel) (pa_cons (pv 0) pa_nil)) pe_int) pa_nil))) pa_nil))))), ?_⟩
    refine st__law_rounds ?_
    o_args
    refine lenA (.inl hS) ?_
    o_args
    refine lenA (.inl hS) ?_
    o_args
    exact k _ (by omega) (by omega)
def sp__law_box : Sp := fun vs H Q _ => ∃ (n : Int), vs = [.int n] ∧ ∀ b H', H b = none → Same H H' → Bx b H' → Q (.ref b) H'
theorem ok__law_box (T : Txt K mg) : FnOk P w K mg base CX0 1 T.a__law_box T.fd__law_box ["cell"] (sp__law_box) := by
  have S := sc__law_box
  refine T.F__law_box.ok S (fun vs H Q E h => ?_) (fun cdv A outer s H vs Q E hr h => ?_)
  · obtain ⟨n, rfl, _⟩ := h
    rfl
  · obtain ⟨n, rfl, k⟩ := h
    refine ⟨_, (pss_cons (ps_if (pt_cmpR op_ge (pv 0) (pe_op op_pow pe_int pe_int) (nomark _)) (pss_one (ps_ret (pe_lst (pa_cons (pv 0) (pa_cons (pv 0) (pa_cons pe_int pa_nil)))))) pss_nil)
      (pss_one (ps_ret (pe_lst (pa_cons pe_int (pa_cons (pv 0) (pa_cons pe_int pa_nil))))))), ?_⟩
    refine st__law_box ?_
    o_args
    have e18 : (10 : Int) ^ Int.toNat 18 = 1000000000000000000 := rfl
    refine brD (fun q => ?_) (fun q => ?_)
    · rw [e18] at q
      o_args
      refine newList (by simp) fun b H3 hb s3 h3 => ?_
      o_args
      exact k b H3 hb s3 ⟨_, _, _, h3, by omega⟩
    · o_args
      refine newList (by simp) fun b H3 hb s3 h3 => ?_
      o_args
      exact k b H3 hb s3 ⟨_, _, _, h3, by omega⟩
def sp__law_draw : Sp := fun vs H Q _ => ∃ (a : Addr) (m : Int), vs = [.ref a, .int m] ∧ Bx a H ∧ 0 < m ∧ m < 2 ^ 62 ∧ ∀ d H', 0 ≤ d → d < m → Bx a H' → SameX a H H' → Q (.int d) H'
theorem ok__law_draw (T : Txt K mg) : FnOk P w K mg base CX0 1 T.a__law_draw T.fd__law_draw ["box", "size"] (sp__law_draw) := by
  have S := sc__law_draw
  refine T.F__law_draw.ok S (fun vs H Q E h => ?_) (fun cdv A outer s H vs Q E hr h => ?_)
  · obtain ⟨a, m, rfl, _⟩ := h
    rfl
  · obtain ⟨a, m, rfl, ⟨x, y, z, hA, x0⟩, m0, m1, k⟩ := h
    have m0' : m ≠ 0 := by omega
    refine ⟨_, (pss_cons (ps_augS (pv 0) pe_int (show PGet _ (rIxL K) from pget_list) pe_int ip_add set_list)
      (pss_cons (ps_if (pt_cmpR op_gt (pe_ix ix_list (pv 0) pe_int (fun _ _ => rfl)) pe_int (nomark _)) (pss_cons (ps_set (i := 2) S.nd rfl (Or.inl rfl) (pe_op op_mod (pe_callTy (T := "int") call_int1 (by rfl) T.b_int (by decide +kernel) (pa_cons (pe_ix ix_list (pv 0) pe_int (fun _ _ => rfl)) pa_nil)) (pv 1)))
      (pss_cons (ps_asg (pe_op op_fdivW (pe_ix ix_list (pv 0) pe_int (fun _ _ => rfl)) (pv 1)) (pg_sub (pv 0) pe_int set_list))
      (pss_one (ps_ret (pv 2))))) pss_nil)
      (pss_cons (ps_set (i := 3) S.nd rfl (Or.inl rfl) (pe_op op_mod (pe_callTy (T := "int") call_int1 (by rfl) T.b_int (by decide +kernel) (pa_cons (pe_op op_add (pe_op op_add (pe_op op_mul (pe_ix ix_list (pv 0) pe_int (fun _ _ => rfl)) pe_int) (pe_op op_mul (pe_ix ix_list (pv 0) pe_int (fun _ _ => rfl)) pe_int)) pe_int) pa_nil)) pe_int))
      (pss_cons (ps_set (i := 4) S.nd rfl (Or.inl rfl) (pe_op op_mod (pe_callTy (T := "int") call_int1 (by rfl) T.b_int (by decide +kernel) (pa_cons (pe_op op_add (pe_op op_add (pe_op op_mul (pv 3) (pv 3)) (pe_op op_mul (pe_ix ix_list (pv 0) pe_int (fun _ _ => rfl)) pe_int)) (pe_op op_mul (pe_ix ix_list (pv 0) pe_int (fun _ _ => rfl)) pe_int)) pa_nil)) pe_int))
      (pss_one (ps_ret (pe_op op_mod (pe_callTy (T := "int") call_int1 (by rfl) T.b_int (by decide +kernel) (pa_cons (pe_op op_add (pe_op op_mul (pv 4) pe_int) (pv 3)) pa_nil)) (pv 1)))))))), ?_⟩
    refine st__law_draw ?_
    o_args
    refine setL (i := 2) hA (by simp) fun H1 s1 h1 => ?_
    have h1 : H1 a = some (.lst [.int x, .int y, .int (z + 1)]) := h1
    o_args
    refine brD (fun q => ?_) (fun q => ?_)
    · o_args
      refine ⟨_, _, rfl, rfl, m0, ?_⟩
      o_args
      refine x_divW m0 m1 ?_
      o_args
      refine setL (i := 0) h1 (by simp) fun H2 s2 h2 => ?_
      o_args
      exact k _ _ (Int.emod_nonneg _ m0') (Int.emod_lt_of_pos _ m0) ⟨_, _, _, h2, Int.ediv_nonneg x0 (by omega)⟩ (s1.trans s2)
    · o_args
      refine x_mulL ?_ ?_
      · have a0 := Int.emod_nonneg (y * 271 + (z + 1) * 97 + 5) (show (10007 : Int) ≠ 0 by decide)
        have a1 := Int.emod_lt_of_pos (y * 271 + (z + 1) * 97 + 5) (show (0 : Int) < 10007 by decide)
        constructor <;> omega
      o_args
      refine ⟨_, _, rfl, rfl, m0, ?_⟩
      o_args
      exact k _ _ (Int.emod_nonneg _ m0') (Int.emod_lt_of_pos _ m0) ⟨_, _, _, h1, x0⟩ s1
/-! ### what is drawn -/
def sp__law_unit : Sp := fun vs H Q _ => ∃ (a : Addr), vs = [.ref a] ∧ Bx a H ∧ ∀ n H', 1 ≤ n → n ≤ 65535 → Bx a H' → SameX a H H' → Q (.int n) H'
theorem ok__law_unit (T : Txt K mg) : FnOk P w K mg base CX0 2 T.a__law_unit T.fd__law_unit ["box"] (sp__law_unit) := by
  have S := sc__law_unit
  refine T.F__law_unit.ok S (fun vs H Q E h => ?_) (fun cdv A outer s H vs Q E hr h => ?_)
  · obtain ⟨a, rfl, _⟩ := h
    rfl
  · obtain ⟨a, rfl, B0, k⟩ := h
    refine ⟨_, (pss_cons (ps_set (i := 1) S.nd rfl (Or.inl rfl) (pe_call (ok__law_draw T) (hr.mono (by decide)) rfl T.g__law_draw T.F__law_draw.kp T.B__law_draw .nil pass0 (pa_cons (pv 0) (pa_cons pe_int pa_nil))))
      (pss_cons (ps_if (pt_cmpR op_eq (pv 1) pe_int (nomark _)) (pss_one (ps_ret (pe_op op_add pe_int (pe_call (ok__law_draw T) (hr.mono (by decide)) rfl T.g__law_draw T.F__law_draw.kp T.B__law_draw .nil pass0 (pa_cons (pv 0) (pa_cons pe_int pa_nil)))))) pss_nil)
      (pss_cons (ps_if (pt_cmpR op_eq (pv 1) pe_int (nomark _)) (pss_one (ps_ret (pe_op op_add pe_int (pe_call (ok__law_draw T) (hr.mono (by decide)) rfl T.g__law_draw T.F__law_draw.kp T.B__law_draw .nil pass0 (pa_cons (pv 0) (pa_cons pe_int pa_nil)))))) pss_nil)
      (pss_cons (ps_if (pt_cmpR op_eq (pv 1) pe_int (nomark _)) (pss_one (ps_ret (pe_op op_add pe_int (pe_call (ok__law_draw T) (hr.mono (by decide)) rfl T.g__law_draw T.F__law_draw.kp T.B__law_draw .nil pass0 (pa_cons (pv 0) (pa_cons pe_int pa_nil)))))) pss_nil)
      (pss_one (ps_ret (pe_op op_sub pe_int (pe_op op_mul pe_int (pe_call (ok__law_draw T) (hr.mono (by decide)) rfl T.g__law_draw T.F__law_draw.kp T.B__law_draw .nil pass0 (pa_cons (pv 0) (pa_cons pe_int pa_nil))))))))))), ?_⟩
    refine st__law_unit ?_
    o_args
    refine ⟨a, 4, rfl, B0, by decide, by decide, fun way H1 a1 b1 B1 s1 => ?_⟩
    o_args
    refine brD (fun q => ?_) (fun q => ?_)
    · o_args
      refine ⟨a, _, rfl, B1, by decide, by decide, fun d H2 a2 b2 B2 s2 => ?_⟩
      o_args
      exact k _ _ (by omega) (by omega) B2 (s1.trans s2)
    o_args
    refine brD (fun q => ?_) (fun q => ?_)
    · o_args
      refine ⟨a, _, rfl, B1, by decide, by decide, fun d H2 a2 b2 B2 s2 => ?_⟩
      o_args
      exact k _ _ (by omega) (by omega) B2 (s1.trans s2)
    o_args
    refine brD (fun q => ?_) (fun q => ?_)
    · o_args
      refine ⟨a, _, rfl, B1, by decide, by decide, fun d H2 a2 b2 B2 s2 => ?_⟩
      o_args
      exact k _ _ (by omega) (by omega) B2 (s1.trans s2)
    o_args
    refine ⟨a, _, rfl, B1, by decide, by decide, fun d H2 a2 b2 B2 s2 => ?_⟩
    o_args
    exact k _ _ (by omega) (by omega) B2 (s1.trans s2)
/-! ### all but a list's stands -/
def Off (l : List Addr) (H H' : Hp) : Prop := ∀ b o, b ∉ l → H b = some o → H' b = some o
theorem Off.refl {l : List Addr} {H : Hp} : Off l H H := fun _ _ _ h => h
theorem Off.trans {l : List Addr} {H H1 H2 : Hp} (x : Off l H H1) (y : Off l H1 H2) : Off l H H2 := fun b o n h => y b o n (x b o n h)
theorem Off.of {l : List Addr} {H H' : Hp} (s : Same H H') : Off l H H' := fun b o _ h => s b o h
theorem Off.ofX {l : List Addr} {a : Addr} {H H' : Hp} (h : a ∈ l) (s : SameX a H H') : Off l H H' := fun b o n e => s b o (fun q => n (q ▸ h)) e
theorem Off.more {l m : List Addr} {H H' : Hp} (x : Off l H H') (h : ∀ b ∈ l, b ∈ m) : Off m H H' := fun b o n e => x b o (fun q => n (h b q)) e
/-! ### whole numbers, truths -/
def sp__law_whole : Sp := fun vs H Q _ => ∃ (i j : Int), vs = [.int i, .int j] ∧ Q (.bl (decide (i = j))) H
theorem ok__law_whole (T : Txt K mg) : FnOk P w K mg base CX0 1 T.a__law_whole T.fd__law_whole ["value", "wanted"] (sp__law_whole) := by
  have S := sc__law_whole
  refine T.F__law_whole.ok S (fun vs H Q E h => ?_) (fun cdv A outer s H vs Q E hr h => ?_)
  · obtain ⟨i, j, rfl, _⟩ := h
    rfl
  · obtain ⟨i, j, rfl, k⟩ := h
    refine ⟨_, (pss_one (ps_ret (pe_and (pe_callB (id := "isinstance") call_isi (by rfl) T.b_isinstance (by decide +kernel) (pa_cons (pv 0) (pa_cons (pe_bltn (v := .ty "int") (u := .type "int") (by rfl) T.b_int (by decide +kernel) rfl) pa_nil))) (pe_and (pe_not (pe_callB (id := "isinstance") call_isi (by rfl) T.b_isinstance (by decide +kernel) (pa_cons (pv 0) (pa_cons (pe_bltn (v := .ty "bool") (u := .type "bool") (by rfl) T.b_bool (by decide +kernel) rfl) pa_nil)))) (pe_one (pe_cmpR op_eq (pv 0) (pv 1) (nomark _))))))), ?_⟩
    refine st__law_whole ?_
    o_args
    refine ⟨_, _, _, _, true, rfl, .ty _, .base (.int i), kit_ty (by decide +kernel), ?_⟩
    o_args
    refine ⟨_, _, _, _, false, rfl, .ty _, .base (.int i), kit_ty (by decide +kernel), ?_⟩
    o_args
    exact k
def sp__law_truth : Sp := fun vs H Q _ => ∃ (i j : Bool), vs = [.bl i, .bl j] ∧ Q (.bl (decide (i = j))) H
theorem ok__law_truth (T : Txt K mg) : FnOk P w K mg base CX0 1 T.a__law_truth T.fd__law_truth ["value", "wanted"] (sp__law_truth) := by
  have S := sc__law_truth
  refine T.F__law_truth.ok S (fun vs H Q E h => ?_) (fun cdv A outer s H vs Q E hr h => ?_)
  · obtain ⟨i, j, rfl, _⟩ := h
    rfl
  · obtain ⟨i, j, rfl, k⟩ := h
    refine ⟨_, (pss_one (ps_ret (pe_and (pe_callB (id := "isinstance") call_isi (by rfl) T.b_isinstance (by decide +kernel) (pa_cons (pv 0) (pa_cons (pe_bltn (v := .ty "bool") (u := .type "bool") (by rfl) T.b_bool (by decide +kernel) rfl) pa_nil))) (pe_one (pe_cmpR (op_eqD hr.units) (pv 0) (pv 1) (nomark _)))))), ?_⟩
    refine st__law_truth ?_
    o_args
    refine ⟨_, _, _, _, true, rfl, .ty _, .base (.bl i), kit_ty (by decide +kernel), ?_⟩
    o_args
    refine ⟨.bool i, .bool j, .bl i, .bl j, by cases i <;> decide +kernel, by cases j <;> decide +kernel, ?_⟩
    rw [show PyData.eqv (.bool i) (.bool j) = decide (i = j) by cases i <;> cases j <;> decide +kernel]
    exact k
/-! ### what was made, one by one -/
structure Alive (l : List Addr) (H : Hp) : Prop where
  nd : l.Nodup
  at_ : ∀ a ∈ l, ∃ o, H a = some o
theorem Alive.nil {H : Hp} : Alive [] H := ⟨List.nodup_nil, fun a h => absurd h List.not_mem_nil⟩
theorem Alive.same {l : List Addr} {H H' : Hp} (A : Alive l H) (s : Same H H') : Alive l H' := ⟨A.nd, fun a h => (A.at_ a h).elim fun o e => ⟨o, s _ _ e⟩⟩
theorem Alive.ne {l : List Addr} {H : Hp} {b : Addr} (A : Alive l H) (hb : H b = none) : b ∉ l := fun h => by
  obtain ⟨o, e⟩ := A.at_ b h
  rw [hb] at e
  cases e
theorem Alive.cons {l : List Addr} {H H' : Hp} {b : Addr} {o : HO} (A : Alive l H) (hb : H b = none) (s : Same H H') (h : H' b = some o) : Alive (b :: l) H' :=
  ⟨List.nodup_cons.mpr ⟨A.ne hb, A.nd⟩, fun a ha => by
    rcases List.mem_cons.mp ha with e | ha
    · exact ⟨o, e ▸ h⟩
    · exact (A.same s).at_ a ha⟩
theorem made_same {H H' : Hp} {x dx C : Addr} (hx : H x = none) (hdx : H dx = none) (s : SameX x (upd (upd H dx (.own x)) x (.ins C dx [])) H') : Same H H' := fun b o eb => s b o (ne_of_none eb hx) (by rw [upd_ne (ne_of_none eb hx), upd_ne (ne_of_none eb hdx)]; exact eb)
theorem Off.same {l : List Addr} {H H1 H2 : Hp} {b : Addr} (s : Same H H1) (o : SameX b H1 H2) (h : b ∈ l) : Off l H H2 := (Off.of s).trans (Off.ofX h o)
theorem notin {a b : Addr} {big l : List Addr} (h : a ∉ big) (n : a ≠ b) (sub : ∀ x ∈ l, x = b ∨ x ∈ big) : a ∉ l := fun m => by
  rcases sub a m with e | e
  · exact n e
  · exact h e
theorem ne_in {a b : Addr} {big : List Addr} (h : a ∉ big) (m : b ∈ big) : a ≠ b := fun e => h (e ▸ m)

/-! ### five controls, as the law sees them -/
def toC (v : Cs) : NC.Cs := ⟨v.u, v.w, v.t, v.c, v.st⟩
def toV (v : Cs) (p s : Int) (b : Option Int) : NV.Cs := ⟨v.u, v.w, v.t, v.c, v.st, p, s, b⟩
def toD (v : Cs) (l la sm : Int) : ND.Cs := ⟨v.u, v.w, v.t, v.c, v.st, l, la, sm⟩
def Obj (T : Txt K mg) (N : Int) (p : Nat) (v : Cs) (e : Addr) (H : Hp) : Prop :=
  match p with
  | 0 => NB.CtAt T.c_Control H e v
  | 1 => NF.CtAt T.c_Fixed H e v
  | 2 => NC.CtAt T.c_Climb H e (toC v)
  | 3 => ∃ pk s b, NV.CtAt T.c_Curve H e (toV v pk s b) ∧ 0 ≤ s ∧ s ≤ 536870912 ∧ ∀ z, b = some z → 0 ≤ z ∧ z ≤ N
  | _ => ∃ l la sm, ND.CtAt T.c_Delay H e (toD v l la sm) ∧ 0 ≤ l ∧ l < 10 ^ 12 ∧ 0 ≤ la ∧ la < 10 ^ 12
structure Good (v : Cs) : Prop where
  u1 : 1 ≤ v.u
  u2 : v.u ≤ 65535
  uw : v.u ≤ v.w
  w2 : v.w ≤ 4194304
  c0 : 0 ≤ v.c
  c1 : v.c < v.w
theorem Good.w1 {v : Cs} (G : Good v) : 1 ≤ v.w := by have := G.u1; have := G.uw; omega
structure Seen (T : Txt K mg) (v : Cs) (e : Addr) (H : Hp) : Prop where
  at_ : ∃ C dx tl, H e = some (.ins C dx (("unit", .int v.u) :: ("window", .int v.w) :: ("threshold", .int v.t) :: ("credit", .int v.c) :: ("stalled", .bl v.st) :: tl)) ∧ Cls K C ∧ NoAttr K C "unit" ∧ NoAttr K C "window" ∧ NoAttr K C "threshold" ∧ NoAttr K C "credit" ∧ NoAttr K C "stalled"
theorem five {p : Nat} (h : p < 5) : p = 0 ∨ p = 1 ∨ p = 2 ∨ p = 3 ∨ p = 4 := by omega
theorem Obj.seen {T : Txt K mg} {N : Int} {p : Nat} {v : Cs} {e : Addr} {H : Hp} (hp : p < 5) (h : Obj T N p v e H) : Seen T v e H := by
  rcases five hp with rfl | rfl | rfl | rfl | rfl
  · obtain ⟨dx, h⟩ := h
    exact ⟨_, dx, _, h, T.cl_Control, T.n_Control_unit, T.n_Control_window, T.n_Control_threshold, T.n_Control_credit, T.n_Control_stalled⟩
  · obtain ⟨dx, h⟩ := h
    exact ⟨_, dx, _, h, T.cl_Fixed, T.n_Fixed_unit, T.n_Fixed_window, T.n_Fixed_threshold, T.n_Fixed_credit, T.n_Fixed_stalled⟩
  · obtain ⟨dx, h⟩ := h
    exact ⟨_, dx, _, h, T.cl_Climb, T.n_Climb_unit, T.n_Climb_window, T.n_Climb_threshold, T.n_Climb_credit, T.n_Climb_stalled⟩
  · obtain ⟨_, _, _, ⟨dx, h⟩, _⟩ := h
    exact ⟨_, dx, _, h, T.cl_Curve, T.n_Curve_unit, T.n_Curve_window, T.n_Curve_threshold, T.n_Curve_credit, T.n_Curve_stalled⟩
  · obtain ⟨_, _, _, ⟨dx, h⟩, _⟩ := h
    exact ⟨_, dx, _, h, T.cl_Delay, T.n_Delay_unit, T.n_Delay_window, T.n_Delay_threshold, T.n_Delay_credit, T.n_Delay_stalled⟩
theorem Obj.off {T : Txt K mg} {N : Int} {p : Nat} {v : Cs} {e : Addr} {H H' : Hp} {l : List Addr} (hp : p < 5) (h : Obj T N p v e H) (o : Off l H H') (n : e ∉ l) : Obj T N p v e H' := by
  rcases five hp with rfl | rfl | rfl | rfl | rfl
  · obtain ⟨dx, h⟩ := h
    exact ⟨dx, o _ _ n h⟩
  · obtain ⟨dx, h⟩ := h
    exact ⟨dx, o _ _ n h⟩
  · obtain ⟨dx, h⟩ := h
    exact ⟨dx, o _ _ n h⟩
  · obtain ⟨_, _, _, ⟨dx, h⟩, q⟩ := h
    exact ⟨_, _, _, ⟨dx, o _ _ n h⟩, q⟩
  · obtain ⟨_, _, _, ⟨dx, h⟩, q⟩ := h
    exact ⟨_, _, _, ⟨dx, o _ _ n h⟩, q⟩
theorem Obj.on {T : Txt K mg} {N : Int} {p : Nat} {v : Cs} {e b : Addr} {H H' : Hp} (hp : p < 5) (h : Obj T N p v e H) (s : SameX b H H') (n : e ≠ b) : Obj T N p v e H' := h.off hp (l := [b]) (Off.ofX (by simp) s) (by simp [n])
theorem Obj.mono {T : Txt K mg} {N M : Int} {p : Nat} {v : Cs} {e : Addr} {H : Hp} (hp : p < 5) (h : Obj T N p v e H) (l : N ≤ M) : Obj T M p v e H := by
  rcases five hp with rfl | rfl | rfl | rfl | rfl
  · exact h
  · exact h
  · exact h
  · obtain ⟨_, _, _, h, h1, h2, h3⟩ := h
    exact ⟨_, _, _, h, h1, h2, fun z e => by have := h3 z e; omega⟩
  · exact h
theorem Obj.ne {T : Txt K mg} {N : Int} {p : Nat} {v : Cs} {e b : Addr} {H : Hp} {xs : List V} (hp : p < 5) (h : Obj T N p v e H) (g : H b = some (.lst xs)) : e ≠ b := fun z => by
  obtain ⟨C, dx, tl, h, _⟩ := (h.seen hp).at_
  rw [z, g] at h
  cases h

/-! ### a call, whichever of the five it is -/
section
variable {T : Txt K mg} {N m n f : Int} {p : Nat} {v : Cs} {e : Addr} {H : Hp} {Q : VK} {te : TE} {ta : TA} {σ : L2.St} {E1 E2 E3 E4 E5 : XK}
theorem st_any (hp : p < 5) (h : Obj T N p v e H) (hte : ∀ R : VK, R (.ref e) H → te σ H R) (q : Q (.bl (decide (v.w < v.t))) H) :
    tEi (tProp T.c_Control (NB.sp_Control_starting T.c_Control) [] E1 te) (tEi (tProp T.c_Fixed (NF.sp_Control_starting T.c_Fixed) [] E2 te) (tEi (tProp T.c_Climb (NC.sp_Control_starting T.c_Climb) [] E3 te) (tEi (tProp T.c_Curve (NV.sp_Control_starting T.c_Curve) [] E4 te) (tProp T.c_Delay (ND.sp_Control_starting T.c_Delay) [] E5 te)))) σ H Q := by
  rcases five hp with rfl | rfl | rfl | rfl | rfl
  · obtain ⟨dx, he⟩ := id h
    refine .inl ?_
    exact hte _ ⟨e, dx, _, rfl, he, e, _, rfl, h, q⟩
  · obtain ⟨dx, he⟩ := id h
    refine .inr (.inl ?_)
    exact hte _ ⟨e, dx, _, rfl, he, e, _, rfl, h, q⟩
  · obtain ⟨dx, he⟩ := id h
    refine .inr (.inr (.inl ?_))
    exact hte _ ⟨e, dx, _, rfl, he, e, _, rfl, h, q⟩
  · obtain ⟨pk, s, b, hc, s0, s1, hb⟩ := h
    obtain ⟨dx, he⟩ := id hc
    refine .inr (.inr (.inr (.inl ?_)))
    exact hte _ ⟨e, dx, _, rfl, he, e, _, rfl, hc, q⟩
  · obtain ⟨l, la, sm, hc, l0, l1, m0, m1⟩ := h
    obtain ⟨dx, he⟩ := id hc
    refine .inr (.inr (.inr (.inr ?_)))
    exact hte _ ⟨e, dx, _, rfl, he, e, _, rfl, hc, q⟩
end

/-- what a growth may do at the place p -/
structure Grow (p : Nat) (v y : Cs) (n : Int) : Prop where
  u : y.u = v.u
  t : y.t = v.t
  g : Good y
  sum : y.w + y.c ≤ v.w + v.c + n
  few : p < 2 → y.w = v.w ∧ y.c = v.c
  del : p = 4 → min v.w (3 * v.u + 1) ≤ y.w
  up : p ≠ 4 → v.w ≤ y.w
structure Ack (p : Nat) (v y : Cs) (n f : Int) : Prop where
  u : y.u = v.u
  t : y.t = v.t
  st : y.st = false
  g : Good y
  sum : y.w + y.c ≤ v.w + v.c + n
  idle : p = 1 ∨ 2 * (f + n) < v.w → y.w = v.w ∧ y.c = v.c
  start : ¬ (p = 1 ∨ 2 * (f + n) < v.w) → v.w < v.t → y.w = min 4194304 (v.w + min n v.u) ∧ y.c = v.c
  grow : ¬ (p = 1 ∨ 2 * (f + n) < v.w) → ¬ v.w < v.t → Grow p v y n
theorem climbs_bound {u : Int} {f : Int → Int} (u1 : 1 ≤ u) (hf : ∀ w, u ≤ w → w ≤ 4194304 → u ≤ f w ∧ f w ≤ 4194304 ∧ f w ≤ w + u) {c w c' w' : Int} (h : Climbs f c w c' w') (c0 : 0 ≤ c) (uw : u ≤ w) (w2 : w ≤ 4194304) : u ≤ w' ∧ w' ≤ 4194304 ∧ 0 ≤ c' ∧ c' < w' ∧ w' + c' ≤ w + c := by
  induction h with
  | done h => exact ⟨uw, w2, c0, h, by omega⟩
  | @step c w c' w' h _ ih =>
    obtain ⟨h1, h2, h3⟩ := hf w uw w2
    obtain ⟨i1, i2, i3, i4, i5⟩ := ih (by omega) h1 h2
    exact ⟨i1, i2, i3, i4, by omega⟩
theorem climbs_least {f : Int → Int} {L : Int} (hf : ∀ w, L ≤ w → L ≤ f w) {c w c' w' : Int} (h : Climbs f c w c' w') (l : L ≤ w) : L ≤ w' := by
  induction h with
  | done h => exact l
  | step h _ ih => exact ih (hf _ l)
theorem sur_le {l la w : Int} (l0 : 0 ≤ l) (m0 : 0 ≤ la) (w0 : 0 ≤ w) : ND.sur l la w ≤ w := by
  unfold ND.sur
  split
  · exact w0
  · refine Int.ediv_le_of_le_mul (by omega) ?_
    exact Int.mul_le_mul_of_nonneg_left (by omega) w0
theorem up_bound {v : Cs} (G : Good v) : ∀ w, v.u ≤ w → w ≤ 4194304 → v.u ≤ min (w + v.u) 4194304 ∧ min (w + v.u) 4194304 ≤ 4194304 ∧ min (w + v.u) 4194304 ≤ w + v.u := fun w h1 h2 => by
  have := G.u1
  omega
theorem rise_bound {v : Cs} {l la : Int} (G : Good v) : ∀ w, v.u ≤ w → w ≤ 4194304 → v.u ≤ ND.rise v.u l la w ∧ ND.rise v.u l la w ≤ 4194304 ∧ ND.rise v.u l la w ≤ w + v.u := fun w h1 h2 => by
  have := G.u1
  have := G.u2
  unfold ND.rise
  split
  · omega
  · split <;> omega
theorem rise_least {v : Cs} {l la : Int} (G : Good v) (l0 : 0 ≤ l) (m0 : 0 ≤ la) (L : Int) (hL : L ≤ 3 * v.u + 1) (hG : L ≤ 4194304) : ∀ w, v.u ≤ w ∧ L ≤ w → v.u ≤ ND.rise v.u l la w ∧ L ≤ ND.rise v.u l la w := fun w ⟨h1, h2⟩ => by
  have := G.u1
  have := G.u2
  have s := sur_le (w := w) l0 m0 (by omega)
  unfold ND.rise
  split
  · omega
  · split <;> omega
theorem climbs_grow {v : Cs} {p : Nat} {n c' w' : Int} (G : Good v) (n0 : 0 ≤ n) (hp : p = 2 ∨ p = 3) (h : Climbs (fun w => min (w + v.u) 4194304) (v.c + n) v.w c' w') (b : Bool) : Grow p v { v with c := c', w := w', st := b } n := by
  obtain ⟨h1, h2, h3, h4, h5⟩ := climbs_bound G.u1 (up_bound G) h (by have := G.c0; omega) G.uw G.w2
  have hl := climbs_least (L := v.w) (fun w hw => by have := G.u1; have := G.w2; show v.w ≤ min (w + v.u) 4194304; omega) h (Int.le_refl _)
  exact ⟨rfl, rfl, ⟨G.u1, G.u2, h1, h2, h3, h4⟩, by show w' + c' ≤ v.w + v.c + n; omega, fun z => by omega, fun z => by omega, fun _ => hl⟩
theorem delays_grow {v : Cs} {l la n c' w' : Int} (G : Good v) (l0 : 0 ≤ l) (m0 : 0 ≤ la) (n0 : 0 ≤ n) (h : Climbs (ND.rise v.u l la) (v.c + n) v.w c' w') (b : Bool) : Grow 4 v { v with c := c', w := w', st := b } n := by
  obtain ⟨h1, h2, h3, h4, h5⟩ := climbs_bound G.u1 (rise_bound G) h (by have := G.c0; omega) G.uw G.w2
  have key : ∀ {c w c' w' : Int}, Climbs (ND.rise v.u l la) c w c' w' → v.u ≤ w ∧ min v.w (3 * v.u + 1) ≤ w → v.u ≤ w' ∧ min v.w (3 * v.u + 1) ≤ w' := fun {c w c' w'} h => by
    induction h with
    | done h => exact fun z => z
    | step h _ ih => exact fun z => ih (rise_least G l0 m0 _ (by omega) (by have := G.w2; omega) _ z)
  have hl := (key h ⟨G.uw, by omega⟩).2
  exact ⟨rfl, rfl, ⟨G.u1, G.u2, h1, h2, h3, h4⟩, by show w' + c' ≤ v.w + v.c + n; omega, fun z => by omega, fun _ => hl, fun z => absurd rfl z⟩
theorem Grow.of {p : Nat} {v y : Cs} {n : Int} {b : Bool} (h : Grow p { v with st := b } y n) : Grow p v y n := ⟨h.u, h.t, h.g, h.sum, h.few, h.del, h.up⟩
theorem Good.st {v : Cs} (G : Good v) (b : Bool) : Good { v with st := b } := ⟨G.u1, G.u2, G.uw, G.w2, G.c0, G.c1⟩
theorem Ack.mk_idle {p : Nat} {v : Cs} {n f : Int} (G : Good v) (n0 : 0 ≤ n) (h : 2 * (f + n) < v.w) : Ack p v { v with st := false } n f :=
  ⟨rfl, rfl, rfl, G.st false, by show v.w + v.c ≤ v.w + v.c + n; omega, fun _ => ⟨rfl, rfl⟩, fun z => absurd (.inr h) z, fun z => absurd (.inr h) z⟩
theorem Ack.mk_start {p : Nat} {v : Cs} {n f : Int} (G : Good v) (n0 : 1 ≤ n) (hp : p ≠ 1) (h : ¬ 2 * (f + n) < v.w) (g : v.w < v.t) : Ack p v { v with st := false, w := min (v.w + min n v.u) 4194304 } n f := by
  have := G.u1
  have := G.uw
  have := G.w2
  have := G.c1
  refine ⟨rfl, rfl, rfl, ⟨G.u1, G.u2, ?_, ?_, G.c0, ?_⟩, ?_, fun z => by omega, fun _ _ => ⟨?_, rfl⟩, fun _ z => absurd g z⟩
  · show v.u ≤ min (v.w + min n v.u) 4194304; omega
  · show min (v.w + min n v.u) 4194304 ≤ 4194304; omega
  · show v.c < min (v.w + min n v.u) 4194304; omega
  · show min (v.w + min n v.u) 4194304 + v.c ≤ v.w + v.c + n; omega
  · show min (v.w + min n v.u) 4194304 = min 4194304 (v.w + min n v.u); omega
theorem Ack.mk_grow {p : Nat} {v y : Cs} {n f : Int} (hp : p ≠ 1) (h : ¬ 2 * (f + n) < v.w) (g : ¬ v.w < v.t) (st : y.st = false) (r : Grow p v y n) : Ack p v y n f :=
  ⟨r.u, r.t, st, r.g, r.sum, fun z => by omega, fun _ z => absurd z g, fun _ _ => r⟩

/-! ### a call, whichever of the five it is -/
section
variable {T : Txt K mg} {N m n f : Int} {p : Nat} {v : Cs} {e : Addr} {H : Hp} {Q : VK} {te : TE} {ta : TA} {σ : L2.St} {E1 E2 E3 E4 E5 : XK}
def vwV (y : NV.Cs) : Cs := ⟨y.u, y.w, y.t, y.c, y.st⟩
def vwC (y : NC.Cs) : Cs := ⟨y.u, y.w, y.t, y.c, y.st⟩
def vwD (y : ND.Cs) : Cs := ⟨y.u, y.w, y.t, y.c, y.st⟩
theorem grownV {pk s : Int} {b : Option Int} {now : V} {y : NV.Cs} (G : Good v) (n0 : 0 ≤ n) (g : NV.Grown (toV v pk s b) n now y) : Grow 3 v (vwV y) n ∧ y.st = v.st ∧ y.p = pk ∧ y.s = s ∧ y.b = b := by
  cases g with
  | @climb c' w' h r => exact ⟨climbs_grow G n0 (.inr rfl) r v.st, rfl, rfl, rfl, rfl⟩
  | @curve b' m' h e' =>
    have := G.uw
    have := G.w2
    have := G.c1
    have := G.u1
    refine ⟨⟨rfl, rfl, ⟨G.u1, G.u2, ?_, ?_, G.c0, ?_⟩, ?_, fun z => by omega, fun z => by omega, fun _ => ?_⟩, rfl, rfl, rfl, rfl⟩
    · show v.u ≤ min (min (v.w + n) (max v.w _)) 4194304; omega
    · show min (min (v.w + n) (max v.w _)) 4194304 ≤ 4194304; omega
    · show v.c < min (min (v.w + n) (max v.w _)) 4194304; omega
    · show min (min (v.w + n) (max v.w _)) 4194304 + v.c ≤ v.w + v.c + n; omega
    · show v.w ≤ min (min (v.w + n) (max v.w _)) 4194304; omega
theorem ackedV {pk s : Int} {b : Option Int} {now : V} {y : NV.Cs} (G : Good v) (n0 : 1 ≤ n) (a : NV.Acked (toV v pk s b) n f now y) : Ack 3 v (vwV y) n f ∧ y.p = pk ∧ y.s = s ∧ y.b = b := by
  cases a with
  | idle h => exact ⟨.mk_idle G (by omega) h, rfl, rfl, rfl⟩
  | start h g => exact ⟨.mk_start G n0 (by decide) h g, rfl, rfl, rfl⟩
  | grow h g r =>
    obtain ⟨r1, r2, r3⟩ := grownV (v := { v with st := false }) (G.st false) (by omega) r
    exact ⟨.mk_grow (by decide) h g r2 r1.of, r3⟩
theorem ackedC {now : V} {y : NC.Cs} (G : Good v) (n0 : 1 ≤ n) (a : NC.Acked (toC v) n f now y) : Ack 2 v (vwC y) n f := by
  cases a with
  | idle h => exact .mk_idle G (by omega) h
  | start h g => exact .mk_start G n0 (by decide) h g
  | grow h g r => cases r with
    | mk r => exact .mk_grow (by decide) h g rfl (climbs_grow G (by omega) (.inl rfl) r false)
theorem ackedD {l la sm : Int} {now : V} {y : ND.Cs} (G : Good v) (l0 : 0 ≤ l) (m0 : 0 ≤ la) (n0 : 1 ≤ n) (a : ND.Acked (toD v l la sm) n f now y) : Ack 4 v (vwD y) n f ∧ y.l = l ∧ y.la = la ∧ y.sm = sm := by
  cases a with
  | idle h => exact ⟨.mk_idle G (by omega) h, rfl, rfl, rfl⟩
  | start h g => exact ⟨.mk_start G n0 (by decide) h g, rfl, rfl, rfl⟩
  | grow h g r => cases r with
    | mk r => exact ⟨.mk_grow (by decide) h g rfl (delays_grow G l0 m0 (by omega) r false), rfl, rfl, rfl⟩
theorem ackedB (G : Good v) (n0 : 1 ≤ n) : Ack 0 v (NB.Cs.acked v n f) n f := by
  unfold NB.Cs.acked
  split
  · rename_i h
    exact .mk_idle G (by omega) h
  · rename_i h
    split
    · rename_i g
      exact .mk_start G n0 (by decide) h g
    · rename_i g
      exact .mk_grow (by decide) h g rfl ⟨rfl, rfl, G.st false, by show v.w + v.c ≤ v.w + v.c + n; omega, fun _ => ⟨rfl, rfl⟩, fun z => by omega, fun _ => Int.le_refl _⟩
theorem readyV {pk s : Int} {b : Option Int} (G : Good v) (s0 : 0 ≤ s) (s1 : s ≤ 536870912) (hb : ∀ z, b = some z → 0 ≤ z ∧ z ≤ N) (Nm : N ≤ m) (mm : m ≤ 10 ^ 14) : (toV v pk s b).Ready (.int m) := ⟨G.u1, G.w1, G.u2, fun z e => by
  have := hb z e
  refine ⟨m, rfl, ?_⟩
  show -(2 ^ 62) < m - z - s ∧ m - z - s < 2 ^ 62
  omega⟩
theorem fitD {l la sm : Int} (G : Good v) (l0 : 0 ≤ l) (l1 : l < 10 ^ 12) (m0 : 0 ≤ la) (m1 : la < 10 ^ 12) : (toD v l la sm).Fit := ⟨G.u1, l0, by show l < 2 ^ 62; omega, m0, by show la < 2 ^ 62; omega⟩
theorem ack_any (hp : p < 5) (h : Obj T N p v e H) (G : Good v) (n1 : 1 ≤ n) (n2 : n ≤ 65535) (Nm : N ≤ m) (mm : m ≤ 10 ^ 14) (hte : ∀ R : VK, R (.ref e) H → te σ H R) (hta : ∀ R : List V → Hp → Prop, R [.int n, .int f, .int m] H → ta σ H R)
    (q : ∀ H' y, SameX e H H' → Ack p v y n f → Obj T m p y e H' → Q .non H') :
    tEi (tMeth T.c_Control "on_ack" (NB.sp_Control_on_ack K T.c_Control T.c_InvalidNumber) [] E1 te ta) (tEi (tMeth T.c_Fixed "on_ack" (NF.sp_Fixed_on_ack K T.c_Fixed T.c_InvalidNumber) [] E2 te ta) (tEi (tMeth T.c_Climb "on_ack" (NC.sp_Climb_on_ack K T.c_Climb T.c_InvalidNumber) [] E3 te ta) (tEi (tMeth T.c_Curve "on_ack" (NV.sp_Curve_on_ack K T.c_Curve T.c_InvalidNumber) [] E4 te ta) (tMeth T.c_Delay "on_ack" (ND.sp_Delay_on_ack K T.c_Delay T.c_InvalidNumber) [] E5 te ta)))) σ H Q := by
  rcases five hp with rfl | rfl | rfl | rfl | rfl
  · obtain ⟨dx, he⟩ := id h
    refine .inl ?_
    refine hte _ ⟨e, dx, _, rfl, he, rfl, hta _ ?_⟩
    exact ⟨e, _, _, f, v, rfl, h, .inl ⟨n, rfl, n1, n2, fun H1 s1 h1 => q H1 _ s1 (ackedB G n1) h1⟩⟩
  · obtain ⟨dx, he⟩ := id h
    refine .inr (.inl ?_)
    refine hte _ ⟨e, dx, _, rfl, he, rfl, hta _ ?_⟩
    exact ⟨e, _, _, f, v, rfl, h, .inl ⟨n, rfl, n1, n2, fun H1 s1 h1 => q H1 { v with st := false } s1 ⟨rfl, rfl, rfl, G.st false, by show v.w + v.c ≤ v.w + v.c + n; omega, fun _ => ⟨rfl, rfl⟩, fun z => absurd (.inl rfl) z, fun z => absurd (.inl rfl) z⟩ h1⟩⟩
  · obtain ⟨dx, he⟩ := id h
    refine .inr (.inr (.inl ?_))
    refine hte _ ⟨e, dx, _, rfl, he, rfl, hta _ ?_⟩
    exact ⟨e, _, _, f, toC v, rfl, h, .inl ⟨n, rfl, n1, n2, ⟨G.u1, G.w1⟩, fun H1 y s1 a h1 => q H1 _ s1 (ackedC G n1 a) h1⟩⟩
  · obtain ⟨pk, s, b, hc, s0, s1, hb⟩ := h
    obtain ⟨dx, he⟩ := id hc
    refine .inr (.inr (.inr (.inl ?_)))
    refine hte _ ⟨e, dx, _, rfl, he, rfl, hta _ ?_⟩
    refine ⟨e, _, _, f, toV v pk s b, rfl, hc, .inl ⟨n, rfl, n1, n2, readyV G s0 s1 hb Nm mm, fun H1 y t1 a h1 => ?_⟩⟩
    obtain ⟨a1, rfl, rfl, rfl⟩ := ackedV G n1 a
    exact q H1 _ t1 a1 ⟨_, _, _, h1, s0, s1, fun z e => by have := hb z e; omega⟩
  · obtain ⟨l, la, sm, hc, l0, l1, m0, m1⟩ := h
    obtain ⟨dx, he⟩ := id hc
    refine .inr (.inr (.inr (.inr ?_)))
    refine hte _ ⟨e, dx, _, rfl, he, rfl, hta _ ?_⟩
    refine ⟨e, _, _, f, toD v l la sm, rfl, hc, .inl ⟨n, rfl, n1, n2, ⟨fitD G l0 l1 m0 m1, G.w1⟩, fun H1 y t1 a h1 => ?_⟩⟩
    obtain ⟨a1, rfl, rfl, rfl⟩ := ackedD G l0 m0 n1 a
    exact q H1 _ t1 a1 ⟨_, _, _, h1, l0, l1, m0, m1⟩
theorem grow_any (hp : p < 5) (h : Obj T N p v e H) (G : Good v) (n1 : 1 ≤ n) (n2 : n ≤ 65535) (Nm : N ≤ m) (mm : m ≤ 10 ^ 14) (hte : ∀ R : VK, R (.ref e) H → te σ H R) (hta : ∀ R : List V → Hp → Prop, R [.int n, .int m] H → ta σ H R)
    (q : ∀ H' y, SameX e H H' → Grow p v y n → y.st = v.st → Obj T m p y e H' → Q .non H') :
    tEi (tMeth T.c_Control "grow" (NB.sp_Control_grow K T.c_Control T.c_InvalidNumber) [] E1 te ta) (tEi (tMeth T.c_Fixed "grow" (NF.sp_Fixed_grow K T.c_Fixed T.c_InvalidNumber) [] E2 te ta) (tEi (tMeth T.c_Climb "grow" (NC.sp_Climb_grow K T.c_Climb T.c_InvalidNumber) [] E3 te ta) (tEi (tMeth T.c_Curve "grow" (NV.sp_Curve_grow K T.c_Curve T.c_InvalidNumber) [] E4 te ta) (tMeth T.c_Delay "grow" (ND.sp_Delay_grow K T.c_Delay T.c_InvalidNumber) [] E5 te ta)))) σ H Q := by
  rcases five hp with rfl | rfl | rfl | rfl | rfl
  · obtain ⟨dx, he⟩ := id h
    refine .inl ?_
    refine hte _ ⟨e, dx, _, rfl, he, rfl, hta _ ?_⟩
    exact ⟨e, _, _, v, rfl, h, .inl ⟨n, rfl, n1, n2, q H v SameX.refl ⟨rfl, rfl, G, by omega, fun _ => ⟨rfl, rfl⟩, fun z => by omega, fun _ => Int.le_refl _⟩ rfl h⟩⟩
  · obtain ⟨dx, he⟩ := id h
    refine .inr (.inl ?_)
    refine hte _ ⟨e, dx, _, rfl, he, rfl, hta _ ?_⟩
    exact ⟨e, _, _, v, rfl, h, .inl ⟨n, rfl, n1, n2, q H v SameX.refl ⟨rfl, rfl, G, by omega, fun _ => ⟨rfl, rfl⟩, fun z => by omega, fun _ => Int.le_refl _⟩ rfl h⟩⟩
  · obtain ⟨dx, he⟩ := id h
    refine .inr (.inr (.inl ?_))
    refine hte _ ⟨e, dx, _, rfl, he, rfl, hta _ ?_⟩
    exact ⟨e, _, _, toC v, rfl, h, .inl ⟨n, rfl, n1, n2, G.u1, G.w1, fun H1 c' w' t1 r h1 => q H1 _ t1 (climbs_grow G (by omega) (.inl rfl) r v.st) rfl h1⟩⟩
  · obtain ⟨pk, s, b, hc, s0, s1, hb⟩ := h
    obtain ⟨dx, he⟩ := id hc
    refine .inr (.inr (.inr (.inl ?_)))
    refine hte _ ⟨e, dx, _, rfl, he, rfl, hta _ ?_⟩
    refine ⟨e, _, _, toV v pk s b, rfl, hc, .inl ⟨n, rfl, n1, n2, readyV G s0 s1 hb Nm mm, fun H1 y t1 g h1 => ?_⟩⟩
    obtain ⟨a1, a2, rfl, rfl, rfl⟩ := grownV G (by omega) g
    exact q H1 _ t1 a1 a2 ⟨_, _, _, h1, s0, s1, fun z e => by have := hb z e; omega⟩
  · obtain ⟨l, la, sm, hc, l0, l1, m0, m1⟩ := h
    obtain ⟨dx, he⟩ := id hc
    refine .inr (.inr (.inr (.inr ?_)))
    refine hte _ ⟨e, dx, _, rfl, he, rfl, hta _ ?_⟩
    exact ⟨e, _, _, toD v l la sm, rfl, hc, .inl ⟨n, rfl, n1, n2, fitD G l0 l1 m0 m1, G.w1, fun H1 c' w' t1 r h1 => q H1 _ t1 (delays_grow G l0 m0 (by omega) r v.st) rfl ⟨_, _, _, h1, l0, l1, m0, m1⟩⟩⟩
def lossV (p : Nat) (v : Cs) (f : Int) : Cs := if p = 1 then v else if p = 3 then { v with t := max (v.w * 7 / 10) (2 * v.u), w := max (v.w * 7 / 10) (2 * v.u), c := 0 } else NB.Cs.lost v f
def expV (p : Nat) (v : Cs) (f : Int) : Cs := if p = 1 then { v with st := true } else NB.Cs.expired v f
theorem lossV_good {p : Nat} (G : Good v) (f0 : 0 ≤ f) : Good (lossV p v f) := by
  have := G.u1
  have := G.u2
  have := G.uw
  have := G.w2
  unfold lossV
  split
  · exact G
  · split
    · refine ⟨G.u1, G.u2, ?_, ?_, Int.le_refl 0, ?_⟩
      · show v.u ≤ max (v.w * 7 / 10) (2 * v.u); omega
      · show max (v.w * 7 / 10) (2 * v.u) ≤ 4194304; omega
      · show 0 < max (v.w * 7 / 10) (2 * v.u); omega
    · refine ⟨G.u1, G.u2, ?_, ?_, Int.le_refl 0, ?_⟩
      · show v.u ≤ min (max (f / 2) (2 * v.u)) 4194304; omega
      · show min (max (f / 2) (2 * v.u)) 4194304 ≤ 4194304; omega
      · show 0 < min (max (f / 2) (2 * v.u)) 4194304; omega
theorem expV_good {p : Nat} (G : Good v) : Good (expV p v f) := by
  have := G.u1
  have := G.u2
  unfold expV
  split
  · exact G.st true
  · exact ⟨G.u1, G.u2, Int.le_refl _, by show v.u ≤ 4194304; omega, Int.le_refl 0, by show 0 < v.u; omega⟩
theorem loss_any (hp : p < 5) (h : Obj T N p v e H) (G : Good v) (f0 : 0 ≤ f) (Nm : N ≤ m) (m0' : 0 ≤ m) (hte : ∀ R : VK, R (.ref e) H → te σ H R) (hta : ∀ R : List V → Hp → Prop, R [.int f, .int m] H → ta σ H R)
    (q : ∀ H', SameX e H H' → Obj T m p (lossV p v f) e H' → (p = 3 → ∃ s, NV.CtAt T.c_Curve H' e (toV (lossV p v f) v.w s (some m))) → Q .non H') :
    tEi (tMeth T.c_Control "on_loss" (NB.sp_Control_on_loss T.c_Control) [] E1 te ta) (tEi (tMeth T.c_Fixed "on_loss" (NF.sp_Fixed_on_loss) [] E2 te ta) (tEi (tMeth T.c_Climb "on_loss" (NC.sp_Climb_on_loss T.c_Climb) [] E3 te ta) (tEi (tMeth T.c_Curve "on_loss" (NV.sp_Curve_on_loss T.c_Curve) [] E4 te ta) (tMeth T.c_Delay "on_loss" (ND.sp_Delay_on_loss T.c_Delay) [] E5 te ta)))) σ H Q := by
  rcases five hp with rfl | rfl | rfl | rfl | rfl
  · obtain ⟨dx, he⟩ := id h
    refine .inl ?_
    refine hte _ ⟨e, dx, _, rfl, he, rfl, hta _ ?_⟩
    exact ⟨e, v, f, _, rfl, h, f0, fun H1 t1 h1 => q H1 t1 h1 (fun z => by omega)⟩
  · obtain ⟨dx, he⟩ := id h
    refine .inr (.inl ?_)
    refine hte _ ⟨e, dx, _, rfl, he, rfl, hta _ ?_⟩
    exact ⟨_, _, _, rfl, q H SameX.refl h (fun z => by omega)⟩
  · obtain ⟨dx, he⟩ := id h
    refine .inr (.inr (.inl ?_))
    refine hte _ ⟨e, dx, _, rfl, he, rfl, hta _ ?_⟩
    exact ⟨e, toC v, f, _, rfl, h, f0, fun H1 t1 h1 => q H1 t1 h1 (fun z => by omega)⟩
  · obtain ⟨pk, s, b, hc, s0, s1, hb⟩ := h
    obtain ⟨dx, he⟩ := id hc
    refine .inr (.inr (.inr (.inl ?_)))
    refine hte _ ⟨e, dx, _, rfl, he, rfl, hta _ ?_⟩
    refine ⟨e, toV v pk s b, _, m, rfl, hc, G.u1, G.u2, G.w1, G.w2, fun H1 s' t1 hs h1 => ?_⟩
    have hle := hs.le G.u1
    have hw : 64 * (v.w - max (v.w * 7 / 10) (2 * v.u)) ≤ 536870912 := by have := G.w2; have := G.uw; have := G.u1; omega
    have hle : s' = 0 ∨ s' ≤ 64 * (v.w - max (v.w * 7 / 10) (2 * v.u)) := hle
    exact q H1 t1 ⟨v.w, s', some m, h1, hs.s0, by omega, fun z e => by cases e; omega⟩ (fun _ => ⟨s', h1⟩)
  · obtain ⟨l, la, sm, hc, l0, l1, m0, m1⟩ := h
    obtain ⟨dx, he⟩ := id hc
    refine .inr (.inr (.inr (.inr ?_)))
    refine hte _ ⟨e, dx, _, rfl, he, rfl, hta _ ?_⟩
    exact ⟨e, toD v l la sm, f, _, rfl, hc, f0, fun H1 t1 h1 => q H1 t1 ⟨l, la, sm, h1, l0, l1, m0, m1⟩ (fun z => by omega)⟩
theorem expiry_any (hp : p < 5) (h : Obj T N p v e H) (G : Good v) (f0 : 0 ≤ f) (Nm : N ≤ m) (hte : ∀ R : VK, R (.ref e) H → te σ H R) (hta : ∀ R : List V → Hp → Prop, R [.int f, .int m] H → ta σ H R)
    (q : ∀ H', SameX e H H' → Obj T m p (expV p v f) e H' → (p = 3 → ∃ s, NV.CtAt T.c_Curve H' e (toV (expV p v f) v.w s none)) → Q .non H') :
    tEi (tMeth T.c_Control "on_expiry" (NB.sp_Control_on_expiry T.c_Control) [] E1 te ta) (tEi (tMeth T.c_Fixed "on_expiry" (NF.sp_Fixed_on_expiry T.c_Fixed) [] E2 te ta) (tEi (tMeth T.c_Climb "on_expiry" (NC.sp_Climb_on_expiry T.c_Climb) [] E3 te ta) (tEi (tMeth T.c_Curve "on_expiry" (NV.sp_Curve_on_expiry T.c_Curve) [] E4 te ta) (tMeth T.c_Delay "on_expiry" (ND.sp_Delay_on_expiry T.c_Delay) [] E5 te ta)))) σ H Q := by
  rcases five hp with rfl | rfl | rfl | rfl | rfl
  · obtain ⟨dx, he⟩ := id h
    refine .inl ?_
    refine hte _ ⟨e, dx, _, rfl, he, rfl, hta _ ?_⟩
    exact ⟨e, v, f, _, rfl, h, f0, fun H1 t1 h1 => q H1 t1 h1 (fun z => by omega)⟩
  · obtain ⟨dx, he⟩ := id h
    refine .inr (.inl ?_)
    refine hte _ ⟨e, dx, _, rfl, he, rfl, hta _ ?_⟩
    exact ⟨e, _, _, v, rfl, h, fun H1 t1 h1 => q H1 t1 h1 (fun z => by omega)⟩
  · obtain ⟨dx, he⟩ := id h
    refine .inr (.inr (.inl ?_))
    refine hte _ ⟨e, dx, _, rfl, he, rfl, hta _ ?_⟩
    exact ⟨e, toC v, f, _, rfl, h, f0, fun H1 t1 h1 => q H1 t1 h1 (fun z => by omega)⟩
  · obtain ⟨pk, s, b, hc, s0, s1, hb⟩ := h
    obtain ⟨dx, he⟩ := id hc
    refine .inr (.inr (.inr (.inl ?_)))
    refine hte _ ⟨e, dx, _, rfl, he, rfl, hta _ ?_⟩
    exact ⟨e, toV v pk s b, f, _, rfl, hc, f0, fun H1 t1 h1 => q H1 t1 ⟨v.w, s, none, h1, s0, s1, fun z e => nomatch e⟩ (fun _ => ⟨s, h1⟩)⟩
  · obtain ⟨l, la, sm, hc, l0, l1, m0, m1⟩ := h
    obtain ⟨dx, he⟩ := id hc
    refine .inr (.inr (.inr (.inr ?_)))
    refine hte _ ⟨e, dx, _, rfl, he, rfl, hta _ ?_⟩
    exact ⟨e, toD v l la sm, f, _, rfl, hc, f0, fun H1 t1 h1 => q H1 t1 ⟨l, la, sm, h1, l0, l1, m0, m1⟩ (fun z => by omega)⟩
theorem sample_any (hp : p < 5) (h : Obj T N p v e H) (G : Good v) (n0 : 0 ≤ n) (n1 : n < 10 ^ 12) (hte : ∀ R : VK, R (.ref e) H → te σ H R) (hta : ∀ R : List V → Hp → Prop, R [.int n] H → ta σ H R)
    (q : ∀ H', SameX e H H' → Obj T N p v e H' → Q .non H') :
    tEi (tMeth T.c_Control "on_sample" (NB.sp_Control_on_sample) [] E1 te ta) (tEi (tMeth T.c_Fixed "on_sample" (NF.sp_Fixed_on_sample) [] E2 te ta) (tEi (tMeth T.c_Climb "on_sample" (NC.sp_Climb_on_sample T.c_Climb) [] E3 te ta) (tEi (tMeth T.c_Curve "on_sample" (NV.sp_Curve_on_sample T.c_Curve) [] E4 te ta) (tMeth T.c_Delay "on_sample" (ND.sp_Delay_on_sample T.c_Delay) [] E5 te ta)))) σ H Q := by
  rcases five hp with rfl | rfl | rfl | rfl | rfl
  · obtain ⟨dx, he⟩ := id h
    refine .inl ?_
    refine hte _ ⟨e, dx, _, rfl, he, rfl, hta _ ?_⟩
    exact ⟨_, _, rfl, q H SameX.refl h⟩
  · obtain ⟨dx, he⟩ := id h
    refine .inr (.inl ?_)
    refine hte _ ⟨e, dx, _, rfl, he, rfl, hta _ ?_⟩
    exact ⟨_, _, rfl, q H SameX.refl h⟩
  · obtain ⟨dx, he⟩ := id h
    refine .inr (.inr (.inl ?_))
    refine hte _ ⟨e, dx, _, rfl, he, rfl, hta _ ?_⟩
    exact ⟨e, _, toC v, rfl, h, q H SameX.refl h⟩
  · obtain ⟨pk, s, b, hc, s0, s1, hb⟩ := h
    obtain ⟨dx, he⟩ := id hc
    refine .inr (.inr (.inr (.inl ?_)))
    refine hte _ ⟨e, dx, _, rfl, he, rfl, hta _ ?_⟩
    exact ⟨e, _, toV v pk s b, rfl, hc, q H SameX.refl ⟨pk, s, b, hc, s0, s1, hb⟩⟩
  · obtain ⟨l, la, sm, hc, l0, l1, m0, m1⟩ := h
    obtain ⟨dx, he⟩ := id hc
    refine .inr (.inr (.inr (.inr ?_)))
    refine hte _ ⟨e, dx, _, rfl, he, rfl, hta _ ?_⟩
    refine ⟨e, n, toD v l la sm, rfl, hc, fun H1 t1 h1 => q H1 t1 ⟨if sm = 0 then n else min l n, n, sm + 1, h1, ?_, ?_, n0, n1⟩⟩
    · split <;> omega
    · split <;> omega
end
theorem x_callS {σ : L2.St} {H : Hp} {Q : VK} {sp : Sp} {E : L2.St → XK} {t : TA} (q : t σ H fun vs H1 => sp vs H1 Q (E σ)) : tCallS sp E t σ H Q := q
theorem x_con {K : PySem.W.Frag} {te : TE} {f : Str} {σ : L2.St} {H : Hp} {Q : VK} (q : te σ H fun x H1 => ∃ a C dx fs v u, x = .ref a ∧ H1 a = some (.ins C dx fs) ∧ Cls K C ∧ Con K C f v u ∧ fs.lookup f = none ∧ Q v H1) : tCon K te f σ H Q := q
theorem x_neB {i j : Bool} {H : Hp} {Q : VK} (q : Q (.bl (!decide (i = j))) H) : rNe (.bl i) (.bl j) H Q := ⟨rfl, by
  have e : decide (V.bl i = V.bl j) = decide (i = j) := by cases i <;> cases j <;> decide +kernel
  rw [e]; exact q⟩
theorem x_eqB {i j : Bool} {H : Hp} {Q : VK} (q : Q (.bl (decide (i = j))) H) : rEq (.bl i) (.bl j) H Q := ⟨rfl, by
  have e : decide (V.bl i = V.bl j) = decide (i = j) := by cases i <;> cases j <;> decide +kernel
  rw [e]; exact q⟩
local macro_rules
  | `(tactic| w_up) => `(tactic| first | with_reducible refine x_callS ?_ | with_reducible refine x_con ?_ | with_reducible refine x_neB ?_ | with_reducible refine x_eqB ?_)
/-! ### the kinds, and what is no kind -/
def fr (u t : Int) : Cs := ⟨u, u * t, 4194304, 0, false⟩
def kindOf (p : Nat) : Str := match p with | 1 => "fixed" | 2 => "climb" | 3 => "curve" | _ => "delay"
theorem fr2 (u : Int) : fr u 2 = ⟨u, 2 * u, 4194304, 0, false⟩ := by unfold fr; rw [Int.mul_comm]
/-- a control as it was made -/
def Fr (T : Txt K mg) (p : Nat) (v : Cs) (e : Addr) (H : Hp) : Prop :=
  match p with
  | 0 => NB.CtAt T.c_Control H e v
  | 1 => NF.CtAt T.c_Fixed H e v
  | 2 => NC.CtAt T.c_Climb H e (toC v)
  | 3 => NV.CtAt T.c_Curve H e (toV v 0 0 none)
  | _ => ND.CtAt T.c_Delay H e (toD v 0 0 0)
theorem Fr.obj {T : Txt K mg} {p : Nat} {v : Cs} {e : Addr} {H : Hp} (hp : p < 5) (h : Fr T p v e H) : Obj T 0 p v e H := by
  rcases five hp with rfl | rfl | rfl | rfl | rfl
  · exact h
  · exact h
  · exact h
  · exact ⟨0, 0, none, h, by decide, by decide, fun z h => by cases h⟩
  · exact ⟨0, 0, 0, h, by decide, by decide, by decide, by decide⟩
theorem Fr.off {T : Txt K mg} {p : Nat} {v : Cs} {e : Addr} {H H' : Hp} {l : List Addr} (hp : p < 5) (h : Fr T p v e H) (o : Off l H H') (n : e ∉ l) : Fr T p v e H' := by
  rcases five hp with rfl | rfl | rfl | rfl | rfl
  all_goals
    obtain ⟨dx, h⟩ := h
    exact ⟨dx, o _ _ n h⟩
theorem Fr.same {T : Txt K mg} {p : Nat} {v : Cs} {e : Addr} {H H' : Hp} (hp : p < 5) (h : Fr T p v e H) (s : Same H H') : Fr T p v e H' := h.off hp (l := []) (Off.of s) (by simp)
def NoKind (K : PySem.W.Frag) (H : Hp) (x : V) : Prop := (∃ s, x = .str s ∧ inV (.str s) [.str "fixed", .str "climb", .str "curve", .str "delay"] = false) ∨ ∃ t, TyX K H x t ∧ PySem.W.kitOne K t (.type "str") = some false
theorem Err.same {C : Addr} {f : Str} {v : V} {H H' : Hp} {E : XK} (h : Err C f v H E) (s : Same H H') : Err C f v H' E := fun d H2 s2 hx => h d H2 (s.trans s2) hx
def sp_is_kind (K : PySem.W.Frag) : Sp := fun vs H Q _ => ∃ (x : V), vs = [x] ∧ ((∃ k, x = .str k ∧ inV (.str k) [.str "fixed", .str "climb", .str "curve", .str "delay"] = true ∧ Q (.bl true) H) ∨ (NoKind K H x ∧ Q (.bl false) H))
theorem ok_is_kind (T : Txt K mg) : FnOk P w K mg base CX0 1 T.a_is_kind T.fd_is_kind ["value"] (sp_is_kind K) := by
  have S := sc_is_kind
  refine T.F_is_kind.ok S (fun vs H Q E h => ?_) (fun cdv A outer s H vs Q E hr h => ?_)
  · obtain ⟨x, rfl, _⟩ := h
    rfl
  · obtain ⟨x, rfl, h⟩ := h
    refine ⟨_, (pss_one (ps_ret (pe_and (pe_callB (id := "isinstance") call_isi (by rfl) T.b_isinstance (by decide +kernel) (pa_cons (pv 0) (pa_cons (pe_bltn (v := .ty "str") (u := .type "str") (by rfl) T.b_str (by decide +kernel) rfl) pa_nil))) (pe_one (pe_cmpR op_in_seq (pv 0) (pe_glob (v := .ref T.t_KINDS) rfl T.g_KINDS rfl) rfl))))), ?_⟩
    refine st_is_kind ?_
    o_args
    rcases h with ⟨x, rfl, hx, k⟩ | ⟨⟨x, rfl, hx⟩ | ⟨t, ht, hk⟩, k⟩
    · refine ⟨_, _, _, _, true, rfl, .ty _, .base (.str x), kit_ty (by decide +kernel), ?_⟩
      o_args
      refine ⟨_, _, rfl, .inr (T.T_KINDS _), rfl, rfl, ?_⟩
      rw [if_neg Bool.false_ne_true, hx]
      exact k
    · refine ⟨_, _, _, _, true, rfl, .ty _, .base (.str x), kit_ty (by decide +kernel), ?_⟩
      o_args
      refine ⟨_, _, rfl, .inr (T.T_KINDS _), rfl, rfl, ?_⟩
      rw [if_neg Bool.false_ne_true, hx]
      exact k
    · refine ⟨_, _, _, _, false, rfl, .ty _, ht, hk, ?_⟩
      o_args
      exact k
def sp_control_of (T : Txt K mg) : Sp := fun vs H Q E => ∃ (x v : V), vs = [x, v] ∧
  ((∃ (p : Nat), x = .str (kindOf p) ∧ 1 ≤ p ∧ p < 5 ∧ ((∃ u, v = .int u ∧ 1 ≤ u ∧ u ≤ 65535 ∧ ∀ e H', H e = none → Same H H' → Fr T p (fr u (if p = 1 then 8 else 2)) e H' → Q (.ref e) H') ∨ (Out K H v 1 65535 ∧ Err T.c_InvalidSetting "setting" (.str "unit") H E)))
   ∨ (NoKind K H x ∧ Err T.c_InvalidSetting "setting" (.str "control") H E))
theorem ok_control_of (T : Txt K mg) : FnOk P w K mg base (L2.CX P w) 6 T.a_control_of T.fd_control_of ["kind", "unit"] (sp_control_of T) := by
  have S := sc_control_of
  refine T.F_control_of.okX S (fun vs H Q E h => ?_) (fun cdv A outer s H vs Q E hr h => ?_)
  · obtain ⟨x, v, rfl, _⟩ := h
    rfl
  · obtain ⟨x, v, rfl, h⟩ := h
    refine ⟨_, (pss_cons (ps_if (pt_not (pt_val (pe_call (ok_is_kind T) (hr.mono (by decide)) rfl T.g_is_kind T.F_is_kind.kp T.B_is_kind .nil pass0 (pa_cons (pv 0) pa_nil)))) (pss_one (ps_raise rfl (takes_of rfl rfl rfl rfl) (pmk_oex T.X_InvalidSetting.o T.X_InvalidSetting.i T.X_InvalidSetting.t (ok_InvalidSetting_init_ T) (hr.mono (by decide)) T.B_InvalidSetting_init_ .nil pass0 rfl T.X_InvalidSetting.g (pa_cons pe_str pa_nil)))) pss_nil)
      (pss_cons (ps_if (pt_cmpR op_eq (pv 0) pe_str (nomark _)) (pss_one (ps_ret (pe_make T.M_Fixed (NF.ok_Fixed_init_ T) (hr.mono (by decide)) rfl T.g_Fixed T.BD_Fixed_init_ T.VD_Fixed_init_ (passes_call (takes_of rfl rfl rfl rfl) (fun _ _ _ _ h => h)) (pa_cons (pv 1) pa_nil)))) pss_nil)
      (pss_cons (ps_if (pt_cmpR op_eq (pv 0) pe_str (nomark _)) (pss_one (ps_ret (pe_make T.M_Climb (NC.ok_Control_init_ T) (hr.mono (by decide)) rfl T.g_Climb T.B_Control_init_ .nil (passes_call (takes_of rfl rfl rfl rfl) (fun _ _ _ _ h => h)) (pa_cons (pv 1) pa_nil)))) pss_nil)
      (pss_one (ps_ret (pe_ifExp (pt_cmpR op_eq (pv 0) pe_str (nomark _)) (pe_make T.M_Curve (NV.ok_Curve_init_ T) (hr.mono (by decide)) rfl T.g_Curve T.B_Curve_init_ .nil (passes_call (takes_of rfl rfl rfl rfl) (fun _ _ _ _ h => h)) (pa_cons (pv 1) pa_nil)) (pe_make T.M_Delay (ND.ok_Delay_init_ T) (hr.mono (by decide)) rfl T.g_Delay T.B_Delay_init_ .nil (passes_call (takes_of rfl rfl rfl rfl) (fun _ _ _ _ h => h)) (pa_cons (pv 1) pa_nil)))))))), ?_⟩
    refine st_control_of ?_
    o_args
    rcases h with ⟨p, rfl, p1, p5, h⟩ | ⟨hx, hE⟩
    · match p, p1, p5 with
      | 1, _, _ =>
        refine ⟨_, rfl, .inl ⟨_, rfl, by decide +kernel, ?_⟩⟩
        unfold kindOf
        o_args
        intro e q ne nq nd
        rcases h with ⟨u, rfl, u1, u2, k⟩ | ⟨ho, hE⟩
        · refine ⟨e, q, _, _, rfl, upd_same, .inl ⟨u, rfl, u1, u2, .inl ⟨8, rfl, by decide, by decide, fun H1 s1 c1 => ⟨rfl, ?_⟩⟩⟩⟩
          o_args
          exact k e H1 ne (made_same ne nq s1) c1
        · exact ⟨e, q, _, _, rfl, upd_same, .inr ⟨ho.same (made_same ne nq .refl), hE.same (made_same ne nq .refl)⟩⟩
      | 2, _, _ =>
        refine ⟨_, rfl, .inl ⟨_, rfl, by decide +kernel, ?_⟩⟩
        unfold kindOf
        o_args
        intro e q ne nq nd
        rcases h with ⟨u, rfl, u1, u2, k⟩ | ⟨ho, hE⟩
        · refine ⟨e, q, _, rfl, upd_same, .inl ⟨u, rfl, u1, u2, fun H1 s1 c1 => ⟨rfl, ?_⟩⟩⟩
          o_args
          refine k e H1 ne (made_same ne nq s1) ?_
          rw [if_neg (by decide), fr2]
          exact c1
        · exact ⟨e, q, _, rfl, upd_same, .inr ⟨ho.same (made_same ne nq .refl), hE.same (made_same ne nq .refl)⟩⟩
      | 3, _, _ =>
        refine ⟨_, rfl, .inl ⟨_, rfl, by decide +kernel, ?_⟩⟩
        unfold kindOf
        o_args
        intro e q ne nq nd
        rcases h with ⟨u, rfl, u1, u2, k⟩ | ⟨ho, hE⟩
        · refine ⟨e, q, _, rfl, upd_same, .inl ⟨u, rfl, u1, u2, fun H1 s1 c1 => ⟨rfl, ?_⟩⟩⟩
          o_args
          refine k e H1 ne (made_same ne nq s1) ?_
          rw [if_neg (by decide), fr2]
          exact c1
        · exact ⟨e, q, _, rfl, upd_same, .inr ⟨ho.same (made_same ne nq .refl), hE.same (made_same ne nq .refl)⟩⟩
      | 4, _, _ =>
        refine ⟨_, rfl, .inl ⟨_, rfl, by decide +kernel, ?_⟩⟩
        unfold kindOf
        o_args
        intro e q ne nq nd
        rcases h with ⟨u, rfl, u1, u2, k⟩ | ⟨ho, hE⟩
        · refine ⟨e, q, _, rfl, upd_same, .inl ⟨u, rfl, u1, u2, fun H1 s1 c1 => ⟨rfl, ?_⟩⟩⟩
          o_args
          refine k e H1 ne (made_same ne nq s1) ?_
          rw [if_neg (by decide), fr2]
          exact c1
        · exact ⟨e, q, _, rfl, upd_same, .inr ⟨ho.same (made_same ne nq .refl), hE.same (made_same ne nq .refl)⟩⟩
    · refine ⟨_, rfl, .inr ⟨hx, ?_⟩⟩
      o_args
      exact mkO_of T.X_InvalidSetting.o T.nX_InvalidSetting fun d H1 nd ss hx => hE d H1 ss hx
/-! ### controls made, and their first state -/
def sp__law_base (T : Txt K mg) : Sp := fun vs H Q _ => ∃ (e r : Addr) (p : Nat) (v : Cs) (N : Int), vs = [.ref e, .ref r] ∧ p < 5 ∧ Obj T N p v e H ∧ H r = some (.lst [.int v.u, .int v.w, .int v.t, .int v.c, .bl v.st]) ∧ Q (.bl true) H
theorem ok__law_base (T : Txt K mg) : FnOk P w K mg base CX0 3 T.a__law_base T.fd__law_base ["control", "state"] (sp__law_base T) := by
  have S := sc__law_base
  refine T.F__law_base.ok S (fun vs H Q E h => ?_) (fun cdv A outer s H vs Q E hr h => ?_)
  · obtain ⟨e, r, p, v, N, rfl, _⟩ := h
    rfl
  · obtain ⟨e, r, p, v, N, rfl, hp, hO, hR, k⟩ := h
    obtain ⟨C, dx, tl, he, cl, n1, n2, n3, n4, n5⟩ := (hO.seen hp).at_
    refine ⟨_, (pss_cons (ps_if (PW.pt (pw_or (pt_not (pt_val (pe_call (ok__law_whole T) (hr.mono (by decide)) rfl T.g__law_whole T.F__law_whole.kp T.B__law_whole .nil pass0 (pa_cons (pe_fld (pv 0) rfl) (pa_cons (pe_ix ix_list (pv 1) pe_int (fun _ _ => rfl)) pa_nil))))) (pw_or1 (pt_not (pt_val (pe_call (ok__law_whole T) (hr.mono (by decide)) rfl T.g__law_whole T.F__law_whole.kp T.B__law_whole .nil pass0 (pa_cons (pe_fld (pv 0) rfl) (pa_cons (pe_ix ix_list (pv 1) pe_int (fun _ _ => rfl)) pa_nil)))))))) (pss_one (ps_ret pe_bl)) pss_nil)
      (pss_cons (ps_if (PW.pt (pw_or (pt_not (pt_val (pe_call (ok__law_whole T) (hr.mono (by decide)) rfl T.g__law_whole T.F__law_whole.kp T.B__law_whole .nil pass0 (pa_cons (pe_fld (pv 0) rfl) (pa_cons (pe_ix ix_list (pv 1) pe_int (fun _ _ => rfl)) pa_nil))))) (pw_or1 (pt_not (pt_val (pe_call (ok__law_whole T) (hr.mono (by decide)) rfl T.g__law_whole T.F__law_whole.kp T.B__law_whole .nil pass0 (pa_cons (pe_fld (pv 0) rfl) (pa_cons (pe_ix ix_list (pv 1) pe_int (fun _ _ => rfl)) pa_nil)))))))) (pss_one (ps_ret pe_bl)) pss_nil)
      (pss_one (ps_ret (pe_and (pe_call (ok__law_truth T) (hr.mono (by decide)) rfl T.g__law_truth T.F__law_truth.kp T.B__law_truth .nil pass0 (pa_cons (pe_fld (pv 0) rfl) (pa_cons (pe_ix ix_list (pv 1) pe_int (fun _ _ => rfl)) pa_nil))) (pe_one (pe_call (ok__law_truth T) (hr.mono (by decide)) rfl T.g__law_truth T.F__law_truth.kp T.B__law_truth .nil pass0 (pa_cons (pe_ei (pe_prop (pv 0) T.cl_Control T.PR_Control_starting (NB.ok_Control_starting T) (hr.mono (by decide)) T.B_Control_starting .nil pass0 rfl) (pe_ei (pe_prop (pv 0) T.cl_Fixed T.PR_Fixed_starting (NF.ok_Control_starting T) (hr.mono (by decide)) T.B_Control_starting .nil pass0 rfl) (pe_ei (pe_prop (pv 0) T.cl_Climb T.PR_Climb_starting (NC.ok_Control_starting T) (hr.mono (by decide)) T.B_Control_starting .nil pass0 rfl) (pe_ei (pe_prop (pv 0) T.cl_Curve T.PR_Curve_starting (NV.ok_Control_starting T) (hr.mono (by decide)) T.B_Control_starting .nil pass0 rfl) (pe_prop (pv 0) T.cl_Delay T.PR_Delay_starting (ND.ok_Control_starting T) (hr.mono (by decide)) T.B_Control_starting .nil pass0 rfl))))) (pa_cons (pe_cmpR op_lt (pe_ix ix_list (pv 1) pe_int (fun _ _ => rfl)) (pe_ix ix_list (pv 1) pe_int (fun _ _ => rfl)) (nomark _)) pa_nil))))))))), ?_⟩
    refine st__law_base ?_
    o_args
    refine fget he cl n1 rfl ?_
    o_args
    refine ⟨_, _, rfl, ?_⟩
    rw [decide_eq_true rfl]
    o_args
    refine fget he cl n2 rfl ?_
    o_args
    refine ⟨_, _, rfl, ?_⟩
    rw [decide_eq_true rfl]
    o_args
    refine fget he cl n3 rfl ?_
    o_args
    refine ⟨_, _, rfl, ?_⟩
    rw [decide_eq_true rfl]
    o_args
    refine fget he cl n4 rfl ?_
    o_args
    refine ⟨_, _, rfl, ?_⟩
    rw [decide_eq_true rfl]
    o_args
    refine fget he cl n5 rfl ?_
    o_args
    refine ⟨_, _, rfl, ?_⟩
    rw [decide_eq_true rfl]
    o_args
    refine st_any hp hO (fun R h => ⟨_, rfl, h⟩) ?_
    o_args
    refine ⟨_, _, rfl, ?_⟩
    rw [decide_eq_true rfl]
    exact k
theorem none_same {l : Addr} {H H' : Hp} (s : Same H H') (h : H' l = none) : H l = none := by
  cases q : H l with
  | none => rfl
  | some o => rw [s _ _ q] at h; cases h
def pl (w : Nat) : Nat := match w with | 0 => 0 | 1 => 1 | 2 => 2 | 3 => 3 | 4 => 4 | 5 => 1 | 6 => 1 | 7 => 1 | 8 => 2 | 9 => 3 | _ => 4
def tm (w : Nat) (n : Int) : Int := if w = 1 ∨ w = 7 then 8 else if w = 5 ∨ w = 6 then n else 2
theorem pl5 (w : Nat) : pl w < 5 := by unfold pl; split <;> decide
def sp__law_make (T : Txt K mg) : Sp := fun vs H Q E => ∃ (w : Nat) (v pc : V), vs = [.int w, v, pc] ∧ w < 11 ∧
  ((∃ u n, v = .int u ∧ 1 ≤ u ∧ u ≤ 65535 ∧ (w = 5 ∨ w = 6 → pc = .int n ∧ 1 ≤ n ∧ n ≤ 64) ∧ ∀ e H', H e = none → Same H H' → Fr T (pl w) (fr u (tm w n)) e H' → Q (.ref e) H') ∨
   (Out K H v 1 65535 ∧ Err T.c_InvalidSetting "setting" (.str "unit") H E) ∨
   (∃ u, v = .int u ∧ 1 ≤ u ∧ u ≤ 65535 ∧ (w = 5 ∨ w = 6) ∧ Out K H pc 1 64 ∧ Err T.c_InvalidSetting "setting" (.str "pieces") H E))
set_option maxHeartbeats 0 in
theorem ok__law_make (T : Txt K mg) : FnOk P w K mg base (L2.CX P w) 7 T.a__law_make T.fd__law_make ["which", "unit", "pieces"] (sp__law_make T) := by
  have S := sc__law_make
  refine T.F__law_make.okX S (fun vs H Q E h => ?_) (fun cdv A outer s H vs Q E hr h => ?_)
  · obtain ⟨w, v, pc, rfl, _⟩ := h
    rfl
  · obtain ⟨w, v, pc, rfl, hw, h⟩ := h
    refine ⟨_, (pss_cons (ps_if (pt_cmpR op_eq (pv 0) pe_int (nomark _)) (pss_one (ps_ret (pe_make T.M_Control (NB.ok_Control_init_ T) (hr.mono (by decide)) rfl T.g_Control T.B_Control_init_ .nil (passes_call (takes_of rfl rfl rfl rfl) (fun _ _ _ _ h => h)) (pa_cons (pv 1) pa_nil)))) pss_nil)
      (pss_cons (ps_if (pt_cmpR op_eq (pv 0) pe_int (nomark _)) (pss_one (ps_ret (pe_make T.M_Fixed (NF.ok_Fixed_init_ T) (hr.mono (by decide)) rfl T.g_Fixed T.BD_Fixed_init_ T.VD_Fixed_init_ (passes_call (takes_of rfl rfl rfl rfl) (fun _ _ _ _ h => h)) (pa_cons (pv 1) pa_nil)))) pss_nil)
      (pss_cons (ps_if (pt_cmpR op_eq (pv 0) pe_int (nomark _)) (pss_one (ps_ret (pe_make T.M_Climb (NC.ok_Control_init_ T) (hr.mono (by decide)) rfl T.g_Climb T.B_Control_init_ .nil (passes_call (takes_of rfl rfl rfl rfl) (fun _ _ _ _ h => h)) (pa_cons (pv 1) pa_nil)))) pss_nil)
      (pss_cons (ps_if (pt_cmpR op_eq (pv 0) pe_int (nomark _)) (pss_one (ps_ret (pe_make T.M_Curve (NV.ok_Curve_init_ T) (hr.mono (by decide)) rfl T.g_Curve T.B_Curve_init_ .nil (passes_call (takes_of rfl rfl rfl rfl) (fun _ _ _ _ h => h)) (pa_cons (pv 1) pa_nil)))) pss_nil)
      (pss_cons (ps_if (pt_cmpR op_eq (pv 0) pe_int (nomark _)) (pss_one (ps_ret (pe_make T.M_Delay (ND.ok_Delay_init_ T) (hr.mono (by decide)) rfl T.g_Delay T.B_Delay_init_ .nil (passes_call (takes_of rfl rfl rfl rfl) (fun _ _ _ _ h => h)) (pa_cons (pv 1) pa_nil)))) pss_nil)
      (pss_cons (ps_if (pt_cmpR op_eq (pv 0) pe_int (nomark _)) (pss_one (ps_ret (pe_make T.M_Fixed (NF.ok_Fixed_init_ T) (hr.mono (by decide)) rfl T.g_Fixed T.B_Fixed_init_ .nil (passes_call (takes_of rfl rfl rfl rfl) (fun _ _ _ _ h => h)) (pa_cons (pv 1) (pa_cons (pv 2) pa_nil))))) pss_nil)
      (pss_cons (ps_if (pt_cmpR op_eq (pv 0) pe_int (nomark _)) (pss_one (ps_ret (pe_makeN T.M_Fixed (NF.ok_Fixed_init_ T) (hr.mono (by decide)) rfl T.g_Fixed T.BK_Fixed_init_ (passes_call (takes_of rfl rfl rfl rfl) (fun _ _ _ _ h => h)) (pa_cons (pv 1) pa_nil) (pk_cons (pv 2) pk_nil)))) pss_nil)
      (pss_one (ps_ret (pe_call (ok_control_of T) (hr.mono (by decide)) rfl T.g_control_of T.F_control_of.kp T.B_control_of .nil (passes_call (takes_of rfl rfl rfl rfl) (fun _ _ _ _ h => h)) (pa_cons (pe_ix ix_list (pe_lst (pa_cons pe_str (pa_cons pe_str (pa_cons pe_str (pa_cons pe_str pa_nil))))) (pe_op op_sub (pv 0) pe_int) (fun _ _ => rfl)) (pa_cons (pv 1) pa_nil)))))))))))), ?_⟩
    refine st__law_make ?_
    o_args
    match w, hw with
    | 0, _ =>
      o_args
      intro e q ne nq nd
      rcases h with ⟨u, n, rfl, u1, u2, _, k⟩ | ⟨ho, hE⟩ | ⟨_, _, _, _, hw, _⟩
      · refine ⟨e, q, _, rfl, upd_same, .inl ⟨u, rfl, u1, u2, fun H1 s1 c1 => ⟨rfl, ?_⟩⟩⟩
        o_args
        refine k e H1 ne (made_same ne nq s1) ?_
        rw [show tm 0 n = 2 from rfl, fr2]
        exact c1
      · exact ⟨e, q, _, rfl, upd_same, .inr ⟨ho.same (made_same ne nq .refl), hE.same (made_same ne nq .refl)⟩⟩
      · omega
    | 1, _ =>
      o_args
      intro e q ne nq nd
      rcases h with ⟨u, n, rfl, u1, u2, _, k⟩ | ⟨ho, hE⟩ | ⟨_, _, _, _, hw, _⟩
      · refine ⟨e, q, _, _, rfl, upd_same, .inl ⟨u, rfl, u1, u2, .inl ⟨8, rfl, by decide, by decide, fun H1 s1 c1 => ⟨rfl, ?_⟩⟩⟩⟩
        o_args
        exact k e H1 ne (made_same ne nq s1) c1
      · exact ⟨e, q, _, _, rfl, upd_same, .inr ⟨ho.same (made_same ne nq .refl), hE.same (made_same ne nq .refl)⟩⟩
      · omega
    | 2, _ =>
      o_args
      intro e q ne nq nd
      rcases h with ⟨u, n, rfl, u1, u2, _, k⟩ | ⟨ho, hE⟩ | ⟨_, _, _, _, hw, _⟩
      · refine ⟨e, q, _, rfl, upd_same, .inl ⟨u, rfl, u1, u2, fun H1 s1 c1 => ⟨rfl, ?_⟩⟩⟩
        o_args
        refine k e H1 ne (made_same ne nq s1) ?_
        rw [show tm 2 n = 2 from rfl, fr2]
        exact c1
      · exact ⟨e, q, _, rfl, upd_same, .inr ⟨ho.same (made_same ne nq .refl), hE.same (made_same ne nq .refl)⟩⟩
      · omega
    | 3, _ =>
      o_args
      intro e q ne nq nd
      rcases h with ⟨u, n, rfl, u1, u2, _, k⟩ | ⟨ho, hE⟩ | ⟨_, _, _, _, hw, _⟩
      · refine ⟨e, q, _, rfl, upd_same, .inl ⟨u, rfl, u1, u2, fun H1 s1 c1 => ⟨rfl, ?_⟩⟩⟩
        o_args
        refine k e H1 ne (made_same ne nq s1) ?_
        rw [show tm 3 n = 2 from rfl, fr2]
        exact c1
      · exact ⟨e, q, _, rfl, upd_same, .inr ⟨ho.same (made_same ne nq .refl), hE.same (made_same ne nq .refl)⟩⟩
      · omega
    | 4, _ =>
      o_args
      intro e q ne nq nd
      rcases h with ⟨u, n, rfl, u1, u2, _, k⟩ | ⟨ho, hE⟩ | ⟨_, _, _, _, hw, _⟩
      · refine ⟨e, q, _, rfl, upd_same, .inl ⟨u, rfl, u1, u2, fun H1 s1 c1 => ⟨rfl, ?_⟩⟩⟩
        o_args
        refine k e H1 ne (made_same ne nq s1) ?_
        rw [show tm 4 n = 2 from rfl, fr2]
        exact c1
      · exact ⟨e, q, _, rfl, upd_same, .inr ⟨ho.same (made_same ne nq .refl), hE.same (made_same ne nq .refl)⟩⟩
      · omega
    | 5, _ =>
      o_args
      intro e q ne nq nd
      rcases h with ⟨u, n, rfl, u1, u2, hn, k⟩ | ⟨ho, hE⟩ | ⟨u, rfl, u1, u2, _, ho, hE⟩
      · obtain ⟨rfl, n1, n2⟩ := hn (by decide)
        refine ⟨e, q, _, _, rfl, upd_same, .inl ⟨u, rfl, u1, u2, .inl ⟨n, rfl, n1, n2, fun H1 s1 c1 => ⟨rfl, ?_⟩⟩⟩⟩
        o_args
        exact k e H1 ne (made_same ne nq s1) c1
      · exact ⟨e, q, _, _, rfl, upd_same, .inr ⟨ho.same (made_same ne nq .refl), hE.same (made_same ne nq .refl)⟩⟩
      · exact ⟨e, q, _, _, rfl, upd_same, .inl ⟨u, rfl, u1, u2, .inr fun H' s => ⟨ho.same (made_same ne nq s), hE.same (made_same ne nq s)⟩⟩⟩
    | 6, _ =>
      o_args
      unfold tMakeN
      o_args
      refine ⟨rfl, rfl, fun e q ne nq nd => ?_⟩
      rcases h with ⟨u, n, rfl, u1, u2, hn, k⟩ | ⟨ho, hE⟩ | ⟨u, rfl, u1, u2, _, ho, hE⟩
      · obtain ⟨rfl, n1, n2⟩ := hn (by decide)
        refine ⟨e, q, _, _, rfl, upd_same, .inl ⟨u, rfl, u1, u2, .inl ⟨n, rfl, n1, n2, fun H1 s1 c1 => ⟨rfl, ?_⟩⟩⟩⟩
        o_args
        exact k e H1 ne (made_same ne nq s1) c1
      · exact ⟨e, q, _, _, rfl, upd_same, .inr ⟨ho.same (made_same ne nq .refl), hE.same (made_same ne nq .refl)⟩⟩
      · exact ⟨e, q, _, _, rfl, upd_same, .inl ⟨u, rfl, u1, u2, .inr fun H' s => ⟨ho.same (made_same ne nq s), hE.same (made_same ne nq s)⟩⟩⟩
    | 7, _ =>
      o_args
      refine newList (by simp) fun l H1 nl s1 hl => ?_
      o_args
      refine ⟨_, _, rfl, .inl ⟨1, rfl, by decide, by decide, ?_⟩⟩
      rcases h with ⟨u, n, rfl, u1, u2, _, k⟩ | ⟨ho, hE⟩ | ⟨_, _, _, _, hw, _⟩
      · exact .inl ⟨u, rfl, u1, u2, fun e H2 ne s2 c => k e H2 (none_same s1 ne) (s1.trans s2) c⟩
      · exact .inr ⟨ho.same s1, hE.same s1⟩
      · omega
    | 8, _ =>
      o_args
      refine newList (by simp) fun l H1 nl s1 hl => ?_
      o_args
      refine ⟨_, _, rfl, .inl ⟨2, rfl, by decide, by decide, ?_⟩⟩
      rcases h with ⟨u, n, rfl, u1, u2, _, k⟩ | ⟨ho, hE⟩ | ⟨_, _, _, _, hw, _⟩
      · exact .inl ⟨u, rfl, u1, u2, fun e H2 ne s2 c => k e H2 (none_same s1 ne) (s1.trans s2) c⟩
      · exact .inr ⟨ho.same s1, hE.same s1⟩
      · omega
    | 9, _ =>
      o_args
      refine newList (by simp) fun l H1 nl s1 hl => ?_
      o_args
      refine ⟨_, _, rfl, .inl ⟨3, rfl, by decide, by decide, ?_⟩⟩
      rcases h with ⟨u, n, rfl, u1, u2, _, k⟩ | ⟨ho, hE⟩ | ⟨_, _, _, _, hw, _⟩
      · exact .inl ⟨u, rfl, u1, u2, fun e H2 ne s2 c => k e H2 (none_same s1 ne) (s1.trans s2) c⟩
      · exact .inr ⟨ho.same s1, hE.same s1⟩
      · omega
    | 10, _ =>
      o_args
      refine newList (by simp) fun l H1 nl s1 hl => ?_
      o_args
      refine ⟨_, _, rfl, .inl ⟨4, rfl, by decide, by decide, ?_⟩⟩
      rcases h with ⟨u, n, rfl, u1, u2, _, k⟩ | ⟨ho, hE⟩ | ⟨_, _, _, _, hw, _⟩
      · exact .inl ⟨u, rfl, u1, u2, fun e H2 ne s2 c => k e H2 (none_same s1 ne) (s1.trans s2) c⟩
      · exact .inr ⟨ho.same s1, hE.same s1⟩
      · omega
/-! ### what kind a control is -/
def kd (p : Nat) : Str := match p with | 0 => "base" | 1 => "fixed" | 2 => "climb" | 3 => "curve" | _ => "delay"
def sp__law_word : Sp := fun vs H Q _ => ∃ (w : Nat), vs = [.int w] ∧ w < 11 ∧ ∀ H', Same H H' → Q (.str (kd (pl w))) H'
theorem ok__law_word (T : Txt K mg) : FnOk P w K mg base CX0 1 T.a__law_word T.fd__law_word ["which"] (sp__law_word) := by
  have S := sc__law_word
  refine T.F__law_word.ok S (fun vs H Q E h => ?_) (fun cdv A outer s H vs Q E hr h => ?_)
  · obtain ⟨w, rfl, _⟩ := h
    rfl
  · obtain ⟨w, rfl, hw, k⟩ := h
    refine ⟨_, (pss_cons (ps_set (i := 1) S.nd rfl (Or.inl rfl) (pe_lst (pa_cons pe_str (pa_cons pe_str (pa_cons pe_str (pa_cons pe_str (pa_cons pe_str (pa_cons pe_str (pa_cons pe_str (pa_cons pe_str (pa_cons pe_str (pa_cons pe_str (pa_cons pe_str pa_nil)))))))))))))
      (pss_one (ps_ret (pe_ix ix_list (pv 1) (pv 0) (fun _ _ => rfl))))), ?_⟩
    refine st__law_word ?_
    o_args
    refine newList (by simp) fun l H1 nl s1 hl => ?_
    o_args
    refine ixL (i := w) hl ?_ (k H1 s1)
    match w, hw with
    | 0, _ => rfl
    | 1, _ => rfl
    | 2, _ => rfl
    | 3, _ => rfl
    | 4, _ => rfl
    | 5, _ => rfl
    | 6, _ => rfl
    | 7, _ => rfl
    | 8, _ => rfl
    | 9, _ => rfl
    | 10, _ => rfl
def sp__law_times : Sp := fun vs H Q _ => ∃ (w : Nat) (n : Int) (pc : V), vs = [.int w, pc] ∧ (w = 5 ∨ w = 6 → pc = .int n) ∧ Q (.int (tm w n)) H
theorem ok__law_times (T : Txt K mg) : FnOk P w K mg base CX0 1 T.a__law_times T.fd__law_times ["which", "pieces"] (sp__law_times) := by
  have S := sc__law_times
  refine T.F__law_times.ok S (fun vs H Q E h => ?_) (fun cdv A outer s H vs Q E hr h => ?_)
  · obtain ⟨w, n, pc, rfl, _⟩ := h
    rfl
  · obtain ⟨w, n, pc, rfl, hn, k⟩ := h
    refine ⟨_, (pss_cons (ps_if (PW.pt (pw_or (pt_cmpR op_eq (pv 0) pe_int (nomark _)) (pw_or1 (pt_cmpR op_eq (pv 0) pe_int (nomark _))))) (pss_one (ps_ret pe_int)) pss_nil)
      (pss_cons (ps_if (PW.pt (pw_or (pt_cmpR op_eq (pv 0) pe_int (nomark _)) (pw_or1 (pt_cmpR op_eq (pv 0) pe_int (nomark _))))) (pss_one (ps_ret (pv 1))) pss_nil)
      (pss_one (ps_ret pe_int)))), ?_⟩
    refine st__law_times ?_
    o_args
    unfold tm at k
    refine brD (fun q => ?_) (fun q => ?_)
    · rw [if_pos (by omega)] at k
      o_args
      exact k
    o_args
    refine brD (fun q2 => ?_) (fun q2 => ?_)
    · rw [if_pos (by omega)] at k
      o_args
      exact k
    o_args
    rw [if_neg (by omega)] at k
    refine brD (fun q3 => ?_) (fun q3 => ?_)
    · rw [if_pos (by omega)] at k
      o_args
      rw [hn (by omega)]
      exact k
    o_args
    refine brD (fun q4 => ?_) (fun q4 => ?_)
    · rw [if_pos (by omega)] at k
      o_args
      rw [hn (by omega)]
      exact k
    rw [if_neg (by omega)] at k
    o_args
    exact k
/-! ### the class of a control, as the law sees it -/
def up (a b : Nat) : Bool := match a, b with | _, 0 => true | 1, 1 => true | 2, 2 => true | 3, 2 => true | 4, 2 => true | 3, 3 => true | 4, 4 => true | _, _ => false
def cl5 (T : Txt K mg) (p : Nat) : Addr := match p with | 0 => T.c_Control | 1 => T.c_Fixed | 2 => T.c_Climb | 3 => T.c_Curve | _ => T.c_Delay
theorem kit5 (T : Txt K mg) {a b : Nat} (ha : a < 5) (hb : b < 5) : PySem.W.kitOne K (.ref (cl5 T a)) (.ref (cl5 T b)) = some (up a b) := by
  rcases five ha with rfl | rfl | rfl | rfl | rfl <;> rcases five hb with rfl | rfl | rfl | rfl | rfl
  · exact T.ki_Control_Control
  · exact T.ki_Control_Fixed
  · exact T.ki_Control_Climb
  · exact T.ki_Control_Curve
  · exact T.ki_Control_Delay
  · exact T.ki_Fixed_Control
  · exact T.ki_Fixed_Fixed
  · exact T.ki_Fixed_Climb
  · exact T.ki_Fixed_Curve
  · exact T.ki_Fixed_Delay
  · exact T.ki_Climb_Control
  · exact T.ki_Climb_Fixed
  · exact T.ki_Climb_Climb
  · exact T.ki_Climb_Curve
  · exact T.ki_Climb_Delay
  · exact T.ki_Curve_Control
  · exact T.ki_Curve_Fixed
  · exact T.ki_Curve_Climb
  · exact T.ki_Curve_Curve
  · exact T.ki_Curve_Delay
  · exact T.ki_Delay_Control
  · exact T.ki_Delay_Fixed
  · exact T.ki_Delay_Climb
  · exact T.ki_Delay_Curve
  · exact T.ki_Delay_Delay
theorem Obj.inst {T : Txt K mg} {N : Int} {p : Nat} {v : Cs} {e : Addr} {H : Hp} (hp : p < 5) (h : Obj T N p v e H) : ∃ dx fs, H e = some (.ins (cl5 T p) dx fs) ∧ fs.lookup ("KIND" : Str) = none ∧ Cls K (cl5 T p) ∧ TyX K H (.ref e) (.ref (cl5 T p)) ∧ ∃ u, Con K (cl5 T p) "KIND" (.str (kd p)) u := by
  rcases five hp with rfl | rfl | rfl | rfl | rfl
  · obtain ⟨dx, h⟩ := h
    exact ⟨dx, _, h, rfl, T.cl_Control, .base (.ins h T.cl_Control T.rc_Control T.ri_get T.ri_tk T.rm_Control), T.I_Control_KIND⟩
  · obtain ⟨dx, h⟩ := h
    exact ⟨dx, _, h, rfl, T.cl_Fixed, .base (.ins h T.cl_Fixed T.rc_Fixed T.ri_get T.ri_tk T.rm_Fixed), T.I_Fixed_KIND⟩
  · obtain ⟨dx, h⟩ := h
    exact ⟨dx, _, h, rfl, T.cl_Climb, .base (.ins h T.cl_Climb T.rc_Climb T.ri_get T.ri_tk T.rm_Climb), T.I_Climb_KIND⟩
  · obtain ⟨_, _, _, ⟨dx, h⟩, _⟩ := h
    exact ⟨dx, _, h, rfl, T.cl_Curve, .base (.ins h T.cl_Curve T.rc_Curve T.ri_get T.ri_tk T.rm_Curve), T.I_Curve_KIND⟩
  · obtain ⟨_, _, _, ⟨dx, h⟩, _⟩ := h
    exact ⟨dx, _, h, rfl, T.cl_Delay, .base (.ins h T.cl_Delay T.rc_Delay T.ri_get T.ri_tk T.rm_Delay), T.I_Delay_KIND⟩
theorem kd0 : kd 0 = "base" := rfl
theorem kd1 : kd 1 = "fixed" := rfl
theorem kd2 : kd 2 = "climb" := rfl
theorem kd3 : kd 3 = "curve" := rfl
theorem kd4 : kd 4 = "delay" := rfl
def sp__law_classed (T : Txt K mg) : Sp := fun vs H Q _ => ∃ (e : Addr) (p : Nat) (v : Cs) (N : Int), vs = [.ref e, .str (kd p)] ∧ p < 5 ∧ Obj T N p v e H ∧ Q (.bl true) H
set_option maxHeartbeats 0 in
theorem ok__law_classed (T : Txt K mg) : FnOk P w K mg base CX0 2 T.a__law_classed T.fd__law_classed ["control", "word"] (sp__law_classed T) := by
  have S := sc__law_classed
  refine T.F__law_classed.ok S (fun vs H Q E h => ?_) (fun cdv A outer s H vs Q E hr h => ?_)
  · obtain ⟨e, p, v, N, rfl, _⟩ := h
    rfl
  · obtain ⟨e, p, v, N, rfl, hp, hO, k⟩ := h
    obtain ⟨dx, fs, he, hl, cl, ty, u, hc⟩ := hO.inst hp
    rcases five hp with rfl | rfl | rfl | rfl | rfl
    all_goals
      simp only [kd0, kd1, kd2, kd3, kd4] at hc ⊢
      refine ⟨_, (pss_cons (ps_if (PW.pt (pw_or (pt_not (pt_val (pe_callB (id := "isinstance") call_isi (by rfl) T.b_isinstance (by decide +kernel) (pa_cons (pv 0) (pa_cons (pe_glob (v := .ref T.c_Control) rfl T.g_Control rfl) pa_nil))))) (pw_or1 (pt_cmpR op_ne (pe_callB (id := "isinstance") call_isi (by rfl) T.b_isinstance (by decide +kernel) (pa_cons (pv 0) (pa_cons (pe_glob (v := .ref T.c_Fixed) rfl T.g_Fixed rfl) pa_nil))) (pe_cmpR op_eq (pv 1) pe_str (nomark _)) (nomark _))))) (pss_one (ps_ret pe_bl)) pss_nil)
      (pss_cons (ps_if (pt_cmpR op_ne (pe_callB (id := "isinstance") call_isi (by rfl) T.b_isinstance (by decide +kernel) (pa_cons (pv 0) (pa_cons (pe_glob (v := .ref T.c_Climb) rfl T.g_Climb rfl) pa_nil))) (pe_or (pe_cmpR op_eq (pv 1) pe_str (nomark _)) (pe_or (pe_cmpR op_eq (pv 1) pe_str (nomark _)) (pe_one (pe_cmpR op_eq (pv 1) pe_str (nomark _))))) (nomark _)) (pss_one (ps_ret pe_bl)) pss_nil)
      (pss_cons (ps_if (PW.pt (pw_or (pt_cmpR op_ne (pe_callB (id := "isinstance") call_isi (by rfl) T.b_isinstance (by decide +kernel) (pa_cons (pv 0) (pa_cons (pe_glob (v := .ref T.c_Curve) rfl T.g_Curve rfl) pa_nil))) (pe_cmpR op_eq (pv 1) pe_str (nomark _)) (nomark _)) (pw_or1 (pt_cmpR op_ne (pe_callB (id := "isinstance") call_isi (by rfl) T.b_isinstance (by decide +kernel) (pa_cons (pv 0) (pa_cons (pe_glob (v := .ref T.c_Delay) rfl T.g_Delay rfl) pa_nil))) (pe_cmpR op_eq (pv 1) pe_str (nomark _)) (nomark _))))) (pss_one (ps_ret pe_bl)) pss_nil)
      (pss_one (ps_ret (pe_and (pe_callB (id := "isinstance") call_isi (by rfl) T.b_isinstance (by decide +kernel) (pa_cons (pe_con (pv 0) rfl) (pa_cons (pe_bltn (v := .ty "str") (u := .type "str") (by rfl) T.b_str (by decide +kernel) rfl) pa_nil))) (pe_one (pe_cmpR op_eq (pe_con (pv 0) rfl) (pv 1) (nomark _))))))))), ?_⟩
      refine st__law_classed ?_
      o_args
      refine ⟨_, _, _, _, _, rfl, .own _, ty, kit5 T (b := 0) (by decide) (by decide), ?_⟩
      o_args
      focus (first | refine brDT (by decide +kernel) ?_ | refine brDF (by decide +kernel) ?_ | refine brT (by decide +kernel) ?_ | refine brF (by decide +kernel) ?_)
      o_args
      refine ⟨_, _, _, _, _, rfl, .own _, ty, kit5 T (b := 1) (by decide) (by decide), ?_⟩
      o_args
      refine ⟨_, _, _, _, _, rfl, .own _, ty, kit5 T (b := 2) (by decide) (by decide), ?_⟩
      o_args
      refine ⟨_, _, _, _, _, rfl, .own _, ty, kit5 T (b := 3) (by decide) (by decide), ?_⟩
      o_args
      refine ⟨_, _, _, _, _, rfl, .own _, ty, kit5 T (b := 4) (by decide) (by decide), ?_⟩
      o_args
      refine ⟨e, _, dx, fs, _, u, rfl, he, cl, hc, hl, ?_⟩
      o_args
      refine ⟨_, _, _, _, true, rfl, .ty _, .base (.str _), kit_ty (by decide +kernel), ?_⟩
      o_args
      refine ⟨e, _, dx, fs, _, u, rfl, he, cl, hc, hl, ?_⟩
      o_args
      exact k
/-! ### a control as it was made -/
theorem tm64 {w : Nat} {n : Int} (hn : w = 5 ∨ w = 6 → 1 ≤ n ∧ n ≤ 64) : 1 ≤ tm w n ∧ tm w n ≤ 64 := by
  unfold tm
  split
  · decide
  · split
    · rename_i h
      exact hn h
    · decide
def sp__law_fresh (T : Txt K mg) : Sp := fun vs H Q _ => ∃ (e : Addr) (w : Nat) (u n : Int) (pc : V), vs = [.ref e, .int w, .int u, pc] ∧ w < 11 ∧ 1 ≤ u ∧ u ≤ 65535 ∧ (w = 5 ∨ w = 6 → pc = .int n ∧ 1 ≤ n ∧ n ≤ 64) ∧ Fr T (pl w) (fr u (tm w n)) e H ∧ ∀ H', Same H H' → Q (.bl true) H'
set_option maxHeartbeats 0 in
theorem ok__law_fresh (T : Txt K mg) : FnOk P w K mg base CX0 4 T.a__law_fresh T.fd__law_fresh ["control", "which", "unit", "pieces"] (sp__law_fresh T) := by
  have S := sc__law_fresh
  refine T.F__law_fresh.ok S (fun vs H Q E h => ?_) (fun cdv A outer s H vs Q E hr h => ?_)
  · obtain ⟨e, w, u, n, pc, rfl, _⟩ := h
    rfl
  · obtain ⟨e, w, u, n, pc, rfl, hw, u1, u2, hn, hF, k⟩ := h
    have p5 := pl5 w
    obtain ⟨t1, t2⟩ := tm64 (w := w) (n := n) fun z => (hn z).2
    refine ⟨_, (pss_cons (ps_set (i := 4) S.nd rfl (Or.inl rfl) (pe_call (ok__law_word T) (hr.mono (by decide)) rfl T.g__law_word T.F__law_word.kp T.B__law_word .nil pass0 (pa_cons (pv 1) pa_nil)))
      (pss_cons (ps_if (pt_not (pt_val (pe_call (ok__law_classed T) (hr.mono (by decide)) rfl T.g__law_classed T.F__law_classed.kp T.B__law_classed .nil pass0 (pa_cons (pv 0) (pa_cons (pv 4) pa_nil))))) (pss_one (ps_ret pe_bl)) pss_nil)
      (pss_cons (ps_if (pt_not (pt_val (pe_call (ok__law_base T) (hr.mono (by decide)) rfl T.g__law_base T.F__law_base.kp T.B__law_base .nil pass0 (pa_cons (pv 0) (pa_cons (pe_lst (pa_cons (pv 2) (pa_cons (pe_op op_mul (pv 2) (pe_call (ok__law_times T) (hr.mono (by decide)) rfl T.g__law_times T.F__law_times.kp T.B__law_times .nil pass0 (pa_cons (pv 1) (pa_cons (pv 3) pa_nil)))) (pa_cons pe_int (pa_cons pe_int (pa_cons pe_bl pa_nil)))))) pa_nil))))) (pss_one (ps_ret pe_bl)) pss_nil)
      (pss_cons (ps_if (pt_cmpR op_eq (pv 4) pe_str (nomark _)) (pss_one (ps_ret (pe_and (pe_call (ok__law_whole T) (hr.mono (by decide)) rfl T.g__law_whole T.F__law_whole.kp T.B__law_whole .nil pass0 (pa_cons (pe_fld (pv 0) rfl) (pa_cons pe_int pa_nil))) (pe_and (pe_call (ok__law_whole T) (hr.mono (by decide)) rfl T.g__law_whole T.F__law_whole.kp T.B__law_whole .nil pass0 (pa_cons (pe_fld (pv 0) rfl) (pa_cons pe_int pa_nil))) (pe_one (pe_cmpR op_isN (pe_fld (pv 0) rfl) pe_non (nomark _))))))) pss_nil)
      (pss_cons (ps_if (pt_cmpR op_eq (pv 4) pe_str (nomark _)) (pss_cons (ps_if (PW.pt (pw_or (pt_not (pt_val (pe_call (ok__law_whole T) (hr.mono (by decide)) rfl T.g__law_whole T.F__law_whole.kp T.B__law_whole .nil pass0 (pa_cons (pe_fld (pv 0) rfl) (pa_cons pe_int pa_nil))))) (pw_or1 (pt_not (pt_val (pe_call (ok__law_whole T) (hr.mono (by decide)) rfl T.g__law_whole T.F__law_whole.kp T.B__law_whole .nil pass0 (pa_cons (pe_fld (pv 0) rfl) (pa_cons pe_int pa_nil)))))))) (pss_one (ps_ret pe_bl)) pss_nil)
      (pss_one (ps_ret (pe_call (ok__law_whole T) (hr.mono (by decide)) rfl T.g__law_whole T.F__law_whole.kp T.B__law_whole .nil pass0 (pa_cons (pe_fld (pv 0) rfl) (pa_cons pe_int pa_nil)))))) pss_nil)
      (pss_one (ps_ret pe_bl))))))), ?_⟩
    refine st__law_fresh ?_
    o_args
    refine ⟨w, rfl, hw, fun H1 s1 => ?_⟩
    o_args
    refine ⟨e, pl w, _, 0, rfl, p5, (hF.same p5 s1).obj p5, ?_⟩
    o_args
    refine ⟨w, n, pc, rfl, fun z => (hn z).1, ?_⟩
    o_args
    refine x_mulR ⟨by omega, by omega⟩ ?_
    o_args
    refine newList (by simp) fun l H2 nl s2 h2 => ?_
    o_args
    have hF2 := hF.same p5 (s1.trans s2)
    refine ⟨e, l, pl w, fr u (tm w n), 0, rfl, p5, hF2.obj p5, h2, ?_⟩
    have k2 := k H2 (s1.trans s2)
    generalize pl w = p at p5 hF2 ⊢
    generalize fr u (tm w n) = v at hF2
    clear k hF
    rcases five p5 with rfl | rfl | rfl | rfl | rfl
    all_goals simp only [kd0, kd1, kd2, kd3, kd4]
    · o_args
      exact k2
    · o_args
      exact k2
    · o_args
      exact k2
    · obtain ⟨dx, hc⟩ := hF2
      o_args
      refine fget hc T.cl_Curve T.n_Curve_peak rfl ?_
      o_args
      refine ⟨0, 0, rfl, ?_⟩
      o_args
      refine fget hc T.cl_Curve T.n_Curve_span rfl ?_
      o_args
      refine ⟨0, 0, rfl, ?_⟩
      o_args
      refine fget hc T.cl_Curve T.n_Curve_born rfl ?_
      o_args
      exact k2
    · obtain ⟨dx, hc⟩ := hF2
      o_args
      refine fget hc T.cl_Delay T.n_Delay_least rfl ?_
      o_args
      refine ⟨0, 0, rfl, ?_⟩
      o_args
      refine fget hc T.cl_Delay T.n_Delay_latest rfl ?_
      o_args
      refine ⟨0, 0, rfl, ?_⟩
      o_args
      refine fget hc T.cl_Delay T.n_Delay_samples rfl ?_
      o_args
      exact ⟨0, 0, rfl, k2⟩
/-! ### bad values -/
def BadM (K : PySem.W.Frag) (m : Int) (H : Hp) (x : V) : Prop := Out K H x 1 m ∧ Vl K H x
theorem BadM.same {K : PySem.W.Frag} {m : Int} {H H' : Hp} {x : V} (h : BadM K m H x) (s : Same H H') : BadM K m H' x := ⟨h.1.same s, h.2.sm s⟩
theorem BadM.odd {K : PySem.W.Frag} {m : Int} {H : Hp} {x : V} (h : Odd K H x) : BadM K m H x := ⟨.odd h.1, h.2⟩
def sp__law_bad (K : PySem.W.Frag) : Sp := fun vs H Q _ => ∃ (a : Addr) (m : Int), vs = [.ref a, .int m] ∧ Bx a H ∧ ∀ v H', (∀ H'', SameX a H' H'' → BadM K m H'' v) → Bx a H' → SameX a H H' → Q v H'
theorem ok__law_bad (T : Txt K mg) : FnOk P w K mg base CX0 2 T.a__law_bad T.fd__law_bad ["box", "most"] (sp__law_bad K) := by
  have S := sc__law_bad
  refine T.F__law_bad.ok S (fun vs H Q E h => ?_) (fun cdv A outer s H vs Q E hr h => ?_)
  · obtain ⟨a, m, rfl, _⟩ := h
    rfl
  · obtain ⟨a, most, rfl, B0, k⟩ := h
    refine ⟨_, (pss_cons (ps_set (i := 2) S.nd rfl (Or.inl rfl) (pe_call (ok__law_draw T) (hr.mono (by decide)) rfl T.g__law_draw T.F__law_draw.kp T.B__law_draw .nil pass0 (pa_cons (pv 0) (pa_cons pe_int pa_nil))))
      (pss_cons (ps_if (pt_cmpR op_eq (pv 2) pe_int (nomark _)) (pss_one (ps_ret pe_int)) pss_nil)
      (pss_cons (ps_if (pt_cmpR op_eq (pv 2) pe_int (nomark _)) (pss_one (ps_ret (pe_op op_sub (pe_un un_neg pe_int) (pe_call (ok__law_draw T) (hr.mono (by decide)) rfl T.g__law_draw T.F__law_draw.kp T.B__law_draw .nil pass0 (pa_cons (pv 0) (pa_cons (pe_op op_pow pe_int pe_int) pa_nil)))))) pss_nil)
      (pss_cons (ps_if (pt_cmpR op_eq (pv 2) pe_int (nomark _)) (pss_one (ps_ret (pe_op op_add (pe_op op_add (pv 1) pe_int) (pe_call (ok__law_draw T) (hr.mono (by decide)) rfl T.g__law_draw T.F__law_draw.kp T.B__law_draw .nil pass0 (pa_cons (pv 0) (pa_cons (pe_op op_pow pe_int pe_int) pa_nil)))))) pss_nil)
      (pss_one (ps_ret (pe_ix ix_list (pe_lst (pa_cons pe_bl (pa_cons pe_non (pa_cons pe_str (pa_cons (pe_lst (pa_cons pe_int pa_nil)) (pa_cons (pe_tup (pa_cons pe_int pa_nil)) pa_nil)))))) (pe_op op_sub (pv 2) pe_int) (fun _ _ => rfl)))))))), ?_⟩
    refine st__law_bad ?_
    o_args
    refine ⟨a, 8, rfl, B0, by decide, by decide, fun way H1 a1 b1 B1 s1 => ?_⟩
    o_args
    refine brD (fun q => ?_) (fun q => ?_)
    · o_args
      exact k _ _ (fun _ _ => ⟨.int (by omega), .int _⟩) B1 s1
    o_args
    refine brD (fun q => ?_) (fun q => ?_)
    · o_args
      refine ⟨a, _, rfl, B1, by decide, by decide, fun d H2 a2 b2 B2 s2 => ?_⟩
      o_args
      exact k _ _ (fun _ _ => ⟨.int (by omega), .int _⟩) B2 (s1.trans s2)
    o_args
    refine brD (fun q => ?_) (fun q => ?_)
    · o_args
      refine ⟨a, _, rfl, B1, by decide, by decide, fun d H2 a2 b2 B2 s2 => ?_⟩
      o_args
      exact k _ _ (fun _ _ => ⟨.int (by omega), .int _⟩) B2 (s1.trans s2)
    o_args
    refine newList (by simp) fun l H2 hl s2 h2 => ?_
    o_args
    refine newTup (by simp) fun t H3 ht s3 h3 => ?_
    o_args
    refine newList (by simp) fun m H4 hm s4 h4 => ?_
    o_args
    have S4 : SameX a H H4 := s1.trans (SameX.of ((s2.trans s3).trans s4))
    have B4 : Bx a H4 := B1.same ((s2.trans s3).trans s4)
    have l4 := s4 _ _ (s3 _ _ h2)
    have t4 := s4 _ _ h3
    have la : l ≠ a := B4.ne l4
    have ta : t ≠ a := B4.ne t4
    obtain ⟨j, hj, jl⟩ : ∃ j : Nat, way - 3 = j ∧ j < 5 := ⟨(way - 3).toNat, by omega, by omega⟩
    rw [hj]
    have hx : ∃ v, [V.bl true, .non, .str "5", .ref l, .ref t][j]? = some v ∧ ∀ H'', SameX a H4 H'' → BadM K most H'' v := by
      match j, jl with
      | 0, _ => exact ⟨_, rfl, fun H5 L => .odd (.mk' (.base (.bl true)) (i := true) (b := true) (by decide +kernel) (by decide +kernel) rfl (.bl true) (by decide +kernel))⟩
      | 1, _ => exact ⟨_, rfl, fun H5 L => .odd (.mk' (.base .non) (i := false) (b := false) (by decide +kernel) (by decide +kernel) rfl .non (by decide +kernel))⟩
      | 2, _ => exact ⟨_, rfl, fun H5 L => .odd (.mk' (.base (.str _)) (i := false) (b := false) (by decide +kernel) (by decide +kernel) rfl (.str _) (by decide +kernel))⟩
      | 3, _ => exact ⟨_, rfl, fun H5 L => .odd (Odd.lst (ns := [5]) (L _ _ la l4))⟩
      | 4, _ => exact ⟨_, rfl, fun H5 L => .odd (Odd.tup (ns := [5]) (L _ _ ta t4))⟩
    obtain ⟨v, e, hb⟩ := hx
    refine ixL h4 e ?_
    exact k _ _ hb B4 S4
/-! ### refusals -/
def sp__law_refusal (T : Txt K mg) : Sp := fun vs H Q _ => ∃ (w : Nat) (v pc : V), vs = [.int w, v, pc] ∧ w < 11 ∧
  ((Out K H v 1 65535 ∧ ∀ H', Same H H' → Q (.str "unit") H') ∨ (∃ u, v = .int u ∧ 1 ≤ u ∧ u ≤ 65535 ∧ (w = 5 ∨ w = 6) ∧ Out K H pc 1 64 ∧ ∀ H', Same H H' → Q (.str "pieces") H'))
theorem ok__law_refusal (T : Txt K mg) : FnOk P w K mg base CX0 8 T.a__law_refusal T.fd__law_refusal ["which", "unit", "pieces"] (sp__law_refusal T) := by
  have S := sc__law_refusal
  refine T.F__law_refusal.ok S (fun vs H Q E h => ?_) (fun cdv A outer s H vs Q E hr h => ?_)
  · obtain ⟨w, v, pc, rfl, _⟩ := h
    rfl
  · obtain ⟨w, v, pc, rfl, hw, h⟩ := h
    refine ⟨_, (pss_cons (ps_try_cl rfl rfl takes0 (fun W pn xe tk po => (pss_one (ps_expr (pe_callS (ok__law_make T) (hr.mono (by decide)) rfl T.g__law_make T.F__law_make.kp T.B__law_make (fun σ => passAt tk σ) (pa_cons (pv 0) (pa_cons (pv 1) (pa_cons (pv 2) pa_nil)))))))
      (ClOk.named (i := 3) S.nd rfl rfl ⟨rfl, by decide, .inl T.X_LossError.g⟩ (fun a oe cls d pn hz hf => (pss_cons (ps_if (PW.pt (pw_or (pt_not (pt_val (pe_callB (id := "isinstance") (call_isX hz hf) (by rfl) T.b_isinstance (by decide +kernel) (pa_cons (pv 3) (pa_cons (pe_bltn (v := .ty "ValueError") (u := .type "ValueError") (by rfl) T.b_ValueError (by decide +kernel) rfl) pa_nil))))) (pw_or1 (pt_val (pe_callB (id := "isinstance") (call_isX hz hf) (by rfl) T.b_isinstance (by decide +kernel) (pa_cons (pv 3) (pa_cons (pe_glob (v := .ref T.c_InvalidNumber) rfl T.X_InvalidNumber.g rfl) pa_nil))))))) (pss_one (ps_ret pe_str)) pss_nil)
      (pss_cons (ps_if (pt_not (pt_val (pe_callB (id := "isinstance") (call_isX hz hf) (by rfl) T.b_isinstance (by decide +kernel) (pa_cons (pv 3) (pa_cons (pe_glob (v := .ref T.c_InvalidSetting) rfl T.X_InvalidSetting.g rfl) pa_nil))))) (pss_one (ps_ret pe_str)) pss_nil)
      (pss_one (ps_ret (pe_xg hz hf (pv 3)))))))
      ClOk.nil))
      (pss_one (ps_ret pe_str))), ?_⟩
    refine st__law_refusal ?_
    o_args
    rcases h with ⟨ho, k⟩ | ⟨u, rfl, u1, u2, h56, ho, k⟩
    · refine ⟨w, v, pc, rfl, hw, .inr (.inl ⟨ho, fun d H1 s1 hx => ?_⟩)⟩
      refine ⟨true, T.Me_InvalidSetting_LossError, fun _ a ha => ?_, fun z => nomatch z⟩
      o_args
      refine errX (fun u r => r) T.X_InvalidSetting.e hx T.Kv_InvalidSetting ?_
      o_args
      refine errX (fun u r => r) T.X_InvalidSetting.e hx T.Kt_InvalidSetting_InvalidNumber ?_
      o_args
      refine errX (fun u r => r) T.X_InvalidSetting.e hx T.Kt_InvalidSetting_InvalidSetting ?_
      o_args
      refine errF T.X_InvalidSetting.x T.nX_InvalidSetting hx rfl ?_
      o_args
      exact k H1 s1
    · refine ⟨w, _, pc, rfl, hw, .inr (.inr ⟨u, rfl, u1, u2, h56, ho, fun d H1 s1 hx => ?_⟩)⟩
      refine ⟨true, T.Me_InvalidSetting_LossError, fun _ a ha => ?_, fun z => nomatch z⟩
      o_args
      refine errX (fun u r => r) T.X_InvalidSetting.e hx T.Kv_InvalidSetting ?_
      o_args
      refine errX (fun u r => r) T.X_InvalidSetting.e hx T.Kt_InvalidSetting_InvalidNumber ?_
      o_args
      refine errX (fun u r => r) T.X_InvalidSetting.e hx T.Kt_InvalidSetting_InvalidSetting ?_
      o_args
      refine errF T.X_InvalidSetting.x T.nX_InvalidSetting hx rfl ?_
      o_args
      exact k H1 s1
def sp__law_stranger (T : Txt K mg) : Sp := fun vs H Q _ => ∃ (x v : V), vs = [x, v] ∧
  ((∃ (p : Nat), x = .str (kindOf p) ∧ 1 ≤ p ∧ p < 5 ∧ Out K H v 1 65535 ∧ ∀ H', Same H H' → Q (.str "unit") H') ∨ (NoKind K H x ∧ ∀ H', Same H H' → Q (.str "control") H'))
theorem ok__law_stranger (T : Txt K mg) : FnOk P w K mg base CX0 7 T.a__law_stranger T.fd__law_stranger ["kind", "unit"] (sp__law_stranger T) := by
  have S := sc__law_stranger
  refine T.F__law_stranger.ok S (fun vs H Q E h => ?_) (fun cdv A outer s H vs Q E hr h => ?_)
  · obtain ⟨x, v, rfl, _⟩ := h
    rfl
  · obtain ⟨x, v, rfl, h⟩ := h
    refine ⟨_, (pss_cons (ps_try_cl rfl rfl takes0 (fun W pn xe tk po => (pss_one (ps_expr (pe_callS (ok_control_of T) (hr.mono (by decide)) rfl T.g_control_of T.F_control_of.kp T.B_control_of (fun σ => passAt tk σ) (pa_cons (pv 0) (pa_cons (pv 1) pa_nil))))))
      (ClOk.named (i := 2) S.nd rfl rfl ⟨rfl, by decide, .inl T.X_InvalidSetting.g⟩ (fun a oe cls d pn hz hf => (pss_cons (ps_if (PW.pt (pw_or (pt_not (pt_val (pe_callB (id := "isinstance") (call_isX hz hf) (by rfl) T.b_isinstance (by decide +kernel) (pa_cons (pv 2) (pa_cons (pe_glob (v := .ref T.c_LossError) rfl T.X_LossError.g rfl) pa_nil))))) (pw_or1 (pt_val (pe_callB (id := "isinstance") (call_isX hz hf) (by rfl) T.b_isinstance (by decide +kernel) (pa_cons (pv 2) (pa_cons (pe_glob (v := .ref T.c_InvalidNumber) rfl T.X_InvalidNumber.g rfl) pa_nil))))))) (pss_one (ps_ret pe_str)) pss_nil)
      (pss_one (ps_ret (pe_xg hz hf (pv 2))))))
      ClOk.nil))
      (pss_one (ps_ret pe_str))), ?_⟩
    refine st__law_stranger ?_
    o_args
    rcases h with ⟨p, rfl, p1, p5, ho, k⟩ | ⟨hn, k⟩
    · refine ⟨_, v, rfl, .inl ⟨p, rfl, p1, p5, .inr ⟨ho, fun d H1 s1 hx => ?_⟩⟩⟩
      refine ⟨true, T.Me_InvalidSetting_InvalidSetting, fun _ a ha => ?_, fun z => nomatch z⟩
      o_args
      refine errX (fun u r => r) T.X_InvalidSetting.e hx T.Kt_InvalidSetting_LossError ?_
      o_args
      refine errX (fun u r => r) T.X_InvalidSetting.e hx T.Kt_InvalidSetting_InvalidNumber ?_
      o_args
      refine errF T.X_InvalidSetting.x T.nX_InvalidSetting hx rfl ?_
      o_args
      exact k H1 s1
    · refine ⟨_, v, rfl, .inr ⟨hn, fun d H1 s1 hx => ?_⟩⟩
      refine ⟨true, T.Me_InvalidSetting_InvalidSetting, fun _ a ha => ?_, fun z => nomatch z⟩
      o_args
      refine errX (fun u r => r) T.X_InvalidSetting.e hx T.Kt_InvalidSetting_LossError ?_
      o_args
      refine errX (fun u r => r) T.X_InvalidSetting.e hx T.Kt_InvalidSetting_InvalidNumber ?_
      o_args
      refine errF T.X_InvalidSetting.x T.nX_InvalidSetting hx rfl ?_
      o_args
      exact k H1 s1

theorem SameX.fresh {p l : Addr} {H H1 H2 : Hp} (s : SameX p H H1) (n : H l = none) (t : SameX l H1 H2) : SameX p H H2 := fun b o nb e => t b o (ne_of_none e n) (s b o nb e)
/-! ### refused calls, whichever of the five it is -/
section
variable {T : Txt K mg} {N m f : Int} {p : Nat} {v : Cs} {e : Addr} {x : V} {H : Hp} {Q : VK} {te : TE} {ta : TA} {σ : L2.St} {E : L2.St → XK}
theorem growX (hp : p < 5) (h : Obj T N p v e H) (hb : Out K H x 1 65535) (hte : ∀ R : VK, R (.ref e) H → te σ H R) (hta : ∀ R : List V → Hp → Prop, R [x, .int m] H → ta σ H R) (q : Err T.c_InvalidNumber "number" x H (E σ)) :
    tEi (tMethX T.c_Control "grow" (NB.sp_Control_grow K T.c_Control T.c_InvalidNumber) E te ta) (tEi (tMethX T.c_Fixed "grow" (NF.sp_Fixed_grow K T.c_Fixed T.c_InvalidNumber) E te ta) (tEi (tMethX T.c_Climb "grow" (NC.sp_Climb_grow K T.c_Climb T.c_InvalidNumber) E te ta) (tEi (tMethX T.c_Curve "grow" (NV.sp_Curve_grow K T.c_Curve T.c_InvalidNumber) E te ta) (tMethX T.c_Delay "grow" (ND.sp_Delay_grow K T.c_Delay T.c_InvalidNumber) E te ta)))) σ H Q := by
  rcases five hp with rfl | rfl | rfl | rfl | rfl
  · obtain ⟨dx, he⟩ := id h
    exact .inl (hte _ ⟨e, dx, _, rfl, he, rfl, hta _ ⟨e, x, _, v, rfl, h, .inr ⟨hb, q⟩⟩⟩)
  · obtain ⟨dx, he⟩ := id h
    exact .inr (.inl (hte _ ⟨e, dx, _, rfl, he, rfl, hta _ ⟨e, x, _, v, rfl, h, .inr ⟨hb, q⟩⟩⟩))
  · obtain ⟨dx, he⟩ := id h
    exact .inr (.inr (.inl (hte _ ⟨e, dx, _, rfl, he, rfl, hta _ ⟨e, x, _, toC v, rfl, h, .inr ⟨hb, q⟩⟩⟩)))
  · obtain ⟨pk, s, b, hc, s0, s1, hb'⟩ := h
    obtain ⟨dx, he⟩ := id hc
    exact .inr (.inr (.inr (.inl (hte _ ⟨e, dx, _, rfl, he, rfl, hta _ ⟨e, x, _, toV v pk s b, rfl, hc, .inr ⟨hb, q⟩⟩⟩))))
  · obtain ⟨l, la, sm, hc, l0, l1, m0, m1⟩ := h
    obtain ⟨dx, he⟩ := id hc
    exact .inr (.inr (.inr (.inr (hte _ ⟨e, dx, _, rfl, he, rfl, hta _ ⟨e, x, _, toD v l la sm, rfl, hc, .inr ⟨hb, q⟩⟩⟩))))
theorem on_ackX (hp : p < 5) (h : Obj T N p v e H) (hb : Out K H x 1 65535) (hte : ∀ R : VK, R (.ref e) H → te σ H R) (hta : ∀ R : List V → Hp → Prop, R [x, .int f, .int m] H → ta σ H R) (q : Err T.c_InvalidNumber "number" x H (E σ)) :
    tEi (tMethX T.c_Control "on_ack" (NB.sp_Control_on_ack K T.c_Control T.c_InvalidNumber) E te ta) (tEi (tMethX T.c_Fixed "on_ack" (NF.sp_Fixed_on_ack K T.c_Fixed T.c_InvalidNumber) E te ta) (tEi (tMethX T.c_Climb "on_ack" (NC.sp_Climb_on_ack K T.c_Climb T.c_InvalidNumber) E te ta) (tEi (tMethX T.c_Curve "on_ack" (NV.sp_Curve_on_ack K T.c_Curve T.c_InvalidNumber) E te ta) (tMethX T.c_Delay "on_ack" (ND.sp_Delay_on_ack K T.c_Delay T.c_InvalidNumber) E te ta)))) σ H Q := by
  rcases five hp with rfl | rfl | rfl | rfl | rfl
  · obtain ⟨dx, he⟩ := id h
    exact .inl (hte _ ⟨e, dx, _, rfl, he, rfl, hta _ ⟨e, x, _, f, v, rfl, h, .inr ⟨hb, q⟩⟩⟩)
  · obtain ⟨dx, he⟩ := id h
    exact .inr (.inl (hte _ ⟨e, dx, _, rfl, he, rfl, hta _ ⟨e, x, _, f, v, rfl, h, .inr ⟨hb, q⟩⟩⟩))
  · obtain ⟨dx, he⟩ := id h
    exact .inr (.inr (.inl (hte _ ⟨e, dx, _, rfl, he, rfl, hta _ ⟨e, x, _, f, toC v, rfl, h, .inr ⟨hb, q⟩⟩⟩)))
  · obtain ⟨pk, s, b, hc, s0, s1, hb'⟩ := h
    obtain ⟨dx, he⟩ := id hc
    exact .inr (.inr (.inr (.inl (hte _ ⟨e, dx, _, rfl, he, rfl, hta _ ⟨e, x, _, f, toV v pk s b, rfl, hc, .inr ⟨hb, q⟩⟩⟩))))
  · obtain ⟨l, la, sm, hc, l0, l1, m0, m1⟩ := h
    obtain ⟨dx, he⟩ := id hc
    exact .inr (.inr (.inr (.inr (hte _ ⟨e, dx, _, rfl, he, rfl, hta _ ⟨e, x, _, f, toD v l la sm, rfl, hc, .inr ⟨hb, q⟩⟩⟩))))
end
def sp__law_refused (T : Txt K mg) : Sp := fun vs H Q _ => ∃ (e : Addr) (b : V) (g : Bool) (now : Int) (p : Nat) (v : Cs) (N : Int), vs = [.ref e, b, .bl g, .int now] ∧ p < 5 ∧ Obj T N p v e H ∧ BadM K 65535 H b ∧ ∀ H', Same H H' → Q (.bl true) H'
theorem ok__law_refused (T : Txt K mg) : FnOk P w K mg base CX0 9 T.a__law_refused T.fd__law_refused ["control", "bad", "grows", "now"] (sp__law_refused T) := by
  have S := sc__law_refused
  refine T.F__law_refused.ok S (fun vs H Q E h => ?_) (fun cdv A outer s H vs Q E hr h => ?_)
  · obtain ⟨e, b, g, now, p, v, N, rfl, _⟩ := h
    rfl
  · obtain ⟨e, b, g, now, p, v, N, rfl, hp, hO, hb, k⟩ := h
    obtain ⟨t, bb, dd, h1, h2, h3, h4⟩ := hb.2.ex
    have eqq := PySem.SeqAt.eqv_refl _ (PySem.SeqAt.canLay_of_shaped h4)
    refine ⟨_, (pss_cons (ps_try_cl rfl rfl takes0 (fun W pn xe tk po => (pss_one (ps_if (pt_val (pv 2)) (pss_one (ps_expr (pe_ei (pe_methX (pv 0) T.cl_Control T.m_Control_grow (NB.ok_Control_grow T) (hr.mono (by decide)) T.B_Control_grow (fun σ => passAt tk σ) (pa_cons (pv 1) (pa_cons (pv 3) pa_nil))) (pe_ei (pe_methX (pv 0) T.cl_Fixed T.m_Fixed_grow (NF.ok_Fixed_grow T) (hr.mono (by decide)) T.B_Fixed_grow (fun σ => passAt tk σ) (pa_cons (pv 1) (pa_cons (pv 3) pa_nil))) (pe_ei (pe_methX (pv 0) T.cl_Climb T.m_Climb_grow (NC.ok_Climb_grow T) (hr.mono (by decide)) T.B_Climb_grow (fun σ => passAt tk σ) (pa_cons (pv 1) (pa_cons (pv 3) pa_nil))) (pe_ei (pe_methX (pv 0) T.cl_Curve T.m_Curve_grow (NV.ok_Curve_grow T) (hr.mono (by decide)) T.B_Curve_grow (fun σ => passAt tk σ) (pa_cons (pv 1) (pa_cons (pv 3) pa_nil))) (pe_methX (pv 0) T.cl_Delay T.m_Delay_grow (ND.ok_Delay_grow T) (hr.mono (by decide)) T.B_Delay_grow (fun σ => passAt tk σ) (pa_cons (pv 1) (pa_cons (pv 3) pa_nil))))))))) (pss_one (ps_expr (pe_ei (pe_methX (pv 0) T.cl_Control T.m_Control_on_ack (NB.ok_Control_on_ack T) (hr.mono (by decide)) T.B_Control_on_ack (fun σ => passAt tk σ) (pa_cons (pv 1) (pa_cons pe_int (pa_cons (pv 3) pa_nil)))) (pe_ei (pe_methX (pv 0) T.cl_Fixed T.m_Fixed_on_ack (NF.ok_Fixed_on_ack T) (hr.mono (by decide)) T.B_Fixed_on_ack (fun σ => passAt tk σ) (pa_cons (pv 1) (pa_cons pe_int (pa_cons (pv 3) pa_nil)))) (pe_ei (pe_methX (pv 0) T.cl_Climb T.m_Climb_on_ack (NC.ok_Climb_on_ack T) (hr.mono (by decide)) T.B_Climb_on_ack (fun σ => passAt tk σ) (pa_cons (pv 1) (pa_cons pe_int (pa_cons (pv 3) pa_nil)))) (pe_ei (pe_methX (pv 0) T.cl_Curve T.m_Curve_on_ack (NV.ok_Curve_on_ack T) (hr.mono (by decide)) T.B_Curve_on_ack (fun σ => passAt tk σ) (pa_cons (pv 1) (pa_cons pe_int (pa_cons (pv 3) pa_nil)))) (pe_methX (pv 0) T.cl_Delay T.m_Delay_on_ack (ND.ok_Delay_on_ack T) (hr.mono (by decide)) T.B_Delay_on_ack (fun σ => passAt tk σ) (pa_cons (pv 1) (pa_cons pe_int (pa_cons (pv 3) pa_nil)))))))))))))
      (ClOk.named (i := 4) S.nd rfl rfl ⟨rfl, by decide, .inl T.X_LossError.g⟩ (fun a oe cls d pn hz hf => (pss_cons (ps_if (PW.pt (pw_or (pt_not (pt_val (pe_callB (id := "isinstance") (call_isX hz hf) (by rfl) T.b_isinstance (by decide +kernel) (pa_cons (pv 4) (pa_cons (pe_bltn (v := .ty "ValueError") (u := .type "ValueError") (by rfl) T.b_ValueError (by decide +kernel) rfl) pa_nil))))) (pw_or1 (pt_val (pe_callB (id := "isinstance") (call_isX hz hf) (by rfl) T.b_isinstance (by decide +kernel) (pa_cons (pv 4) (pa_cons (pe_glob (v := .ref T.c_InvalidSetting) rfl T.X_InvalidSetting.g rfl) pa_nil))))))) (pss_one (ps_ret pe_bl)) pss_nil)
      (pss_cons (ps_if (pt_not (pt_val (pe_callB (id := "isinstance") (call_isX hz hf) (by rfl) T.b_isinstance (by decide +kernel) (pa_cons (pv 4) (pa_cons (pe_glob (v := .ref T.c_InvalidNumber) rfl T.X_InvalidNumber.g rfl) pa_nil))))) (pss_one (ps_ret pe_bl)) pss_nil)
      (pss_one (ps_ret (pe_and (pe_cmpR (show OpR _ _ (rEqD K) from op_eqD hr.units) (pe_xg hz hf (pv 4)) (pv 1) (nomark _)) (pe_one (pe_cmpR op_eq (pe_callB (id := "isinstance") (show CallR _ (.builtin "isinstance") (rIsi K) from call_isi) (by rfl) T.b_isinstance (by decide +kernel) (pa_cons (pe_xg hz hf (pv 4)) (pa_cons (pe_bltn (v := .ty "bool") (u := .type "bool") (by rfl) T.b_bool (by decide +kernel) rfl) pa_nil))) (pe_callB (id := "isinstance") (show CallR _ (.builtin "isinstance") (rIsi K) from call_isi) (by rfl) T.b_isinstance (by decide +kernel) (pa_cons (pv 1) (pa_cons (pe_bltn (v := .ty "bool") (u := .type "bool") (by rfl) T.b_bool (by decide +kernel) rfl) pa_nil))) (nomark _)))))))))
      ClOk.nil))
      (pss_one (ps_ret pe_bl))), ?_⟩
    refine st__law_refused ?_
    o_args
    cases g with
    | true =>
      o_args
      refine growX (m := now) hp hO hb.1 (fun R h => ⟨_, rfl, h⟩) (fun R h => by o_args; exact h) fun d H2 s2 hx => ?_
      refine ⟨true, T.Me_InvalidNumber_LossError, fun _ a ha => ?_, fun z => nomatch z⟩
      o_args
      refine errX (fun u r => r) T.X_InvalidNumber.e hx T.Kv_InvalidNumber ?_
      o_args
      refine errX (fun u r => r) T.X_InvalidNumber.e hx T.Kt_InvalidNumber_InvalidSetting ?_
      o_args
      refine errX (fun u r => r) T.X_InvalidNumber.e hx T.Kt_InvalidNumber_InvalidNumber ?_
      o_args
      refine errF T.X_InvalidNumber.x T.nX_InvalidNumber hx rfl ?_
      o_args
      refine ⟨dd, dd, Dp.sm s2 _ _ h3, Dp.sm s2 _ _ h3, h4, h4, ?_⟩
      rw [eqq]
      o_args
      refine errF T.X_InvalidNumber.x T.nX_InvalidNumber hx rfl ?_
      o_args
      refine ⟨_, _, _, _, bb, rfl, .ty _, tyX_same h1 s2, h2, ?_⟩
      o_args
      refine ⟨_, _, _, _, bb, rfl, .ty _, tyX_same h1 s2, h2, ?_⟩
      o_args
      rw [decide_eq_true rfl]
      o_args
      exact k H2 s2
    | false =>
      o_args
      refine on_ackX (m := now) hp hO hb.1 (fun R h => ⟨_, rfl, h⟩) (fun R h => by o_args; exact h) fun d H2 s2 hx => ?_
      refine ⟨true, T.Me_InvalidNumber_LossError, fun _ a ha => ?_, fun z => nomatch z⟩
      o_args
      refine errX (fun u r => r) T.X_InvalidNumber.e hx T.Kv_InvalidNumber ?_
      o_args
      refine errX (fun u r => r) T.X_InvalidNumber.e hx T.Kt_InvalidNumber_InvalidSetting ?_
      o_args
      refine errX (fun u r => r) T.X_InvalidNumber.e hx T.Kt_InvalidNumber_InvalidNumber ?_
      o_args
      refine errF T.X_InvalidNumber.x T.nX_InvalidNumber hx rfl ?_
      o_args
      refine ⟨dd, dd, Dp.sm s2 _ _ h3, Dp.sm s2 _ _ h3, h4, h4, ?_⟩
      rw [eqq]
      o_args
      refine errF T.X_InvalidNumber.x T.nX_InvalidNumber hx rfl ?_
      o_args
      refine ⟨_, _, _, _, bb, rfl, .ty _, tyX_same h1 s2, h2, ?_⟩
      o_args
      refine ⟨_, _, _, _, bb, rfl, .ty _, tyX_same h1 s2, h2, ?_⟩
      o_args
      rw [decide_eq_true rfl]
      o_args
      exact k H2 s2
/-! ### controls made side by side -/
structure Ar (w : Nat) (u n : Int) (pc : V) : Prop where
  w11 : w < 11
  u1 : 1 ≤ u
  u2 : u ≤ 65535
  pc : w = 5 ∨ w = 6 → pc = .int n ∧ 1 ≤ n ∧ n ≤ 64
theorem Ar.make {T : Txt K mg} {w : Nat} {u n : Int} {pc : V} {H : Hp} {Q : VK} {E : XK} (A : Ar w u n pc) (q : ∀ e H', H e = none → Same H H' → Fr T (pl w) (fr u (tm w n)) e H' → Q (.ref e) H') : sp__law_make T [.int w, .int u, pc] H Q E :=
  ⟨w, _, pc, rfl, A.w11, .inl ⟨u, n, rfl, A.u1, A.u2, A.pc, q⟩⟩
theorem Ar.fresh {T : Txt K mg} {w : Nat} {u n : Int} {pc : V} {e : Addr} {H : Hp} {Q : VK} {E : XK} (A : Ar w u n pc) (h : Fr T (pl w) (fr u (tm w n)) e H) (q : ∀ H', Same H H' → Q (.bl true) H') : sp__law_fresh T [.ref e, .int w, .int u, pc] H Q E :=
  ⟨e, w, u, n, pc, rfl, A.w11, A.u1, A.u2, A.pc, h, q⟩
theorem Ar.good {w : Nat} {u n : Int} {pc : V} (A : Ar w u n pc) : Good (fr u (tm w n)) := by
  obtain ⟨t1, t2⟩ := tm64 (w := w) (n := n) fun z => (A.pc z).2
  have u1 := A.u1
  have u2 := A.u2
  have m1 : u * 1 ≤ u * tm w n := Int.mul_le_mul_of_nonneg_left t1 (by omega)
  have m2 : u * tm w n ≤ u * 64 := Int.mul_le_mul_of_nonneg_left t2 (by omega)
  refine ⟨u1, u2, ?_, ?_, Int.le_refl 0, ?_⟩
  · show u ≤ u * tm w n; omega
  · show u * tm w n ≤ 4194304; omega
  · show 0 < u * tm w n; omega
theorem expV_st {p : Nat} {v : Cs} {f : Int} : (expV p v f).st = true := by unfold expV; split <;> rfl
theorem lossV_st {p : Nat} {v : Cs} {f : Int} : (lossV p v f).st = v.st := by
  unfold lossV
  split
  · rfl
  · split <;> rfl
theorem obj_ins {T : Txt K mg} {N : Int} {p : Nat} {v : Cs} {e : Addr} {H : Hp} (hp : p < 5) (h : Obj T N p v e H) {a : Addr} (B : Bx a H) : e ≠ a := by
  obtain ⟨x, y, z, g, _⟩ := B
  exact h.ne hp g
section
variable {T : Txt K mg} {N f : Int} {p : Nat} {v : Cs} {e : Addr} {H : Hp} {Q : VK} {te : TE} {ta : TA} {σ : L2.St} {E1 E2 E3 E4 E5 : XK} {P : Int → Hp → Prop}
/-- as sample_any, the argument drawn behind the receiver -/
theorem sampleT (hp : p < 5) (h : Obj T N p v e H) (hte : ∀ R : VK, R (.ref e) H → te σ H R) (hta : ∀ R : List V → Hp → Prop, (∀ n H1, 0 ≤ n → n < 10 ^ 12 → Obj T N p v e H1 → P n H1 → R [.int n] H1) → ta σ H R)
    (q : ∀ n H1 H', P n H1 → SameX e H1 H' → Obj T N p v e H' → Q .non H') :
    tEi (tMeth T.c_Control "on_sample" (NB.sp_Control_on_sample) [] E1 te ta) (tEi (tMeth T.c_Fixed "on_sample" (NF.sp_Fixed_on_sample) [] E2 te ta) (tEi (tMeth T.c_Climb "on_sample" (NC.sp_Climb_on_sample T.c_Climb) [] E3 te ta) (tEi (tMeth T.c_Curve "on_sample" (NV.sp_Curve_on_sample T.c_Curve) [] E4 te ta) (tMeth T.c_Delay "on_sample" (ND.sp_Delay_on_sample T.c_Delay) [] E5 te ta)))) σ H Q := by
  have h0 := h
  rcases five hp with rfl | rfl | rfl | rfl | rfl
  · obtain ⟨dx, he⟩ := id h
    refine .inl (hte _ ⟨e, dx, _, rfl, he, rfl, hta _ fun n H1 n0 n1 h1 p1 => ?_⟩)
    exact ⟨_, _, rfl, q n H1 H1 p1 SameX.refl h1⟩
  · obtain ⟨dx, he⟩ := id h
    refine .inr (.inl (hte _ ⟨e, dx, _, rfl, he, rfl, hta _ fun n H1 n0 n1 h1 p1 => ?_⟩))
    exact ⟨_, _, rfl, q n H1 H1 p1 SameX.refl h1⟩
  · obtain ⟨dx, he⟩ := id h
    refine .inr (.inr (.inl (hte _ ⟨e, dx, _, rfl, he, rfl, hta _ fun n H1 n0 n1 h1 p1 => ?_⟩)))
    exact ⟨e, _, toC v, rfl, h1, q n H1 H1 p1 SameX.refl h1⟩
  · obtain ⟨_, _, _, ⟨dx, he⟩, _⟩ := id h
    refine .inr (.inr (.inr (.inl (hte _ ⟨e, dx, _, rfl, he, rfl, hta _ fun n H1 n0 n1 h1 p1 => ?_⟩))))
    obtain ⟨pk, s, b, hc, s0, s1, hb⟩ := h1
    exact ⟨e, _, toV v pk s b, rfl, hc, q n H1 H1 p1 SameX.refl ⟨pk, s, b, hc, s0, s1, hb⟩⟩
  · obtain ⟨_, _, _, ⟨dx, he⟩, _⟩ := id h
    refine .inr (.inr (.inr (.inr (hte _ ⟨e, dx, _, rfl, he, rfl, hta _ fun n H1 n0 n1 h1 p1 => ?_⟩))))
    obtain ⟨l, la, sm, hc, l0, l1, m0, m1⟩ := h1
    refine ⟨e, n, toD v l la sm, rfl, hc, fun H2 t1 h2 => q n H1 H2 p1 t1 ⟨if sm = 0 then n else min l n, n, sm + 1, h2, ?_, ?_, n0, n1⟩⟩
    · split <;> omega
    · split <;> omega
/-- as loss_any -/
theorem lossT {P : Int → Hp → Prop} (hp : p < 5) (h : Obj T N p v e H) (G : Good v) (f0 : 0 ≤ f) (hte : ∀ R : VK, R (.ref e) H → te σ H R) (hta : ∀ R : List V → Hp → Prop, (∀ m H1, 0 ≤ m → N ≤ m → Obj T N p v e H1 → P m H1 → R [.int f, .int m] H1) → ta σ H R)
    (q : ∀ m H1 H', P m H1 → SameX e H1 H' → Obj T m p (lossV p v f) e H' → Q .non H') :
    tEi (tMeth T.c_Control "on_loss" (NB.sp_Control_on_loss T.c_Control) [] E1 te ta) (tEi (tMeth T.c_Fixed "on_loss" (NF.sp_Fixed_on_loss) [] E2 te ta) (tEi (tMeth T.c_Climb "on_loss" (NC.sp_Climb_on_loss T.c_Climb) [] E3 te ta) (tEi (tMeth T.c_Curve "on_loss" (NV.sp_Curve_on_loss T.c_Curve) [] E4 te ta) (tMeth T.c_Delay "on_loss" (ND.sp_Delay_on_loss T.c_Delay) [] E5 te ta)))) σ H Q := by
  rcases five hp with rfl | rfl | rfl | rfl | rfl
  · obtain ⟨dx, he⟩ := id h
    refine .inl (hte _ ⟨e, dx, _, rfl, he, rfl, hta _ fun m H1 m0 Nm h1 p1 => ?_⟩)
    exact ⟨e, v, f, _, rfl, h1, f0, fun H2 t1 h2 => q m H1 H2 p1 t1 h2⟩
  · obtain ⟨dx, he⟩ := id h
    refine .inr (.inl (hte _ ⟨e, dx, _, rfl, he, rfl, hta _ fun m H1 m0 Nm h1 p1 => ?_⟩))
    exact ⟨_, _, _, rfl, q m H1 H1 p1 SameX.refl h1⟩
  · obtain ⟨dx, he⟩ := id h
    refine .inr (.inr (.inl (hte _ ⟨e, dx, _, rfl, he, rfl, hta _ fun m H1 m0 Nm h1 p1 => ?_⟩)))
    exact ⟨e, toC v, f, _, rfl, h1, f0, fun H2 t1 h2 => q m H1 H2 p1 t1 h2⟩
  · obtain ⟨_, _, _, ⟨dx, he⟩, _⟩ := id h
    refine .inr (.inr (.inr (.inl (hte _ ⟨e, dx, _, rfl, he, rfl, hta _ fun m H1 m0 Nm h1 p1 => ?_⟩))))
    obtain ⟨pk, s, b, hc, s0, s1, hb⟩ := h1
    refine ⟨e, toV v pk s b, _, m, rfl, hc, G.u1, G.u2, G.w1, G.w2, fun H2 s' t1 hs h2 => ?_⟩
    have hle := hs.le G.u1
    have hw : 64 * (v.w - max (v.w * 7 / 10) (2 * v.u)) ≤ 536870912 := by have := G.w2; have := G.uw; have := G.u1; omega
    have hle : s' = 0 ∨ s' ≤ 64 * (v.w - max (v.w * 7 / 10) (2 * v.u)) := hle
    exact q m H1 H2 p1 t1 ⟨v.w, s', some m, h2, hs.s0, by omega, fun z e => by cases e; omega⟩
  · obtain ⟨_, _, _, ⟨dx, he⟩, _⟩ := id h
    refine .inr (.inr (.inr (.inr (hte _ ⟨e, dx, _, rfl, he, rfl, hta _ fun m H1 m0 Nm h1 p1 => ?_⟩))))
    obtain ⟨l, la, sm, hc, l0, l1, m0, m1⟩ := h1
    exact ⟨e, toD v l la sm, f, _, rfl, hc, f0, fun H2 t1 h2 => q m H1 H2 p1 t1 ⟨l, la, sm, h2, l0, l1, m0, m1⟩⟩
end
def sp__law_apart (T : Txt K mg) : Sp := fun vs H Q _ => ∃ (w : Nat) (u n : Int) (pc : V) (b : Addr), vs = [.int w, .int u, pc, .ref b] ∧ Ar w u n pc ∧ Bx b H ∧ ∀ H', SameX b H H' → Q (.bl true) H'
theorem ok__law_apart (T : Txt K mg) : FnOk P w K mg base CX0 8 T.a__law_apart T.fd__law_apart ["which", "unit", "pieces", "box"] (sp__law_apart T) := by
  have S := sc__law_apart
  refine T.F__law_apart.ok S (fun vs H Q E h => ?_) (fun cdv A outer s H vs Q E hr h => ?_)
  · obtain ⟨w, u, n, pc, b, rfl, _⟩ := h
    rfl
  · obtain ⟨w, u, n, pc, b, rfl, A, B, k⟩ := h
    have p5 := pl5 w
    have G := A.good
    refine ⟨_, (pss_cons (ps_set (i := 4) S.nd rfl (Or.inl rfl) (pe_call (ok__law_make T) (hr.mono (by decide)) rfl T.g__law_make T.F__law_make.kp T.B__law_make .nil passL (pa_cons (pv 0) (pa_cons (pv 1) (pa_cons (pv 2) pa_nil)))))
      (pss_cons (ps_set (i := 5) S.nd rfl (Or.inl rfl) (pe_call (ok__law_make T) (hr.mono (by decide)) rfl T.g__law_make T.F__law_make.kp T.B__law_make .nil passL (pa_cons (pv 0) (pa_cons (pv 1) (pa_cons (pv 2) pa_nil)))))
      (pss_cons (ps_set (i := 6) S.nd rfl (Or.inl rfl) (pe_call (ok__law_draw T) (hr.mono (by decide)) rfl T.g__law_draw T.F__law_draw.kp T.B__law_draw .nil pass0 (pa_cons (pv 3) (pa_cons pe_int pa_nil))))
      (pss_cons (ps_if (PW.pt (pw_or (pt_cmpR op_notN (pe_ei (pe_meth (pv 4) T.cl_Control T.m_Control_on_expiry (NB.ok_Control_on_expiry T) (hr.mono (by decide)) T.B_Control_on_expiry .nil pass0 (pa_cons (pv 6) (pa_cons pe_int pa_nil))) (pe_ei (pe_meth (pv 4) T.cl_Fixed T.m_Fixed_on_expiry (NF.ok_Fixed_on_expiry T) (hr.mono (by decide)) T.B_Fixed_on_expiry .nil pass0 (pa_cons (pv 6) (pa_cons pe_int pa_nil))) (pe_ei (pe_meth (pv 4) T.cl_Climb T.m_Climb_on_expiry (NC.ok_Climb_on_expiry T) (hr.mono (by decide)) T.B_Climb_on_expiry .nil passL (pa_cons (pv 6) (pa_cons pe_int pa_nil))) (pe_ei (pe_meth (pv 4) T.cl_Curve T.m_Curve_on_expiry (NV.ok_Curve_on_expiry T) (hr.mono (by decide)) T.B_Curve_on_expiry .nil passL (pa_cons (pv 6) (pa_cons pe_int pa_nil))) (pe_meth (pv 4) T.cl_Delay T.m_Delay_on_expiry (ND.ok_Delay_on_expiry T) (hr.mono (by decide)) T.B_Delay_on_expiry .nil passL (pa_cons (pv 6) (pa_cons pe_int pa_nil))))))) pe_non (nomark _)) (pw_or1 (pt_cmpR op_notN (pe_ei (pe_meth (pv 4) T.cl_Control T.m_Control_on_sample (NB.ok_Control_on_sample T) (hr.mono (by decide)) T.B_Control_on_sample .nil pass0 (pa_cons (pe_call (ok__law_draw T) (hr.mono (by decide)) rfl T.g__law_draw T.F__law_draw.kp T.B__law_draw .nil pass0 (pa_cons (pv 3) (pa_cons pe_int pa_nil))) pa_nil)) (pe_ei (pe_meth (pv 4) T.cl_Fixed T.m_Fixed_on_sample (NF.ok_Fixed_on_sample T) (hr.mono (by decide)) T.B_Fixed_on_sample .nil pass0 (pa_cons (pe_call (ok__law_draw T) (hr.mono (by decide)) rfl T.g__law_draw T.F__law_draw.kp T.B__law_draw .nil pass0 (pa_cons (pv 3) (pa_cons pe_int pa_nil))) pa_nil)) (pe_ei (pe_meth (pv 4) T.cl_Climb T.m_Climb_on_sample (NC.ok_Climb_on_sample T) (hr.mono (by decide)) T.B_Climb_on_sample .nil passL (pa_cons (pe_call (ok__law_draw T) (hr.mono (by decide)) rfl T.g__law_draw T.F__law_draw.kp T.B__law_draw .nil pass0 (pa_cons (pv 3) (pa_cons pe_int pa_nil))) pa_nil)) (pe_ei (pe_meth (pv 4) T.cl_Curve T.m_Curve_on_sample (NV.ok_Curve_on_sample T) (hr.mono (by decide)) T.B_Curve_on_sample .nil passL (pa_cons (pe_call (ok__law_draw T) (hr.mono (by decide)) rfl T.g__law_draw T.F__law_draw.kp T.B__law_draw .nil pass0 (pa_cons (pv 3) (pa_cons pe_int pa_nil))) pa_nil)) (pe_meth (pv 4) T.cl_Delay T.m_Delay_on_sample (ND.ok_Delay_on_sample T) (hr.mono (by decide)) T.B_Delay_on_sample .nil pass0 (pa_cons (pe_call (ok__law_draw T) (hr.mono (by decide)) rfl T.g__law_draw T.F__law_draw.kp T.B__law_draw .nil pass0 (pa_cons (pv 3) (pa_cons pe_int pa_nil))) pa_nil)))))) pe_non (nomark _))))) (pss_one (ps_ret pe_bl)) pss_nil)
      (pss_cons (ps_if (PW.pt (pw_or (pt_cmpR op_notN (pe_ei (pe_meth (pv 4) T.cl_Control T.m_Control_on_loss (NB.ok_Control_on_loss T) (hr.mono (by decide)) T.B_Control_on_loss .nil pass0 (pa_cons (pv 6) (pa_cons (pe_op op_add pe_int (pe_call (ok__law_draw T) (hr.mono (by decide)) rfl T.g__law_draw T.F__law_draw.kp T.B__law_draw .nil pass0 (pa_cons (pv 3) (pa_cons pe_int pa_nil)))) pa_nil))) (pe_ei (pe_meth (pv 4) T.cl_Fixed T.m_Fixed_on_loss (NF.ok_Fixed_on_loss T) (hr.mono (by decide)) T.B_Fixed_on_loss .nil pass0 (pa_cons (pv 6) (pa_cons (pe_op op_add pe_int (pe_call (ok__law_draw T) (hr.mono (by decide)) rfl T.g__law_draw T.F__law_draw.kp T.B__law_draw .nil pass0 (pa_cons (pv 3) (pa_cons pe_int pa_nil)))) pa_nil))) (pe_ei (pe_meth (pv 4) T.cl_Climb T.m_Climb_on_loss (NC.ok_Climb_on_loss T) (hr.mono (by decide)) T.B_Climb_on_loss .nil passL (pa_cons (pv 6) (pa_cons (pe_op op_add pe_int (pe_call (ok__law_draw T) (hr.mono (by decide)) rfl T.g__law_draw T.F__law_draw.kp T.B__law_draw .nil pass0 (pa_cons (pv 3) (pa_cons pe_int pa_nil)))) pa_nil))) (pe_ei (pe_meth (pv 4) T.cl_Curve T.m_Curve_on_loss (NV.ok_Curve_on_loss T) (hr.mono (by decide)) T.B_Curve_on_loss .nil pass0 (pa_cons (pv 6) (pa_cons (pe_op op_add pe_int (pe_call (ok__law_draw T) (hr.mono (by decide)) rfl T.g__law_draw T.F__law_draw.kp T.B__law_draw .nil pass0 (pa_cons (pv 3) (pa_cons pe_int pa_nil)))) pa_nil))) (pe_meth (pv 4) T.cl_Delay T.m_Delay_on_loss (ND.ok_Delay_on_loss T) (hr.mono (by decide)) T.B_Delay_on_loss .nil passL (pa_cons (pv 6) (pa_cons (pe_op op_add pe_int (pe_call (ok__law_draw T) (hr.mono (by decide)) rfl T.g__law_draw T.F__law_draw.kp T.B__law_draw .nil pass0 (pa_cons (pv 3) (pa_cons pe_int pa_nil)))) pa_nil))))))) pe_non (nomark _)) (pw_or1 (pt_not (pt_val (pe_call (ok__law_truth T) (hr.mono (by decide)) rfl T.g__law_truth T.F__law_truth.kp T.B__law_truth .nil pass0 (pa_cons (pe_fld (pv 4) rfl) (pa_cons pe_bl pa_nil)))))))) (pss_one (ps_ret pe_bl)) pss_nil)
      (pss_cons (ps_set (i := 7) S.nd rfl (Or.inl rfl) (pe_call (ok__law_make T) (hr.mono (by decide)) rfl T.g__law_make T.F__law_make.kp T.B__law_make .nil passL (pa_cons (pv 0) (pa_cons (pv 1) (pa_cons (pv 2) pa_nil)))))
      (pss_one (ps_ret (pe_and (pe_call (ok__law_fresh T) (hr.mono (by decide)) rfl T.g__law_fresh T.F__law_fresh.kp T.B__law_fresh .nil pass0 (pa_cons (pv 5) (pa_cons (pv 0) (pa_cons (pv 1) (pa_cons (pv 2) pa_nil))))) (pe_one (pe_call (ok__law_fresh T) (hr.mono (by decide)) rfl T.g__law_fresh T.F__law_fresh.kp T.B__law_fresh .nil pass0 (pa_cons (pv 7) (pa_cons (pv 0) (pa_cons (pv 1) (pa_cons (pv 2) pa_nil))))))))))))))), ?_⟩
    refine st__law_apart ?_
    o_args
    refine A.make fun one H1 n1 s1 f1 => ?_
    o_args
    refine A.make fun two H2 n2 s2 f2 => ?_
    have B2 := B.same (s1.trans s2)
    have o2 := (f1.same p5 s2).obj p5
    have ne12 : one ≠ two := fun z => by
      have := ((f1.obj p5).seen p5).at_
      obtain ⟨C, dx, tl, g, _⟩ := this
      rw [z, n2] at g
      cases g
    have b1 := obj_ins p5 o2 B2
    have b2 := obj_ins p5 (f2.obj p5) B2
    o_args
    refine ⟨b, 100, rfl, B2, by decide, by decide, fun ld H3 l1 l2 B3 s3 => ?_⟩
    have o3 := o2.on p5 s3 b1
    have f3 := f2.off p5 (l := [b]) (Off.ofX (by simp) s3) (by simp [b2])
    o_args
    refine expiry_any (m := 5) p5 o3 G l1 (by decide) (fun R h => ⟨_, rfl, h⟩) (fun R h => by o_args; exact h) fun H4 s4 o4 _ => ?_
    have B4 := B3.on s4 b1.symm
    have f4 := f3.off p5 (l := [one]) (Off.ofX (by simp) s4) (by simp [ne12.symm])
    have G4 := expV_good (p := pl w) (f := ld) G
    o_args
    refine sampleT (P := fun n H1 => SameX b H4 H1 ∧ Bx b H1) p5 o4 (fun R h => ⟨_, rfl, h⟩) (fun R h => ?_) (fun tk H5 H6 c56 s6 o6 => ?_)
    · o_args
      refine ⟨b, 1000, rfl, B4, by decide, by decide, fun tk H5 t1 t2 B5 s5 => ?_⟩
      o_args
      exact h tk H5 t1 (by omega) (o4.on p5 s5 b1) ⟨s5, B5⟩
    obtain ⟨s5, B5⟩ := c56
    have f5 := f4.off p5 (l := [b]) (Off.ofX (by simp) s5) (by simp [b2])
    have B6 := B5.on s6 b1.symm
    have f6 := f5.off p5 (l := [one]) (Off.ofX (by simp) s6) (by simp [ne12.symm])
    o_args
    refine lossT (P := fun n H1 => SameX b H6 H1 ∧ Bx b H1) (f := ld) p5 o6 G4 l1 (fun R h => ⟨_, rfl, h⟩) (fun R h => ?_) (fun m H7 H8 c78 s8 o8 => ?_)
    · o_args
      refine ⟨b, 1000, rfl, B6, by decide, by decide, fun t' H7 t3 t4 B7 s7 => ?_⟩
      o_args
      exact h (5 + t') H7 (by omega) (by omega) (o6.on p5 s7 b1) ⟨s7, B7⟩
    obtain ⟨s7, B7⟩ := c78
    have f7 := f6.off p5 (l := [b]) (Off.ofX (by simp) s7) (by simp [b2])
    have f8 := f7.off p5 (l := [one]) (Off.ofX (by simp) s8) (by simp [ne12.symm])
    obtain ⟨C, dx, tl, he, cl, _, _, _, _, n5⟩ := (o8.seen p5).at_
    rw [lossV_st, expV_st] at he
    o_args
    refine fget he cl n5 rfl ?_
    o_args
    refine ⟨_, _, rfl, ?_⟩
    rw [decide_eq_true rfl]
    o_args
    refine A.make fun three H9 n9 s9 f9 => ?_
    o_args
    refine A.fresh (f8.same p5 s9) fun H10 s10 => ?_
    o_args
    refine A.fresh (f9.same p5 s10) fun H11 s11 => ?_
    exact k H11 ((((((((SameX.of (s1.trans s2)).trans s3).fresh n1 s4).trans s5).fresh n1 s6).trans s7).fresh n1 s8).trans (SameX.of ((s9.trans s10).trans s11)))
def sp__law_units (T : Txt K mg) : Sp := fun vs H Q _ => ∃ (w : Nat) (n : Int) (b : Addr), vs = [.int w, .int n, .ref b] ∧ w < 11 ∧ 1 ≤ n ∧ n ≤ 64 ∧ Bx b H ∧ ∀ H', SameX b H H' → Q (.bl true) H'
theorem ok__law_units (T : Txt K mg) : FnOk P w K mg base CX0 9 T.a__law_units T.fd__law_units ["which", "pieces", "box"] (sp__law_units T) := by
  have S := sc__law_units
  refine T.F__law_units.ok S (fun vs H Q E h => ?_) (fun cdv A outer s H vs Q E hr h => ?_)
  · obtain ⟨w, n, b, rfl, _⟩ := h
    rfl
  · obtain ⟨w, n, b, rfl, hw, n1, n2, B, k⟩ := h
    have p5 := pl5 w
    refine ⟨_, (pss_cons (ps_set (i := 3) S.nd rfl (Or.inl rfl) (pe_call (ok__law_bad T) (hr.mono (by decide)) rfl T.g__law_bad T.F__law_bad.kp T.B__law_bad .nil pass0 (pa_cons (pv 2) (pa_cons pe_int pa_nil))))
      (pss_cons (ps_set (i := 4) S.nd rfl (Or.inl rfl) (pv 1))
      (C8.pss_cut (ps_if (pt_cmpR op_eq (pe_call (ok__law_draw T) (hr.mono (by decide)) rfl T.g__law_draw T.F__law_draw.kp T.B__law_draw .nil pass0 (pa_cons (pv 2) (pa_cons pe_int pa_nil))) pe_int (nomark _)) (pss_one (ps_set (i := 4) S.nd rfl (Or.inl rfl) (pe_call (ok__law_bad T) (hr.mono (by decide)) rfl T.g__law_bad T.F__law_bad.kp T.B__law_bad .nil pass0 (pa_cons (pv 2) (pa_cons pe_int pa_nil))))) pss_nil)
      (pss_cons (ps_if (pt_cmpR op_ne (pe_call (ok__law_refusal T) (hr.mono (by decide)) rfl T.g__law_refusal T.F__law_refusal.kp T.B__law_refusal .nil pass0 (pa_cons (pv 0) (pa_cons (pv 3) (pa_cons (pv 4) pa_nil)))) pe_str (nomark _)) (pss_one (ps_ret pe_bl)) pss_nil)
      (pss_cons (ps_set (i := 5) S.nd rfl (Or.inl rfl) (pe_ix ix_list (pe_lst (pa_cons pe_int (pa_cons pe_int pa_nil))) (pe_call (ok__law_draw T) (hr.mono (by decide)) rfl T.g__law_draw T.F__law_draw.kp T.B__law_draw .nil pass0 (pa_cons (pv 2) (pa_cons pe_int pa_nil))) (fun _ _ => rfl)))
      (pss_cons (ps_set (i := 6) S.nd rfl (Or.inl rfl) (pe_call (ok__law_make T) (hr.mono (by decide)) rfl T.g__law_make T.F__law_make.kp T.B__law_make .nil passL (pa_cons (pv 0) (pa_cons (pv 5) (pa_cons (pv 1) pa_nil)))))
      (pss_one (ps_ret (pe_call (ok__law_fresh T) (hr.mono (by decide)) rfl T.g__law_fresh T.F__law_fresh.kp T.B__law_fresh .nil pass0 (pa_cons (pv 6) (pa_cons (pv 0) (pa_cons (pv 5) (pa_cons (pv 1) pa_nil))))))))))))), ?_⟩
    refine st__law_units ?_
    o_args
    refine ⟨b, _, rfl, B, fun bad H1 hb B1 s1 => ?_⟩
    o_args
    refine ⟨fun σ H' => ∃ odd, σ = [some (.int w), some (.int n), some (.ref b), some bad, some odd, none, none] ∧ SameX b H1 H' ∧ Bx b H', ?_, ?_⟩
    · o_args
      refine ⟨b, 2, rfl, B1, by decide, by decide, fun z H2 z0 z1 B2 s2 => ?_⟩
      o_args
      refine brD (fun q => ?_) (fun q => ?_)
      · o_args
        refine ⟨b, _, rfl, B2, fun odd H3 _ B3 s3 => ?_⟩
        o_args
        exact ⟨_, rfl, s2.trans s3, B3⟩
      · o_args
        exact ⟨_, rfl, s2, B2⟩
    · rintro σ H3 ⟨odd, rfl, s3, B3⟩
      o_args
      refine ⟨w, bad, odd, rfl, hw, .inl ⟨(hb H3 s3).1, fun H4 s4 => ?_⟩⟩
      have B4 := B3.same s4
      o_args
      refine newList (by simp) fun l H5 nl s5 h5 => ?_
      have B5 := B4.same s5
      o_args
      refine ⟨b, 2, rfl, B5, by decide, by decide, fun d H6 d0 d1 B6 s6 => ?_⟩
      have h6 := s6 _ _ (B5.ne h5) h5
      obtain ⟨u, hu, u1, u2⟩ : ∃ u : Int, [V.int 1, .int 65535][d.toNat]? = some (.int u) ∧ 1 ≤ u ∧ u ≤ 65535 := by
        have : d = 0 ∨ d = 1 := by omega
        rcases this with rfl | rfl
        · exact ⟨1, rfl, by decide, by decide⟩
        · exact ⟨65535, rfl, by decide, by decide⟩
      obtain ⟨j, rfl⟩ : ∃ j : Nat, d = j := ⟨d.toNat, by omega⟩
      o_args
      refine ixL h6 hu ?_
      have A : Ar w u n (.int n) := ⟨hw, u1, u2, fun _ => ⟨rfl, n1, n2⟩⟩
      o_args
      refine A.make fun e H7 ne s7 f7 => ?_
      o_args
      refine A.fresh f7 fun H8 s8 => ?_
      exact k H8 (((s1.trans s3).trans (SameX.of (s4.trans s5))).trans (s6.trans (SameX.of (s7.trans s8))))
def sp__law_pieces (T : Txt K mg) : Sp := fun vs H Q _ => ∃ (u n : Int) (b : Addr), vs = [.int u, .int n, .ref b] ∧ 1 ≤ u ∧ u ≤ 65535 ∧ Bx b H ∧ ∀ H', SameX b H H' → Q (.bl true) H'
theorem ok__law_pieces (T : Txt K mg) : FnOk P w K mg base CX0 9 T.a__law_pieces T.fd__law_pieces ["unit", "pieces", "box"] (sp__law_pieces T) := by
  have S := sc__law_pieces
  refine T.F__law_pieces.ok S (fun vs H Q E h => ?_) (fun cdv A outer s H vs Q E hr h => ?_)
  · obtain ⟨u, n, b, rfl, _⟩ := h
    rfl
  · obtain ⟨u, n, b, rfl, u1, u2, B, k⟩ := h
    refine ⟨_, (pss_cons (ps_set (i := 3) S.nd rfl (Or.inl rfl) (pe_op op_add pe_int (pe_call (ok__law_draw T) (hr.mono (by decide)) rfl T.g__law_draw T.F__law_draw.kp T.B__law_draw .nil pass0 (pa_cons (pv 2) (pa_cons pe_int pa_nil)))))
      (pss_cons (ps_if (pt_cmpR op_ne (pe_call (ok__law_refusal T) (hr.mono (by decide)) rfl T.g__law_refusal T.F__law_refusal.kp T.B__law_refusal .nil pass0 (pa_cons (pv 3) (pa_cons (pv 0) (pa_cons (pe_call (ok__law_bad T) (hr.mono (by decide)) rfl T.g__law_bad T.F__law_bad.kp T.B__law_bad .nil pass0 (pa_cons (pv 2) (pa_cons pe_int pa_nil))) pa_nil)))) pe_str (nomark _)) (pss_one (ps_ret pe_bl)) pss_nil)
      (pss_cons (ps_set (i := 4) S.nd rfl (Or.inl rfl) (pe_ix ix_list (pe_lst (pa_cons pe_int (pa_cons pe_int pa_nil))) (pe_call (ok__law_draw T) (hr.mono (by decide)) rfl T.g__law_draw T.F__law_draw.kp T.B__law_draw .nil pass0 (pa_cons (pv 2) (pa_cons pe_int pa_nil))) (fun _ _ => rfl)))
      (pss_cons (ps_set (i := 5) S.nd rfl (Or.inl rfl) (pe_call (ok__law_make T) (hr.mono (by decide)) rfl T.g__law_make T.F__law_make.kp T.B__law_make .nil passL (pa_cons (pv 3) (pa_cons (pv 0) (pa_cons (pv 4) pa_nil)))))
      (pss_one (ps_ret (pe_and (pe_call (ok__law_fresh T) (hr.mono (by decide)) rfl T.g__law_fresh T.F__law_fresh.kp T.B__law_fresh .nil pass0 (pa_cons (pv 5) (pa_cons (pv 3) (pa_cons (pv 0) (pa_cons (pv 4) pa_nil))))) (pe_one (pe_call (ok__law_fresh T) (hr.mono (by decide)) rfl T.g__law_fresh T.F__law_fresh.kp T.B__law_fresh .nil pass0 (pa_cons (pe_make T.M_Fixed (NF.ok_Fixed_init_ T) (hr.mono (by decide)) rfl T.g_Fixed T.BD_Fixed_init_ T.VD_Fixed_init_ passL (pa_cons (pv 0) pa_nil)) (pa_cons pe_int (pa_cons (pv 0) (pa_cons (pv 1) pa_nil))))))))))))), ?_⟩
    refine st__law_pieces ?_
    o_args
    refine ⟨b, 2, rfl, B, by decide, by decide, fun z H1 z0 z1 B1 s1 => ?_⟩
    obtain ⟨w, hw, h56⟩ : ∃ w : Nat, 5 + z = w ∧ (w = 5 ∨ w = 6) := ⟨(5 + z).toNat, by omega, by omega⟩
    have w11 : w < 11 := by omega
    o_args
    rw [hw]
    refine ⟨b, _, rfl, B1, fun bad H2 hb B2 s2 => ?_⟩
    o_args
    refine ⟨w, _, bad, rfl, w11, .inr ⟨u, rfl, u1, u2, h56, (hb H2 (SameX.of (Same.refl _))).1, fun H3 s3 => ?_⟩⟩
    have B3 := B2.same s3
    o_args
    refine newList (by simp) fun l H5 nl s5 h5 => ?_
    have B5 := B3.same s5
    o_args
    refine ⟨b, 2, rfl, B5, by decide, by decide, fun d H6 d0 d1 B6 s6 => ?_⟩
    have h6 := s6 _ _ (B5.ne h5) h5
    obtain ⟨m, hm, m1, m2⟩ : ∃ m : Int, [V.int 1, .int 64][d.toNat]? = some (.int m) ∧ 1 ≤ m ∧ m ≤ 64 := by
      have : d = 0 ∨ d = 1 := by omega
      rcases this with rfl | rfl
      · exact ⟨1, rfl, by decide, by decide⟩
      · exact ⟨64, rfl, by decide, by decide⟩
    obtain ⟨j, rfl⟩ : ∃ j : Nat, d = j := ⟨d.toNat, by omega⟩
    o_args
    refine ixL h6 hm ?_
    have A : Ar w u m (.int m) := ⟨w11, u1, u2, fun _ => ⟨rfl, m1, m2⟩⟩
    have A1 : Ar 1 u n (.int n) := ⟨by decide, u1, u2, fun z => by omega⟩
    o_args
    refine A.make fun e H7 ne s7 f7 => ?_
    o_args
    refine A.fresh f7 fun H8 s8 => ?_
    o_args
    intro e2 q2 ne2 nq2 nd2
    refine ⟨e2, q2, _, _, rfl, upd_same, .inl ⟨u, rfl, u1, u2, .inl ⟨8, rfl, by decide, by decide, fun H9 s9 c9 => ⟨rfl, ?_⟩⟩⟩⟩
    o_args
    exact A1.fresh (show Fr T (pl 1) (fr u (tm 1 n)) e2 H9 from c9) fun H10 s10 => k H10 (((s1.trans s2).trans (SameX.of (s3.trans s5))).trans (s6.trans (SameX.of ((s7.trans s8).trans ((made_same ne2 nq2 s9).trans s10)))))
def sp__law_kinds (T : Txt K mg) : Sp := fun vs H Q _ => ∃ (u n : Int) (b : Addr), vs = [.int u, .int n, .ref b] ∧ 1 ≤ u ∧ u ≤ 65535 ∧ Bx b H ∧ ∀ H', SameX b H H' → Q (.bl true) H'
theorem ko1 : kindOf 1 = "fixed" := rfl
theorem ko2 : kindOf 2 = "climb" := rfl
theorem ko3 : kindOf 3 = "curve" := rfl
theorem ko4 : kindOf 4 = "delay" := rfl
theorem no_str {H : Hp} {s : Str} (h : inV (.str s) [.str "fixed", .str "climb", .str "curve", .str "delay"] = false) : NoKind K H (.str s) := .inl ⟨s, rfl, h⟩
theorem NoKind.same {H H' : Hp} {x : V} (h : NoKind K H x) (s : Same H H') : NoKind K H' x := h.elim .inl fun ⟨t, h1, h2⟩ => .inr ⟨t, tyX_same h1 s, h2⟩
abbrev KN : List V := [.str "fixed", .str "climb", .str "curve", .str "delay"]
theorem odd_kind {a b c wd : Str} {l t : Addr} (ha : inV (.str a) KN = false) (hb : inV (.str b) KN = false) (hc : inV (.str c) KN = false) {i : Nat} (hi : i < 11) :
    ∃ odd, ([.str "base", .str "", .str "Climb", .str a, .str b, .str c, .non, .int 0, .bl true, .ref l, .ref t] : List V)[i]? = some odd ∧ ∀ H : Hp, H l = some (.lst [.str wd]) → H t = some (.tup [.str wd]) → NoKind K H odd := by
  match i, hi with
  | 0, _ => exact ⟨_, rfl, fun _ _ _ => no_str (by decide +kernel)⟩
  | 1, _ => exact ⟨_, rfl, fun _ _ _ => no_str (by decide +kernel)⟩
  | 2, _ => exact ⟨_, rfl, fun _ _ _ => no_str (by decide +kernel)⟩
  | 3, _ => exact ⟨_, rfl, fun _ _ _ => no_str ha⟩
  | 4, _ => exact ⟨_, rfl, fun _ _ _ => no_str hb⟩
  | 5, _ => exact ⟨_, rfl, fun _ _ _ => no_str hc⟩
  | 6, _ => exact ⟨_, rfl, fun _ _ _ => .inr ⟨_, .base .non, kit_ty (by decide +kernel)⟩⟩
  | 7, _ => exact ⟨_, rfl, fun _ _ _ => .inr ⟨_, .base (.int 0), kit_ty (by decide +kernel)⟩⟩
  | 8, _ => exact ⟨_, rfl, fun _ _ _ => .inr ⟨_, .base (.bl true), kit_ty (by decide +kernel)⟩⟩
  | 9, _ => exact ⟨_, rfl, fun _ h _ => .inr ⟨_, .base (.lst h), kit_ty (by decide +kernel)⟩⟩
  | 10, _ => exact ⟨_, rfl, fun _ _ h => .inr ⟨_, .base (.tup h), kit_ty (by decide +kernel)⟩⟩
theorem at_kind {j : Nat} (hj : j < 4) : KN[j]? = some (.str (kindOf (j + 1))) ∧ eqV (.str (kindOf (j + 1))) (.str (kindOf (j + 1))) = true ∧ (∀ (m : Nat) (z' : V), m < j → KN[m]? = some z' → eqV z' (.str (kindOf (j + 1))) = false) := by
  have c : j = 0 ∨ j = 1 ∨ j = 2 ∨ j = 3 := by omega
  refine ⟨?_, ?_, ?_⟩
  · rcases c with rfl | rfl | rfl | rfl <;> rfl
  · rcases c with rfl | rfl | rfl | rfl <;> decide +kernel
  · intro m z' hm hz
    have : m = 0 ∨ m = 1 ∨ m = 2 := by omega
    rcases c with rfl | rfl | rfl | rfl <;> rcases this with rfl | rfl | rfl <;> first | (exfalso; omega) | (cases hz; decide +kernel)
theorem frw {u n : Int} {p : Nat} (p1 : 1 ≤ p) (p5 : p < 5) : pl (6 + p) = p ∧ fr u (if p = 1 then 8 else 2) = fr u (tm (6 + p) n) := by
  have c : p = 1 ∨ p = 2 ∨ p = 3 ∨ p = 4 := by omega
  rcases c with rfl | rfl | rfl | rfl <;> exact ⟨rfl, rfl⟩
theorem wd_odd {j : Nat} (hj : j < 4) : (kindOf (j + 1)).length ≤ 5 ∧ inV (.str (kindOf (j + 1) ++ " ")) KN = false ∧ inV (.str (kindOf (j + 1) ++ "s")) KN = false ∧ inV (.str (cutS (kindOf (j + 1)) none (some (-1)))) KN = false := by
  have c : j = 0 ∨ j = 1 ∨ j = 2 ∨ j = 3 := by omega
  rcases c with rfl | rfl | rfl | rfl <;> decide +kernel
set_option maxHeartbeats 0 in
theorem ok__law_kinds (T : Txt K mg) : FnOk P w K mg base CX0 8 T.a__law_kinds T.fd__law_kinds ["unit", "pieces", "box"] (sp__law_kinds T) := by
  have S := sc__law_kinds
  refine T.F__law_kinds.ok S (fun vs H Q E h => ?_) (fun cdv A outer s H vs Q E hr h => ?_)
  · obtain ⟨u, n, b, rfl, _⟩ := h
    rfl
  · obtain ⟨u, n, b, rfl, u1, u2, B, k⟩ := h
    refine ⟨_, (pss_cons (ps_set (i := 3) S.nd rfl (Or.inl rfl) (pe_ix ix_list (pe_lst (pa_cons pe_str (pa_cons pe_str (pa_cons pe_str (pa_cons pe_str pa_nil))))) (pe_call (ok__law_draw T) (hr.mono (by decide)) rfl T.g__law_draw T.F__law_draw.kp T.B__law_draw .nil pass0 (pa_cons (pv 2) (pa_cons pe_int pa_nil))) (fun _ _ => rfl)))
      (pss_cons (ps_set (i := 4) S.nd rfl (Or.inl rfl) (pe_lst (pa_cons pe_str (pa_cons pe_str (pa_cons pe_str (pa_cons (pe_op op_add_str (pv 3) pe_str) (pa_cons (pe_slice sl_str (pv 3) po_none (po_some (pe_un un_neg pe_int))) (pa_cons (pe_op op_add_str (pv 3) pe_str) (pa_cons pe_non (pa_cons pe_int (pa_cons pe_bl (pa_cons (pe_lst (pa_cons (pv 3) pa_nil)) (pa_cons (pe_tup (pa_cons (pv 3) pa_nil)) pa_nil)))))))))))))
      (pss_cons (ps_set (i := 5) S.nd rfl (Or.inl rfl) (pe_ix ix_list (pv 4) (pe_call (ok__law_draw T) (hr.mono (by decide)) rfl T.g__law_draw T.F__law_draw.kp T.B__law_draw .nil pass0 (pa_cons (pv 2) (pa_cons pe_int pa_nil))) (fun _ _ => rfl)))
      (pss_cons (ps_set (i := 6) S.nd rfl (Or.inl rfl) (pe_call (ok__law_bad T) (hr.mono (by decide)) rfl T.g__law_bad T.F__law_bad.kp T.B__law_bad .nil pass0 (pa_cons (pv 2) (pa_cons pe_int pa_nil))))
      (pss_cons (ps_if (PW.pt (pw_or (pt_cmpR op_ne (pe_call (ok__law_stranger T) (hr.mono (by decide)) rfl T.g__law_stranger T.F__law_stranger.kp T.B__law_stranger .nil pass0 (pa_cons (pv 5) (pa_cons (pv 0) pa_nil))) pe_str (nomark _)) (pw_or1 (pt_cmpR op_ne (pe_call (ok__law_stranger T) (hr.mono (by decide)) rfl T.g__law_stranger T.F__law_stranger.kp T.B__law_stranger .nil pass0 (pa_cons (pv 5) (pa_cons (pv 6) pa_nil))) pe_str (nomark _))))) (pss_one (ps_ret pe_bl)) pss_nil)
      (pss_cons (ps_if (pt_cmpR op_ne (pe_call (ok__law_stranger T) (hr.mono (by decide)) rfl T.g__law_stranger T.F__law_stranger.kp T.B__law_stranger .nil pass0 (pa_cons (pv 3) (pa_cons (pv 6) pa_nil))) pe_str (nomark _)) (pss_one (ps_ret pe_bl)) pss_nil)
      (pss_cons (ps_set (i := 7) S.nd rfl (Or.inl rfl) (pe_op op_add pe_int (pe_bm PySem.F.plainAttrs_list PySem.F.slot_list_index PySem.F.type_list_index mt_index (pe_lst (pa_cons pe_str (pa_cons pe_str (pa_cons pe_str (pa_cons pe_str pa_nil))))) (pa_cons (pv 3) pa_nil))))
      (pss_one (ps_ret (pe_call (ok__law_fresh T) (hr.mono (by decide)) rfl T.g__law_fresh T.F__law_fresh.kp T.B__law_fresh .nil pass0 (pa_cons (pe_call (ok_control_of T) (hr.mono (by decide)) rfl T.g_control_of T.F_control_of.kp T.B_control_of .nil passL (pa_cons (pv 3) (pa_cons (pv 0) pa_nil))) (pa_cons (pv 7) (pa_cons (pv 0) (pa_cons (pv 1) pa_nil)))))))))))))), ?_⟩
    refine st__law_kinds ?_
    o_args
    refine newList (by simp) fun l H1 nl s1 h1 => ?_
    have B1 := B.same s1
    o_args
    refine ⟨b, 4, rfl, B1, by decide, by decide, fun d H2 d0 d1 B2 s2 => ?_⟩
    have h2 := s2 _ _ (B1.ne h1) h1
    obtain ⟨j, rfl⟩ : ∃ j : Nat, d = j := ⟨d.toNat, by omega⟩
    have hj : j < 4 := by omega
    obtain ⟨kj, ke, km⟩ := at_kind hj
    obtain ⟨wl, w1, w2, w3⟩ := wd_odd hj
    obtain ⟨pw, fw⟩ := frw (u := u) (n := n) (p := j + 1) (by omega) (by omega)
    have S2 := (SameX.of s1).trans s2
    clear s1 s2 h1 B B1 d0 d1 nl
    o_args
    refine ixL h2 kj ?_
    o_args
    refine ⟨_, _, rfl, rfl, Nat.le_trans (show _ ≤ 5 + 1 from Nat.add_le_add wl (Nat.le_refl _)) (by decide), ?_⟩
    o_args
    refine ⟨_, rfl, Nat.le_trans wl (by decide), ?_⟩
    o_args
    refine ⟨_, _, rfl, rfl, Nat.le_trans (show _ ≤ 5 + 1 from Nat.add_le_add wl (Nat.le_refl _)) (by decide), ?_⟩
    o_args
    refine newList (by simp) fun l1 H3 n3 s3 h3 => ?_
    o_args
    refine newTup (by simp) fun t1 H4 n4 s4 h4 => ?_
    o_args
    refine newList (by simp) fun l2 H5 n5 s5 h5 => ?_
    have B5 := ((B2.same s3).same s4).same s5
    have g3 := s5 _ _ (s4 _ _ h3)
    have g4 := s5 _ _ h4
    o_args
    refine ⟨b, 11, rfl, B5, by decide, by decide, fun z H6 z0 z1 B6 s6 => ?_⟩
    have h6 := s6 _ _ (B5.ne h5) h5
    have h36 := s6 _ _ (B5.ne g3) g3
    have h46 := s6 _ _ (B5.ne g4) g4
    have nb1 := B6.ne h36
    have nb2 := B6.ne h46
    obtain ⟨i, rfl⟩ : ∃ i : Nat, z = i := ⟨z.toNat, by omega⟩
    obtain ⟨odd, ho, hN⟩ := odd_kind (K := K) (l := l1) (t := t1) (wd := kindOf (j + 1)) w1 w3 w2 (show i < 11 by omega)
    have hn : ∀ H'', SameX b H6 H'' → NoKind K H'' odd := fun H'' s => hN H'' (s _ _ nb1 h36) (s _ _ nb2 h46)
    o_args
    refine ixL h6 ho ?_
    o_args
    refine ⟨b, _, rfl, B6, fun bad H7 hb B7 s7 => ?_⟩
    o_args
    refine ⟨_, _, rfl, .inr ⟨hn H7 s7, fun H8 s8 => ?_⟩⟩
    o_args
    refine ⟨_, _, rfl, .inr ⟨(hn H7 s7).same s8, fun H9 s9 => ?_⟩⟩
    o_args
    refine ⟨_, _, rfl, .inl ⟨j + 1, rfl, by omega, by omega, ((hb H7 (SameX.of (Same.refl _))).1.same (s8.trans s9)), fun H10 s10 => ?_⟩⟩
    o_args
    refine newList (by simp) fun l3 H11 n11 s11 h11 => ?_
    o_args
    refine ⟨isList h11, ?_⟩
    o_args
    refine ⟨l3, KN, _, j, _, rfl, rfl, SqL.of h11, rfl, by decide +kernel, kj, ke, km, ?_⟩
    o_args
    refine ⟨_, _, rfl, .inl ⟨j + 1, rfl, by omega, by omega, .inl ⟨u, rfl, u1, u2, fun e H12 ne s12 f12 => ?_⟩⟩⟩
    have A : Ar (6 + (j + 1)) u n (.int n) := ⟨by omega, u1, u2, fun z => by omega⟩
    o_args
    rw [show (7 : Int) + (j : Int) = ((6 + (j + 1) : Nat) : Int) by omega]
    refine A.fresh ?_ fun H13 s13 => k H13 ((S2.trans (SameX.of ((s3.trans s4).trans s5))).trans ((s6.trans s7).trans (SameX.of (((((s8.trans s9).trans s10).trans s11).trans s12).trans s13))))
    rw [pw, ← fw]
    exact f12
/-! ### comprehensions, any -/
theorem lcG {K : PySem.W.Frag} {a : Addr} {xs : List V} {te tel : TE} {tt : TT} {σ : L2.St} {H : Hp} {Q : VK} {j : Nat} (P : Addr → Nat → List V → Hp → Prop) (hte : ∀ R' : VK, R' (.ref a) H → te σ H R') (hS : SqL K H a xs) (hz : xs.length < 100000)
    (h0 : ∀ D, H D = none → P D 0 [] (upd H D (.lst []))) (hsq : ∀ D i vs H', H D = none → P D i vs H' → SqL K H' a xs)
    (hs : ∀ D i x vs H', H D = none → xs[i]? = some x → vs.length ≤ i → H' D = some (.lst vs) → P D i vs H' → ∀ (Y : VK) (N : Hp → Prop), (∀ v H3, H3 D = some (.lst vs) → P D (i + 1) (vs ++ [v]) (upd H3 D (.lst (vs ++ [v]))) → Y v H3) → (∀ H3, H3 D = some (.lst vs) → P D (i + 1) vs H3 → N H3) →
      tt ((σ.set j none).set j (some x)) H' fun b H2 => if b = true then tel ((σ.set j none).set j (some x)) H2 Y else N H2)
    (hd : ∀ D vs H', H D = none → H' D = some (.lst vs) → vs.length ≤ xs.length → P D xs.length vs H' → Q (.ref D) H') : tLc (iList K te) (gName j) tt tel [j] σ H Q := by
  refine hte _ ⟨a, rfl, ⟨_, hS⟩, fun D hD => lc_list (K := K) (a := a) (xs := xs) (fun i H' => ∃ vs : List V, vs.length ≤ i ∧ P D i vs H' ∧ H' D = some (.lst vs)) ⟨[], Nat.le_refl _, h0 D hD, upd_same⟩ (fun i H' _ ⟨vs, _, h, _⟩ => hsq D i vs H' hD h) ?_ ?_⟩
  · rintro i x H' hi ⟨vs, hl, hp, h1⟩
    have il := (List.getElem?_eq_some_iff.mp hi).1
    refine ⟨?_, ?_⟩
    · show ((((σ.set j none).set j (some x)).set j none) = σ.set j none)
      rw [List.set_set, List.set_set]
    refine hs D i x vs H' hD hi hl h1 hp _ _ (fun v H3 e p => ⟨vs, e, Nat.lt_of_lt_of_le (show vs.length < 100000 by omega) (by decide), vs ++ [v], ?_, p, upd_same⟩) (fun H3 e p => ⟨vs, by omega, p, e⟩)
    rw [List.length_append]
    exact Nat.succ_le_succ hl
  · rintro H' ⟨vs, hl, hp, h1⟩
    exact hd D vs H' hD h1 hl hp
theorem lcGT {K : PySem.W.Frag} {a : Addr} {xs : List V} {te tel : TE} {tt : TT} {σ : L2.St} {H : Hp} {Q : VK} {j : Nat} (P : Addr → Nat → List V → Hp → Prop) (hte : ∀ R' : VK, R' (.ref a) H → te σ H R') (hS : SqT K H a xs) (hz : xs.length < 100000)
    (h0 : ∀ D, H D = none → P D 0 [] (upd H D (.lst []))) (hsq : ∀ D i vs H', H D = none → P D i vs H' → SqT K H' a xs)
    (hs : ∀ D i x vs H', H D = none → xs[i]? = some x → vs.length ≤ i → H' D = some (.lst vs) → P D i vs H' → ∀ (Y : VK) (N : Hp → Prop), (∀ v H3, H3 D = some (.lst vs) → P D (i + 1) (vs ++ [v]) (upd H3 D (.lst (vs ++ [v]))) → Y v H3) → (∀ H3, H3 D = some (.lst vs) → P D (i + 1) vs H3 → N H3) →
      tt ((σ.set j none).set j (some x)) H' fun b H2 => if b = true then tel ((σ.set j none).set j (some x)) H2 Y else N H2)
    (hd : ∀ D vs H', H D = none → H' D = some (.lst vs) → vs.length ≤ xs.length → P D xs.length vs H' → Q (.ref D) H') : tLc (iTup K te) (gName j) tt tel [j] σ H Q := by
  refine hte _ ⟨a, rfl, ⟨_, hS⟩, fun D hD => lc_tup (K := K) (a := a) (xs := xs) (fun i H' => ∃ vs : List V, vs.length ≤ i ∧ P D i vs H' ∧ H' D = some (.lst vs)) ⟨[], Nat.le_refl _, h0 D hD, upd_same⟩ (fun i H' _ ⟨vs, _, h, _⟩ => hsq D i vs H' hD h) ?_ ?_⟩
  · rintro i x H' hi ⟨vs, hl, hp, h1⟩
    have il := (List.getElem?_eq_some_iff.mp hi).1
    refine ⟨?_, ?_⟩
    · show ((((σ.set j none).set j (some x)).set j none) = σ.set j none)
      rw [List.set_set, List.set_set]
    refine hs D i x vs H' hD hi hl h1 hp _ _ (fun v H3 e p => ⟨vs, e, Nat.lt_of_lt_of_le (show vs.length < 100000 by omega) (by decide), vs ++ [v], ?_, p, upd_same⟩) (fun H3 e p => ⟨vs, by omega, p, e⟩)
    rw [List.length_append]
    exact Nat.succ_le_succ hl
  · rintro H' ⟨vs, hl, hp, h1⟩
    exact hd D vs H' hD h1 hl hp

theorem neD_same {K : PySem.W.Frag} {H : Hp} {Q : VK} {x y : V} {d : PyData} (ha : Dp K H x d) (hb : Dp K H y d) (sh : PySem.SeqAt.shaped d = true) (q : Q (.bl false) H) : rNeD K x y H Q :=
  ⟨d, d, ha, hb, sh, sh, by rw [PySem.SeqAt.eqv_refl _ (PySem.SeqAt.canLay_of_shaped sh)]; exact q⟩
section
variable {T : Txt K mg} {N m f : Int} {p : Nat} {v : Cs} {e : Addr} {H : Hp} {Q : VK} {te : TE} {ta : TA} {σ : L2.St} {E1 E2 E3 E4 E5 : XK} {P : Int → Hp → Prop}
/-- as ack_any, the argument drawn behind the receiver -/
theorem ackT (hp : p < 5) (h : Obj T N p v e H) (G : Good v) (Nm : N ≤ m) (mm : m ≤ 10 ^ 14) (hte : ∀ R : VK, R (.ref e) H → te σ H R) (hta : ∀ R : List V → Hp → Prop, (∀ n H1, 1 ≤ n → n ≤ 65535 → Obj T N p v e H1 → P n H1 → R [.int n, .int f, .int m] H1) → ta σ H R)
    (q : ∀ n H1 H' y, P n H1 → SameX e H1 H' → Ack p v y n f → Obj T m p y e H' → Q .non H') :
    tEi (tMeth T.c_Control "on_ack" (NB.sp_Control_on_ack K T.c_Control T.c_InvalidNumber) [] E1 te ta) (tEi (tMeth T.c_Fixed "on_ack" (NF.sp_Fixed_on_ack K T.c_Fixed T.c_InvalidNumber) [] E2 te ta) (tEi (tMeth T.c_Climb "on_ack" (NC.sp_Climb_on_ack K T.c_Climb T.c_InvalidNumber) [] E3 te ta) (tEi (tMeth T.c_Curve "on_ack" (NV.sp_Curve_on_ack K T.c_Curve T.c_InvalidNumber) [] E4 te ta) (tMeth T.c_Delay "on_ack" (ND.sp_Delay_on_ack K T.c_Delay T.c_InvalidNumber) [] E5 te ta)))) σ H Q := by
  rcases five hp with rfl | rfl | rfl | rfl | rfl
  · obtain ⟨dx, he⟩ := id h
    refine .inl (hte _ ⟨e, dx, _, rfl, he, rfl, hta _ fun n H1 n1 n2 h1 p1 => ?_⟩)
    exact ⟨e, _, _, f, v, rfl, h1, .inl ⟨n, rfl, n1, n2, fun H2 s1 h2 => q n H1 H2 _ p1 s1 (ackedB G n1) h2⟩⟩
  · obtain ⟨dx, he⟩ := id h
    refine .inr (.inl (hte _ ⟨e, dx, _, rfl, he, rfl, hta _ fun n H1 n1 n2 h1 p1 => ?_⟩))
    exact ⟨e, _, _, f, v, rfl, h1, .inl ⟨n, rfl, n1, n2, fun H2 s1 h2 => q n H1 H2 { v with st := false } p1 s1 ⟨rfl, rfl, rfl, G.st false, by show v.w + v.c ≤ v.w + v.c + n; omega, fun _ => ⟨rfl, rfl⟩, fun z => absurd (.inl rfl) z, fun z => absurd (.inl rfl) z⟩ h2⟩⟩
  · obtain ⟨dx, he⟩ := id h
    refine .inr (.inr (.inl (hte _ ⟨e, dx, _, rfl, he, rfl, hta _ fun n H1 n1 n2 h1 p1 => ?_⟩)))
    exact ⟨e, _, _, f, toC v, rfl, h1, .inl ⟨n, rfl, n1, n2, ⟨G.u1, G.w1⟩, fun H2 y s1 a h2 => q n H1 H2 _ p1 s1 (ackedC G n1 a) h2⟩⟩
  · obtain ⟨_, _, _, ⟨dx, he⟩, _⟩ := id h
    refine .inr (.inr (.inr (.inl (hte _ ⟨e, dx, _, rfl, he, rfl, hta _ fun n H1 n1 n2 h1 p1 => ?_⟩))))
    obtain ⟨pk, s, b, hc, s0, s1, hb⟩ := h1
    refine ⟨e, _, _, f, toV v pk s b, rfl, hc, .inl ⟨n, rfl, n1, n2, readyV G s0 s1 hb Nm mm, fun H2 y t1 a h2 => ?_⟩⟩
    obtain ⟨a1, rfl, rfl, rfl⟩ := ackedV G n1 a
    exact q n H1 H2 _ p1 t1 a1 ⟨_, _, _, h2, s0, s1, fun z e => by have := hb z e; omega⟩
  · obtain ⟨_, _, _, ⟨dx, he⟩, _⟩ := id h
    refine .inr (.inr (.inr (.inr (hte _ ⟨e, dx, _, rfl, he, rfl, hta _ fun n H1 n1 n2 h1 p1 => ?_⟩))))
    obtain ⟨l, la, sm, hc, l0, l1, m0, m1⟩ := h1
    refine ⟨e, _, _, f, toD v l la sm, rfl, hc, .inl ⟨n, rfl, n1, n2, ⟨fitD G l0 l1 m0 m1, G.w1⟩, fun H2 y t1 a h2 => ?_⟩⟩
    obtain ⟨a1, rfl, rfl, rfl⟩ := ackedD G l0 m0 n1 a
    exact q n H1 H2 _ p1 t1 a1 ⟨_, _, _, h2, l0, l1, m0, m1⟩
end
theorem kd_fixed {p : Nat} (h : p < 5) : kd p = "fixed" ↔ p = 1 := by
  rcases five h with rfl | rfl | rfl | rfl | rfl
  · exact ⟨fun z => absurd z (by decide +kernel), fun z => by omega⟩
  · exact ⟨fun _ => rfl, fun _ => rfl⟩
  · exact ⟨fun z => absurd z (by decide +kernel), fun z => by omega⟩
  · exact ⟨fun z => absurd z (by decide +kernel), fun z => by omega⟩
  · exact ⟨fun z => absurd z (by decide +kernel), fun z => by omega⟩
def sp__law_counts (T : Txt K mg) : Sp := fun vs H Q _ => ∃ (w : Nat) (u n : Int) (pc : V) (b : Addr), vs = [.int w, .int u, pc, .ref b] ∧ Ar w u n pc ∧ Bx b H ∧ ∀ H', SameX b H H' → Q (.bl true) H'
set_option maxHeartbeats 0 in
theorem ok__law_counts (T : Txt K mg) : FnOk P w K mg base CX0 10 T.a__law_counts T.fd__law_counts ["which", "unit", "pieces", "box"] (sp__law_counts T) := by
  have S := sc__law_counts
  refine T.F__law_counts.ok S (fun vs H Q E h => ?_) (fun cdv A outer s H vs Q E hr h => ?_)
  · obtain ⟨w, u, n, pc, b, rfl, _⟩ := h
    rfl
  · obtain ⟨w, u, n, pc, b, rfl, A, B, k⟩ := h
    have p5 := pl5 w
    have G := A.good
    have u1 := A.u1
    have u2 := A.u2
    obtain ⟨t1, t2⟩ := tm64 (w := w) (n := n) fun z => (A.pc z).2
    refine ⟨_, (pss_cons (ps_set (i := 4) S.nd rfl (Or.inl rfl) (pe_call (ok__law_make T) (hr.mono (by decide)) rfl T.g__law_make T.F__law_make.kp T.B__law_make .nil passL (pa_cons (pv 0) (pa_cons (pv 1) (pa_cons (pv 2) pa_nil)))))
      (pss_cons (ps_set (i := 5) S.nd rfl (Or.inl rfl) (pe_call (ok__law_draw T) (hr.mono (by decide)) rfl T.g__law_draw T.F__law_draw.kp T.B__law_draw .nil pass0 (pa_cons (pv 3) (pa_cons pe_int pa_nil))))
      (pss_cons (ps_set (i := 6) S.nd rfl (Or.inl rfl) (pe_lst (pa_cons (pv 1) (pa_cons (pv 1) (pa_cons (pe_callB (id := "max") (call_max2K rfl) (by rfl) T.b_max (by decide +kernel) (pa_cons (pe_op op_fdiv (pv 5) pe_int) (pa_cons (pe_op op_mul pe_int (pv 1)) pa_nil))) (pa_cons pe_int (pa_cons pe_bl pa_nil)))))))
      (C8.pss_cut (ps_if (pt_cmpR op_eq (pe_call (ok__law_word T) (hr.mono (by decide)) rfl T.g__law_word T.F__law_word.kp T.B__law_word .nil pass0 (pa_cons (pv 0) pa_nil)) pe_str (nomark _)) (pss_one (ps_set (i := 6) S.nd rfl (Or.inl rfl) (pe_lst (pa_cons (pv 1) (pa_cons (pe_op op_mul (pv 1) (pe_call (ok__law_times T) (hr.mono (by decide)) rfl T.g__law_times T.F__law_times.kp T.B__law_times .nil pass0 (pa_cons (pv 0) (pa_cons (pv 2) pa_nil)))) (pa_cons pe_int (pa_cons pe_int (pa_cons pe_bl pa_nil)))))))) pss_nil)
      (pss_cons (ps_if (PW.pt (pw_or (pt_cmpR op_notN (pe_ei (pe_meth (pv 4) T.cl_Control T.m_Control_on_expiry (NB.ok_Control_on_expiry T) (hr.mono (by decide)) T.B_Control_on_expiry .nil pass0 (pa_cons (pv 5) (pa_cons pe_int pa_nil))) (pe_ei (pe_meth (pv 4) T.cl_Fixed T.m_Fixed_on_expiry (NF.ok_Fixed_on_expiry T) (hr.mono (by decide)) T.B_Fixed_on_expiry .nil pass0 (pa_cons (pv 5) (pa_cons pe_int pa_nil))) (pe_ei (pe_meth (pv 4) T.cl_Climb T.m_Climb_on_expiry (NC.ok_Climb_on_expiry T) (hr.mono (by decide)) T.B_Climb_on_expiry .nil passL (pa_cons (pv 5) (pa_cons pe_int pa_nil))) (pe_ei (pe_meth (pv 4) T.cl_Curve T.m_Curve_on_expiry (NV.ok_Curve_on_expiry T) (hr.mono (by decide)) T.B_Curve_on_expiry .nil passL (pa_cons (pv 5) (pa_cons pe_int pa_nil))) (pe_meth (pv 4) T.cl_Delay T.m_Delay_on_expiry (ND.ok_Delay_on_expiry T) (hr.mono (by decide)) T.B_Delay_on_expiry .nil passL (pa_cons (pv 5) (pa_cons pe_int pa_nil))))))) pe_non (nomark _)) (pw_or1 (pt_not (pt_val (pe_call (ok__law_base T) (hr.mono (by decide)) rfl T.g__law_base T.F__law_base.kp T.B__law_base .nil pass0 (pa_cons (pv 4) (pa_cons (pv 6) pa_nil)))))))) (pss_one (ps_ret pe_bl)) pss_nil)
      (pss_cons (ps_for PassesOwn.never rfl (pi_list (pe_lst (pa_cons pe_bl (pa_cons pe_bl pa_nil)))) (pg_name (i := 7) S.nd rfl (Or.inl rfl)) (pss_one (ps_if (PW.pt (pw_or (pt_not (pt_val (pe_call (ok__law_refused T) (hr.mono (by decide)) rfl T.g__law_refused T.F__law_refused.kp T.B__law_refused .nil pass0 (pa_cons (pv 4) (pa_cons (pe_call (ok__law_bad T) (hr.mono (by decide)) rfl T.g__law_bad T.F__law_bad.kp T.B__law_bad .nil pass0 (pa_cons (pv 3) (pa_cons pe_int pa_nil))) (pa_cons (pv 7) (pa_cons pe_int pa_nil))))))) (pw_or1 (pt_not (pt_val (pe_call (ok__law_base T) (hr.mono (by decide)) rfl T.g__law_base T.F__law_base.kp T.B__law_base .nil pass0 (pa_cons (pv 4) (pa_cons (pv 6) pa_nil)))))))) (pss_one (ps_ret pe_bl)) pss_nil)))
      (pss_cons (ps_for PassesOwn.never rfl (pi_list (pe_lst (pa_cons pe_int (pa_cons pe_int pa_nil)))) (pg_name (i := 8) S.nd rfl (Or.inl rfl)) (pss_one (ps_if (PW.pt (pw_or (pt_cmpR op_notN (pe_ei (pe_meth (pv 4) T.cl_Control T.m_Control_grow (NB.ok_Control_grow T) (hr.mono (by decide)) T.B_Control_grow .nil passL (pa_cons (pv 8) (pa_cons pe_int pa_nil))) (pe_ei (pe_meth (pv 4) T.cl_Fixed T.m_Fixed_grow (NF.ok_Fixed_grow T) (hr.mono (by decide)) T.B_Fixed_grow .nil passL (pa_cons (pv 8) (pa_cons pe_int pa_nil))) (pe_ei (pe_meth (pv 4) T.cl_Climb T.m_Climb_grow (NC.ok_Climb_grow T) (hr.mono (by decide)) T.B_Climb_grow .nil passL (pa_cons (pv 8) (pa_cons pe_int pa_nil))) (pe_ei (pe_meth (pv 4) T.cl_Curve T.m_Curve_grow (NV.ok_Curve_grow T) (hr.mono (by decide)) T.B_Curve_grow .nil passL (pa_cons (pv 8) (pa_cons pe_int pa_nil))) (pe_meth (pv 4) T.cl_Delay T.m_Delay_grow (ND.ok_Delay_grow T) (hr.mono (by decide)) T.B_Delay_grow .nil passL (pa_cons (pv 8) (pa_cons pe_int pa_nil))))))) pe_non (nomark _)) (pw_or1 (pt_not (pt_val (pe_call (ok__law_truth T) (hr.mono (by decide)) rfl T.g__law_truth T.F__law_truth.kp T.B__law_truth .nil pass0 (pa_cons (pe_fld (pv 4) rfl) (pa_cons pe_bl pa_nil)))))))) (pss_one (ps_ret pe_bl)) pss_nil)))
      (pss_one (ps_ret (pe_and (pe_cmpR op_isN (pe_ei (pe_meth (pv 4) T.cl_Control T.m_Control_on_ack (NB.ok_Control_on_ack T) (hr.mono (by decide)) T.B_Control_on_ack .nil passL (pa_cons (pe_ix ix_list (pe_lst (pa_cons pe_int (pa_cons pe_int pa_nil))) (pe_call (ok__law_draw T) (hr.mono (by decide)) rfl T.g__law_draw T.F__law_draw.kp T.B__law_draw .nil pass0 (pa_cons (pv 3) (pa_cons pe_int pa_nil))) (fun _ _ => rfl)) (pa_cons pe_int (pa_cons pe_int pa_nil)))) (pe_ei (pe_meth (pv 4) T.cl_Fixed T.m_Fixed_on_ack (NF.ok_Fixed_on_ack T) (hr.mono (by decide)) T.B_Fixed_on_ack .nil passL (pa_cons (pe_ix ix_list (pe_lst (pa_cons pe_int (pa_cons pe_int pa_nil))) (pe_call (ok__law_draw T) (hr.mono (by decide)) rfl T.g__law_draw T.F__law_draw.kp T.B__law_draw .nil pass0 (pa_cons (pv 3) (pa_cons pe_int pa_nil))) (fun _ _ => rfl)) (pa_cons pe_int (pa_cons pe_int pa_nil)))) (pe_ei (pe_meth (pv 4) T.cl_Climb T.m_Climb_on_ack (NC.ok_Climb_on_ack T) (hr.mono (by decide)) T.B_Climb_on_ack .nil passL (pa_cons (pe_ix ix_list (pe_lst (pa_cons pe_int (pa_cons pe_int pa_nil))) (pe_call (ok__law_draw T) (hr.mono (by decide)) rfl T.g__law_draw T.F__law_draw.kp T.B__law_draw .nil pass0 (pa_cons (pv 3) (pa_cons pe_int pa_nil))) (fun _ _ => rfl)) (pa_cons pe_int (pa_cons pe_int pa_nil)))) (pe_ei (pe_meth (pv 4) T.cl_Curve T.m_Curve_on_ack (NV.ok_Curve_on_ack T) (hr.mono (by decide)) T.B_Curve_on_ack .nil passL (pa_cons (pe_ix ix_list (pe_lst (pa_cons pe_int (pa_cons pe_int pa_nil))) (pe_call (ok__law_draw T) (hr.mono (by decide)) rfl T.g__law_draw T.F__law_draw.kp T.B__law_draw .nil pass0 (pa_cons (pv 3) (pa_cons pe_int pa_nil))) (fun _ _ => rfl)) (pa_cons pe_int (pa_cons pe_int pa_nil)))) (pe_meth (pv 4) T.cl_Delay T.m_Delay_on_ack (ND.ok_Delay_on_ack T) (hr.mono (by decide)) T.B_Delay_on_ack .nil passL (pa_cons (pe_ix ix_list (pe_lst (pa_cons pe_int (pa_cons pe_int pa_nil))) (pe_call (ok__law_draw T) (hr.mono (by decide)) rfl T.g__law_draw T.F__law_draw.kp T.B__law_draw .nil pass0 (pa_cons (pv 3) (pa_cons pe_int pa_nil))) (fun _ _ => rfl)) (pa_cons pe_int (pa_cons pe_int pa_nil)))))))) pe_non (nomark _)) (pe_one (pe_call (ok__law_truth T) (hr.mono (by decide)) rfl T.g__law_truth T.F__law_truth.kp T.B__law_truth .nil pass0 (pa_cons (pe_fld (pv 4) rfl) (pa_cons pe_bl pa_nil)))))))))))))), ?_⟩
    refine st__law_counts ?_
    o_args
    refine A.make fun e H1 n1 s1 f1 => ?_
    have o1 := f1.obj p5
    have B1 := B.same s1
    have be := obj_ins p5 o1 B1
    o_args
    refine ⟨b, 100, rfl, B1, by decide, by decide, fun ld H2 l1 l2 B2 s2 => ?_⟩
    have o2 := o1.on p5 s2 be
    have S2 := (SameX.of s1).trans s2
    clear s1 s2 B B1 o1 f1
    o_args
    refine newList (by simp) fun st H3 n3 s3 h3 => ?_
    have o3 := o2.off p5 (l := []) (Off.of s3) (by simp)
    have B3 := B2.same s3
    have o3e : ∃ o, H3 e = some o := by
      obtain ⟨C, dx, tl, g, _⟩ := (o3.seen p5).at_
      exact ⟨_, g⟩
    o_args
    have ey : ∀ y : Cs, y = expV (pl w) (fr u (tm w n)) ld → y.u = u ∧ (pl w = 1 → y.w = u * tm w n ∧ y.t = 4194304 ∧ y.c = 0) ∧ (pl w ≠ 1 → y.w = u ∧ y.t = max (ld / 2) (2 * u) ∧ y.c = 0) ∧ y.st = true := by
      rintro y rfl
      unfold expV
      split
      · rename_i q
        exact ⟨rfl, fun _ => ⟨rfl, rfl, rfl⟩, fun z => absurd q z, rfl⟩
      · rename_i q
        exact ⟨rfl, fun z => absurd z q, fun _ => ⟨rfl, rfl, rfl⟩, rfl⟩
    have Gy := expV_good (p := pl w) (f := ld) G
    refine ⟨fun σ H' => ∃ r, σ = [some (.int w), some (.int u), some pc, some (.ref b), some (.ref e), some (.int ld), some (.ref r), none, none] ∧ Same H3 H' ∧ ∀ y : Cs, y = expV (pl w) (fr u (tm w n)) ld → H' r = some (.lst [.int y.u, .int y.w, .int y.t, .int y.c, .bl y.st]), ?_, ?_⟩
    · o_args
      refine ⟨w, rfl, A.w11, fun H4 s4 => ?_⟩
      o_args
      refine brD (fun q => ?_) (fun q => ?_)
      · have q1 := (kd_fixed p5).mp q
        o_args
        refine ⟨w, n, pc, rfl, fun z => (A.pc z).1, ?_⟩
        o_args
        refine x_mulR ⟨by omega, by omega⟩ ?_
        o_args
        refine newList (by simp) fun l H5 nl s5 h5 => ?_
        o_args
        refine ⟨l, rfl, s4.trans s5, fun y hy => ?_⟩
        obtain ⟨e1, e2, _, e5⟩ := ey y hy
        obtain ⟨e2, e3, e4⟩ := e2 q1
        rw [e1, e2, e3, e4, e5]
        exact h5
      · have q1 : pl w ≠ 1 := fun z => q ((kd_fixed p5).mpr z)
        o_args
        refine ⟨st, rfl, s4, fun y hy => ?_⟩
        obtain ⟨e1, _, e2, e5⟩ := ey y hy
        obtain ⟨e2, e3, e4⟩ := e2 q1
        rw [e1, e2, e3, e4, e5]
        exact s4 _ _ h3
    rintro σ H4 ⟨r, rfl, s4, h4⟩
    have h4 := h4 _ rfl
    have o4 := o3.off p5 (l := []) (Off.of s4) (by simp)
    have B4 := B3.same s4
    have er := o4.ne p5 h4
    have rb : r ≠ b := B4.ne h4
    have S4 := S2.trans (SameX.of (s3.trans s4))
    clear ey o2 o3 o3e h3 n3 s3 s4 B2 B3 S2
    o_args
    refine expiry_any (m := 7) p5 o4 G l1 (by decide) (fun R h => ⟨_, rfl, h⟩) (fun R h => by o_args; exact h) fun H5 s5 o5 _ => ?_
    have h5 := s5 _ _ er.symm h4
    have B5 := B4.on s5 be.symm
    have ys : (expV (pl w) (fr u (tm w n)) ld).st = true := expV_st
    generalize expV (pl w) (fr u (tm w n)) ld = y at o5 h5 Gy ys h4
    have S5 := S4.fresh n1 s5
    clear o4 h4 B4 s5 S4
    o_args
    refine ⟨e, r, pl w, y, 7, rfl, p5, o5, h5, ?_⟩
    o_args
    refine newList (by simp) fun L H6 nL s6 h6 => ?_
    have o6 := o5.off p5 (l := []) (Off.of s6) (by simp)
    have r6 := s6 _ _ h5
    have B6 := B5.same s6
    have S6 := S5.trans (SameX.of s6)
    clear o5 h5 B5 s6 S5
    o_args
    refine overL (SqL.of h6) (for_list (K := K) (a := L) (xs := [.bl false, .bl true]) (fun i σ H' => ∃ v, σ = [some (.int w), some (.int u), some pc, some (.ref b), some (.ref e), some (.int ld), some (.ref r), v, none] ∧ Obj T 7 (pl w) y e H' ∧ H' r = some (.lst [.int y.u, .int y.w, .int y.t, .int y.c, .bl y.st]) ∧ Bx b H' ∧ H' L = some (.lst [.bl false, .bl true]) ∧ SameX b H H') ⟨none, rfl, o6, r6, B6, h6, S6⟩ (fun i σ H' _ ⟨_, _, _, _, _, h, _⟩ => SqL.of h) ?_ ?_)
    · rintro i x σ H7 hx ⟨v, rfl, o7, r7, B7, h7, S7⟩
      obtain ⟨g, rfl⟩ : ∃ g, x = .bl g := by
        have hi := getq_lt hx
        match i, hi with
        | 0, _ => cases hx; exact ⟨_, rfl⟩
        | 1, _ => cases hx; exact ⟨_, rfl⟩
      o_args
      refine ⟨b, _, rfl, B7, fun bad H8 hb B8 s8 => ?_⟩
      have o8 := o7.on p5 s8 be
      o_args
      refine ⟨e, bad, g, 7, pl w, y, 7, rfl, p5, o8, hb H8 (SameX.of (Same.refl _)), fun H9 s9 => ?_⟩
      have S9 := (S7.trans s8).trans (SameX.of s9)
      have o9 := o8.off p5 (l := []) (Off.of s9) (by simp)
      have r9 := s9 _ _ (s8 _ _ rb r7)
      o_args
      refine ⟨e, r, pl w, y, 7, rfl, p5, o9, r9, ?_⟩
      o_args
      exact ⟨_, rfl, o9, r9, B8.same s9, s9 _ _ (s8 _ _ (B7.ne h7) h7), S9⟩
    rintro σ H7 ⟨v, rfl, o7, r7, B7, h7, S7⟩
    clear o6 r6 B6 h6 nL S6
    o_args
    refine newList (by simp) fun M H8 nM s8 h8 => ?_
    have o8 := o7.off p5 (l := []) (Off.of s8) (by simp)
    have B8 := B7.same s8
    have eM : e ≠ M := fun z => by
      obtain ⟨C, dx, tl, g, _⟩ := (o7.seen p5).at_
      rw [z, nM] at g
      cases g
    have S8 := S7.trans (SameX.of s8)
    clear o7 r7 B7 h7 s8 h4 er rb S7
    o_args
    refine overL (SqL.of h8) (for_list (K := K) (a := M) (xs := [.int 1, .int 65535]) (fun i σ H' => ∃ v' y', σ = [some (.int w), some (.int u), some pc, some (.ref b), some (.ref e), some (.int ld), some (.ref r), v, v'] ∧ (∃ N, N ≤ 8 ∧ Obj T N (pl w) y' e H') ∧ Good y' ∧ y'.st = true ∧ Bx b H' ∧ H' M = some (.lst [.int 1, .int 65535]) ∧ SameX b H H') ⟨none, y, rfl, ⟨7, by decide, o8⟩, Gy, ys, B8, h8, S8⟩ (fun i σ H' _ ⟨_, _, _, _, _, _, _, h, _⟩ => SqL.of h) ?_ ?_)
    · rintro i x σ H9 hx ⟨v', y', rfl, ⟨N, N8, o9⟩, Gy', ys', B9, h9, S9⟩
      obtain ⟨g, rfl, g1, g2⟩ : ∃ g, x = .int g ∧ 1 ≤ g ∧ g ≤ 65535 := by
        have hi := getq_lt hx
        match i, hi with
        | 0, _ => cases hx; exact ⟨_, rfl, by decide, by decide⟩
        | 1, _ => cases hx; exact ⟨_, rfl, by decide, by decide⟩
      o_args
      refine grow_any (m := 8) p5 o9 Gy' g1 g2 N8 (by decide) (fun R h => ⟨_, rfl, h⟩) (fun R h => by o_args; exact h) fun H10 y2 s10 a ast o10 => ?_
      obtain ⟨C, dx, tl, he, cl, _, _, _, _, n5⟩ := (o10.seen p5).at_
      rw [ast, ys'] at he
      o_args
      refine fget he cl n5 rfl ?_
      o_args
      refine ⟨_, _, rfl, ?_⟩
      rw [decide_eq_true rfl]
      o_args
      exact ⟨_, y2, rfl, ⟨8, by decide, o10⟩, a.g, ast.trans ys', B9.on s10 be.symm, s10 _ _ eM.symm h9, S9.fresh n1 s10⟩
    rintro σ H9 ⟨v', y', rfl, ⟨N, N8, o9⟩, Gy', ys', B9, h9, S9⟩
    o_args
    refine ackT (m := 8) (f := 5) (P := fun n H1 => SameX b H9 H1) p5 o9 Gy' N8 (by decide) (fun R h => ⟨_, rfl, h⟩) (fun R h => ?_) (fun n2 H10 H11 y2 s10 s11 a o11 => ?_)
    · o_args
      refine newList (by simp) fun l H10 nl s10 h10 => ?_
      have B10 := B9.same s10
      o_args
      refine ⟨b, 2, rfl, B10, by decide, by decide, fun d H11 d0 d1 B11 s11 => ?_⟩
      have h11 := s11 _ _ (B10.ne h10) h10
      obtain ⟨j, rfl⟩ : ∃ j : Nat, d = j := ⟨d.toNat, by omega⟩
      obtain ⟨c, hc, c1, c2⟩ : ∃ c : Int, [V.int 1, .int 65535][j]? = some (.int c) ∧ 1 ≤ c ∧ c ≤ 65535 := by
        have : j = 0 ∨ j = 1 := by omega
        rcases this with rfl | rfl
        · exact ⟨1, rfl, by decide, by decide⟩
        · exact ⟨65535, rfl, by decide, by decide⟩
      o_args
      refine ixL h11 hc ?_
      o_args
      exact h c H11 c1 c2 ((o9.off p5 (l := []) (Off.of s10) (by simp)).on p5 s11 be) ((SameX.of s10).trans s11)
    · obtain ⟨C, dx, tl, he, cl, _, _, _, _, n5⟩ := (o11.seen p5).at_
      rw [a.st] at he
      o_args
      refine fget he cl n5 rfl ?_
      o_args
      refine ⟨_, _, rfl, ?_⟩
      rw [decide_eq_true rfl]
      exact k H11 ((S9.trans s10).fresh n1 s11)
/-! ### names -/
theorem tyT {H : Hp} {a : Addr} {xs : List V} (h : SqT K H a xs) : TyX K H (.ref a) (.type "tuple") := by
  rcases h with (h | ⟨o, h⟩) | ⟨o, its, n, h, c, _⟩
  · exact .base (.tup h)
  · exact .fTuple h
  · exact .kTuple h c
def sp__law_names : Sp := fun vs H Q _ => vs = [] ∧ ∀ H', Same H H' → Q (.bl true) H'
theorem ok__law_names (T : Txt K mg) : FnOk P w K mg base CX0 2 T.a__law_names T.fd__law_names [] (sp__law_names) := by
  have S := sc__law_names
  refine T.F__law_names.ok S (fun vs H Q E h => ?_) (fun cdv A outer s H vs Q E hr h => ?_)
  · obtain ⟨rfl, _⟩ := h
    rfl
  · obtain ⟨rfl, k⟩ := h
    refine ⟨_, (pss_cons (ps_if (PW.pt (pw_or (pt_not (pt_val (pe_callB (id := "isinstance") call_isi (by rfl) T.b_isinstance (by decide +kernel) (pa_cons (pe_glob (v := .ref T.t_KINDS) rfl T.g_KINDS rfl) (pa_cons (pe_bltn (v := .ty "tuple") (u := .type "tuple") (by rfl) T.b_tuple (by decide +kernel) rfl) pa_nil))))) (pw_or1 (pt_cmpR op_ne (pe_callB (id := "len") (call_lenK (K := K) rfl) (by rfl) T.b_len (by decide +kernel) (pa_cons (pe_glob (v := .ref T.t_KINDS) rfl T.g_KINDS rfl) pa_nil)) pe_int (nomark _))))) (pss_one (ps_ret pe_bl)) pss_nil)
      (pss_cons (ps_if (PW.pt (pw_or (pt_cmpR op_in_seq pe_bl (pe_lc (own := [("word", 0)]) (g := gName 0) (tt := tYes) rfl S.nd (pi_tup (pe_glob (v := .ref T.t_KINDS) rfl T.g_KINDS rfl)) (blkOk_by (N := ["word"]) (sc := defScope s__law_names) (by decide +kernel)) (fun _ _ _ _ _ => pg_name (i := 0) S.nd rfl (Or.inl rfl)) (fun _ _ _ _ _ => pts_nil) (fun _ _ _ _ _ => (pe_callB (id := "isinstance") (show CallR _ (.builtin "isinstance") (rIsi K) from call_isi) (by rfl) T.b_isinstance (by decide +kernel) (pa_cons (pv 0) (pa_cons (pe_bltn (v := .ty "str") (u := .type "str") (by rfl) T.b_str (by decide +kernel) rfl) pa_nil))))) rfl) (pw_or1 (pt_cmpR (op_neD hr.units) (pe_callTy (T := "list") (call_listK (K := K) rfl) (by rfl) T.b_list (by decide +kernel) (pa_cons (pe_glob (v := .ref T.t_KINDS) rfl T.g_KINDS rfl) pa_nil)) (pe_lst (pa_cons pe_str (pa_cons pe_str (pa_cons pe_str (pa_cons pe_str pa_nil))))) (nomark _))))) (pss_one (ps_ret pe_bl)) pss_nil)
      (pss_cons (ps_if (PW.pt (pw_or (pt_cmpR op_ne (ClX.pe_cval (pe_glob (v := .ref T.c_Control) rfl T.g_Control rfl)) pe_str (nomark _)) (pw_or (pt_cmpR op_ne (ClX.pe_cval (pe_glob (v := .ref T.c_Fixed) rfl T.g_Fixed rfl)) pe_str (nomark _)) (pw_or1 (pt_cmpR op_ne (ClX.pe_cval (pe_glob (v := .ref T.c_Climb) rfl T.g_Climb rfl)) pe_str (nomark _)))))) (pss_one (ps_ret pe_bl)) pss_nil)
      (pss_one (ps_ret (pe_and (pe_cmpR op_eq (ClX.pe_cval (pe_glob (v := .ref T.c_Curve) rfl T.g_Curve rfl)) pe_str (nomark _)) (pe_and (pe_cmpR op_eq (ClX.pe_cval (pe_glob (v := .ref T.c_Delay) rfl T.g_Delay rfl)) pe_str (nomark _)) (pe_one (pe_call (ok__law_whole T) (hr.mono (by decide)) rfl T.g__law_whole T.F__law_whole.kp T.B__law_whole .nil pass0 (pa_cons (ClX.pe_cval (pe_glob (v := .ref T.c_Control) rfl T.g_Control rfl)) (pa_cons pe_int pa_nil))))))))))), ?_⟩
    refine st__law_names ?_
    o_args
    refine ⟨_, _, _, _, true, rfl, .ty _, tyT (T.T_KINDS _), kit_ty (by decide +kernel), ?_⟩
    o_args
    refine lenA (.inr (T.T_KINDS _)) ?_
    o_args
    refine lcGT (xs := KN) (fun D i vs H' => vs = List.replicate i (.bl true) ∧ SameX D H H') (fun R h => h) (T.T_KINDS _) (by decide) (fun D _ => ⟨rfl, SameX.upd⟩) (fun D i vs H' _ _ => T.T_KINDS _) (fun D i x vs H' hD hx hl h1 hP Y N hY hN => ?_) (fun D vs H' hD h1 hl hP => ?_)
    · obtain ⟨e, s⟩ := hP
      obtain ⟨z, rfl⟩ : ∃ z, x = .str z := by
        have hi := getq_lt hx
        match i, hi with
        | 0, _ => cases hx; exact ⟨_, rfl⟩
        | 1, _ => cases hx; exact ⟨_, rfl⟩
        | 2, _ => cases hx; exact ⟨_, rfl⟩
        | 3, _ => cases hx; exact ⟨_, rfl⟩
      dsimp only [tYes]
      o_args
      refine ⟨_, _, _, _, true, rfl, .ty _, .base (.str _), kit_ty (by decide +kernel), ?_⟩
      exact hY _ _ h1 ⟨by rw [e, List.replicate_succ'], s.upd'⟩
    · obtain ⟨e, s⟩ := hP
      have e : vs = [.bl true, .bl true, .bl true, .bl true] := e
      subst e
      have S := Same.ofX hD s
      refine ⟨_, _, rfl, .inl (SqL.of h1), rfl, by decide +kernel, ?_⟩
      rw [if_neg Bool.false_ne_true, show inV (.bl false) [.bl true, .bl true, .bl true, .bl true] = false by decide +kernel]
      o_args
      refine listOf (.inr (T.T_KINDS _)) fun l H2 nl s2 h2 => ?_
      o_args
      refine newList (by simp) fun l' H3 nl' s3 h3 => ?_
      o_args
      refine neD_same (d := .list [.str "fixed", .str "climb", .str "curve", .str "delay"]) (.lst (SqL.of (s3 _ _ h2)) (.cons (.str _) (.cons (.str _) (.cons (.str _) (.cons (.str _) .nil))))) (.lst (SqL.of h3) (.cons (.str _) (.cons (.str _) (.cons (.str _) (.cons (.str _) .nil))))) (by decide +kernel) ?_
      o_args
      refine NB.cval T.R_Control T.V_Control_KIND ?_
      o_args
      refine NB.cval T.R_Fixed T.V_Fixed_KIND ?_
      o_args
      refine NB.cval T.R_Climb T.V_Climb_KIND ?_
      o_args
      refine NB.cval T.R_Curve T.V_Curve_KIND ?_
      o_args
      refine NB.cval T.R_Delay T.V_Delay_KIND ?_
      o_args
      refine NB.cval T.R_Control T.V_Control_GREATEST ?_
      o_args
      exact ⟨_, _, rfl, k _ ((S.trans s2).trans s3)⟩

/-! ### the law -/
theorem Same.ofX2' {H H1 H2 H3 : Hp} {l : Addr} (s1 : Same H H1) (hl : H1 l = none) (s2 : Same H1 H2) (s3 : SameX l H2 H3) : Same H H3 := fun b o e => s3 b o (ne_of_none (s1 b o e) hl) (s2 b o (s1 b o e))
def sp__law_question (T : Txt K mg) : Sp := fun vs H Q _ => ∃ (b : Addr), vs = [.ref b] ∧ Bx b H ∧ ∀ H', SameX b H H' → Q (.bl true) H'
theorem ok__law_question (T : Txt K mg) : FnOk P w K mg base CX0 11 T.a__law_question T.fd__law_question ["box"] (sp__law_question T) := by
  have S := sc__law_question
  refine T.F__law_question.ok S (fun vs H Q E h => ?_) (fun cdv A outer s H vs Q E hr h => ?_)
  · obtain ⟨b, rfl, _⟩ := h
    rfl
  · obtain ⟨b, rfl, B, k⟩ := h
    refine ⟨_, (pss_cons (ps_set (i := 1) S.nd rfl (Or.inl rfl) (pe_call (ok__law_draw T) (hr.mono (by decide)) rfl T.g__law_draw T.F__law_draw.kp T.B__law_draw .nil pass0 (pa_cons (pv 0) (pa_cons pe_int pa_nil))))
      (pss_cons (ps_set (i := 2) S.nd rfl (Or.inl rfl) (pe_call (ok__law_draw T) (hr.mono (by decide)) rfl T.g__law_draw T.F__law_draw.kp T.B__law_draw .nil pass0 (pa_cons (pv 0) (pa_cons pe_int pa_nil))))
      (pss_cons (ps_set (i := 3) S.nd rfl (Or.inl rfl) (pe_call (ok__law_unit T) (hr.mono (by decide)) rfl T.g__law_unit T.F__law_unit.kp T.B__law_unit .nil pass0 (pa_cons (pv 0) pa_nil)))
      (pss_cons (ps_set (i := 4) S.nd rfl (Or.inl rfl) (pe_op op_add pe_int (pe_call (ok__law_draw T) (hr.mono (by decide)) rfl T.g__law_draw T.F__law_draw.kp T.B__law_draw .nil pass0 (pa_cons (pv 0) (pa_cons pe_int pa_nil)))))
      (pss_cons (ps_if (pt_not (pt_val (pe_call (ok__law_fresh T) (hr.mono (by decide)) rfl T.g__law_fresh T.F__law_fresh.kp T.B__law_fresh .nil pass0 (pa_cons (pe_call (ok__law_make T) (hr.mono (by decide)) rfl T.g__law_make T.F__law_make.kp T.B__law_make .nil passL (pa_cons (pv 1) (pa_cons (pv 3) (pa_cons (pv 4) pa_nil)))) (pa_cons (pv 1) (pa_cons (pv 3) (pa_cons (pv 4) pa_nil))))))) (pss_one (ps_ret pe_bl)) pss_nil)
      (pss_cons (ps_if (pt_cmpR op_eq (pv 2) pe_int (nomark _)) (pss_one (ps_ret (pe_call (ok__law_apart T) (hr.mono (by decide)) rfl T.g__law_apart T.F__law_apart.kp T.B__law_apart .nil pass0 (pa_cons (pv 1) (pa_cons (pv 3) (pa_cons (pv 4) (pa_cons (pv 0) pa_nil))))))) pss_nil)
      (pss_cons (ps_if (pt_cmpR op_eq (pv 2) pe_int (nomark _)) (pss_one (ps_ret (pe_call (ok__law_units T) (hr.mono (by decide)) rfl T.g__law_units T.F__law_units.kp T.B__law_units .nil pass0 (pa_cons (pv 1) (pa_cons (pv 4) (pa_cons (pv 0) pa_nil)))))) pss_nil)
      (pss_cons (ps_if (pt_cmpR op_eq (pv 2) pe_int (nomark _)) (pss_one (ps_ret (pe_call (ok__law_pieces T) (hr.mono (by decide)) rfl T.g__law_pieces T.F__law_pieces.kp T.B__law_pieces .nil pass0 (pa_cons (pv 3) (pa_cons (pv 4) (pa_cons (pv 0) pa_nil)))))) pss_nil)
      (pss_cons (ps_if (pt_cmpR op_eq (pv 2) pe_int (nomark _)) (pss_one (ps_ret (pe_call (ok__law_kinds T) (hr.mono (by decide)) rfl T.g__law_kinds T.F__law_kinds.kp T.B__law_kinds .nil pass0 (pa_cons (pv 3) (pa_cons (pv 4) (pa_cons (pv 0) pa_nil)))))) pss_nil)
      (pss_one (ps_ret (pe_call (ok__law_counts T) (hr.mono (by decide)) rfl T.g__law_counts T.F__law_counts.kp T.B__law_counts .nil pass0 (pa_cons (pv 1) (pa_cons (pv 3) (pa_cons (pv 4) (pa_cons (pv 0) pa_nil)))))))))))))))), ?_⟩
    refine st__law_question ?_
    o_args
    refine ⟨b, 11, rfl, B, by decide, by decide, fun z H1 z0 z1 B1 s1 => ?_⟩
    obtain ⟨w, rfl⟩ : ∃ w : Nat, z = w := ⟨z.toNat, by omega⟩
    o_args
    refine ⟨b, 5, rfl, B1, by decide, by decide, fun c H2 c0 c1 B2 s2 => ?_⟩
    o_args
    refine ⟨b, rfl, B2, fun u H3 u1 u2 B3 s3 => ?_⟩
    o_args
    refine ⟨b, 64, rfl, B3, by decide, by decide, fun d H4 d0 d1 B4 s4 => ?_⟩
    have A : Ar w u (1 + d) (.int (1 + d)) := ⟨by omega, u1, u2, fun _ => ⟨rfl, by omega, by omega⟩⟩
    o_args
    refine A.make fun e H5 ne s5 f5 => ?_
    have B5 := B4.same s5
    o_args
    refine A.fresh f5 fun H6 s6 => ?_
    have B6 := B5.same s6
    have S6 : SameX b H H6 := (((s1.trans s2).trans s3).trans s4).trans (SameX.of (s5.trans s6))
    o_args
    refine brD (fun q => ?_) (fun q => ?_)
    · o_args
      exact ⟨w, u, 1 + d, _, b, rfl, A, B6, fun H' s' => k H' (S6.trans s')⟩
    o_args
    refine brD (fun q => ?_) (fun q => ?_)
    · o_args
      exact ⟨w, 1 + d, b, rfl, A.w11, by omega, by omega, B6, fun H' s' => k H' (S6.trans s')⟩
    o_args
    refine brD (fun q => ?_) (fun q => ?_)
    · o_args
      exact ⟨u, 1 + d, b, rfl, u1, u2, B6, fun H' s' => k H' (S6.trans s')⟩
    o_args
    refine brD (fun q => ?_) (fun q => ?_)
    · o_args
      exact ⟨u, 1 + d, b, rfl, u1, u2, B6, fun H' s' => k H' (S6.trans s')⟩
    o_args
    exact ⟨w, u, 1 + d, _, b, rfl, A, B6, fun H' s' => k H' (S6.trans s')⟩
def sp_law (K : PySem.W.Frag) : Sp := fun vs H Q _ => ∃ (a : Addr) (ns : List Int), vs = [.ref a] ∧ SqL K H a (ns.map V.int) ∧ ns.length ≤ 63 ∧ ∀ H', Q (.bl true) H'
theorem ok_law (T : Txt K mg) : FnOk P w K mg base CX0 12 T.a_law T.fd_law ["script"] (sp_law K) := by
  have S := sc_law
  refine T.F_law.ok S (fun vs H Q E h => ?_) (fun cdv A outer s H vs Q E hr h => ?_)
  · obtain ⟨a, ns, rfl, _⟩ := h
    rfl
  · obtain ⟨a, ns, rfl, hS, hl, k⟩ := h
    refine ⟨_, (pss_cons (ps_if (pt_not (pt_val (pe_call0 (ok__law_names T) (hr.mono (by decide)) rfl T.g__law_names T.F__law_names.kp T.B__law_names .nil pass0))) (pss_one (ps_ret pe_bl)) pss_nil)
      (pss_cons (ps_for PassesOwn.never rfl (pi_range1 (by rfl) T.b_range (pa_cons (pe_call (ok__law_rounds T) (hr.mono (by decide)) rfl T.g__law_rounds T.F__law_rounds.kp T.B__law_rounds .nil pass0 (pa_cons (pv 0) pa_nil)) pa_nil)) (pg_name (i := 1) S.nd rfl (Or.inl rfl)) (pss_one (ps_if (pt_not (pt_val (pe_call (ok__law_question T) (hr.mono (by decide)) rfl T.g__law_question T.F__law_question.kp T.B__law_question .nil pass0 (pa_cons (pe_call (ok__law_box T) (hr.mono (by decide)) rfl T.g__law_box T.F__law_box.kp T.B__law_box .nil pass0 (pa_cons (pe_call (ok__law_cell T) (hr.mono (by decide)) rfl T.g__law_cell T.F__law_cell.kp T.B__law_cell .nil pass0 (pa_cons (pv 0) (pa_cons (pv 1) pa_nil))) pa_nil)) pa_nil)))) (pss_one (ps_ret pe_bl)) pss_nil)))
      (pss_one (ps_ret (pe_call0 (ok__law_names T) (hr.mono (by decide)) rfl T.g__law_names T.F__law_names.kp T.B__law_names .nil pass0))))), ?_⟩
    refine st_law ?_
    o_args
    refine ⟨rfl, fun H1 s1 => ?_⟩
    o_args
    refine ⟨a, _, rfl, s1.seq hS, fun n n1 n2 => ?_⟩
    o_args
    refine rngF (n := n) (by omega) (by omega) (for_range (lo := 0) (n := n.toNat) (fun i σ H' => ∃ v, σ = [some (.ref a), v] ∧ Same H H') ⟨none, rfl, s1⟩ ?_ ?_)
    · rintro i σ H2 hi ⟨v, rfl, s2⟩
      o_args
      refine ⟨a, ns, 0 + (i : Int), rfl, s2.seq hS, by omega, fun c H3 s3 => ?_⟩
      o_args
      refine ⟨c, rfl, fun b H4 nb s4 B4 => ?_⟩
      o_args
      refine ⟨b, rfl, B4, fun H5 s5 => ?_⟩
      o_args
      exact ⟨_, rfl, Same.ofX2' (s2.trans s3) nb s4 s5⟩
    · rintro σ H2 ⟨v, rfl, s2⟩
      o_args
      exact ⟨rfl, fun H3 s3 => k H3⟩
end
set_option maxHeartbeats 0 in
theorem all_mk {l : PySem.W.OpenLaw} [SupP l.prog] {w : World} {K : PySem.W.Frag} {h : Heap} {mg : Str → Option Value} {fa : Addr} (X : K.In h) (G : h.Ns mainGlobals mg) (hfa : mg "law" = some (.ref fa))
    {c_Control c_Fixed c_Climb c_Curve c_Delay c_LossError c_InvalidNumber c_InvalidSetting a_InvalidNumber_init_ a_InvalidSetting_init_ a_is_integer a_is_between a_require_new_bytes a_Control_init_ a_Control_starting p_Control_starting a_Control_on_ack a_Control_grow a_Control_on_loss a_Control_on_expiry a_Control_on_sample a_Control_set_window a_Fixed_init_ cda_Fixed_init_ cc_Fixed_init_ a_Fixed_on_ack a_Fixed_grow a_Fixed_on_loss a_Fixed_on_expiry a_Fixed_on_sample a_Climb_on_ack cda_Climb_on_ack cc_Climb_on_ack a_Climb_grow a_Climb_step a_Climb_on_loss cda_Climb_on_loss cc_Climb_on_loss a_Climb_on_expiry cda_Climb_on_expiry cc_Climb_on_expiry a_Climb_on_sample cda_Climb_on_sample cc_Climb_on_sample a_is_kind a_Curve_init_ cda_Curve_init_ cc_Curve_init_ a_Curve_on_ack cda_Curve_on_ack cc_Curve_on_ack a_Curve_grow cda_Curve_grow cc_Curve_grow a_Curve_on_loss a_Curve_span_to a_Curve_on_expiry cda_Curve_on_expiry cc_Curve_on_expiry a_Curve_on_sample cda_Curve_on_sample cc_Curve_on_sample a_Delay_init_ cda_Delay_init_ cc_Delay_init_ a_Delay_on_ack cda_Delay_on_ack cc_Delay_on_ack a_Delay_grow cda_Delay_grow cc_Delay_grow a_Delay_step a_Delay_surplus a_Delay_on_loss cda_Delay_on_loss cc_Delay_on_loss a_Delay_on_expiry cda_Delay_on_expiry cc_Delay_on_expiry a_Delay_on_sample a_control_of a__law_cell a__law_rounds a__law_box a__law_draw a__law_unit a__law_whole a__law_truth a__law_base a__law_make a__law_word a__law_times a__law_classed a__law_fresh a__law_bad a__law_refusal a__law_stranger a__law_apart a__law_units a__law_pieces a__law_kinds a__law_refused a__law_counts a__law_names a__law_question a_law dP_Fixed_init_ t_KINDS : Addr}
    {od_InvalidNumber_init_ an_InvalidNumber_init_ od_InvalidSetting_init_ an_InvalidSetting_init_ od_is_integer an_is_integer od_is_between an_is_between od_require_new_bytes an_require_new_bytes od_Control_init_ an_Control_init_ od_Control_starting an_Control_starting od_Control_on_ack an_Control_on_ack od_Control_grow an_Control_grow od_Control_on_loss an_Control_on_loss od_Control_on_expiry an_Control_on_expiry od_Control_on_sample an_Control_on_sample od_Control_set_window an_Control_set_window od_Fixed_init_ an_Fixed_init_ od_Fixed_on_ack an_Fixed_on_ack od_Fixed_grow an_Fixed_grow od_Fixed_on_loss an_Fixed_on_loss od_Fixed_on_expiry an_Fixed_on_expiry od_Fixed_on_sample an_Fixed_on_sample od_Climb_on_ack an_Climb_on_ack od_Climb_grow an_Climb_grow od_Climb_step an_Climb_step od_Climb_on_loss an_Climb_on_loss od_Climb_on_expiry an_Climb_on_expiry od_Climb_on_sample an_Climb_on_sample od_is_kind an_is_kind od_Curve_init_ an_Curve_init_ od_Curve_on_ack an_Curve_on_ack od_Curve_grow an_Curve_grow od_Curve_on_loss an_Curve_on_loss od_Curve_span_to an_Curve_span_to od_Curve_on_expiry an_Curve_on_expiry od_Curve_on_sample an_Curve_on_sample od_Delay_init_ an_Delay_init_ od_Delay_on_ack an_Delay_on_ack od_Delay_grow an_Delay_grow od_Delay_step an_Delay_step od_Delay_surplus an_Delay_surplus od_Delay_on_loss an_Delay_on_loss od_Delay_on_expiry an_Delay_on_expiry od_Delay_on_sample an_Delay_on_sample od_control_of an_control_of od__law_cell an__law_cell od__law_rounds an__law_rounds od__law_box an__law_box od__law_draw an__law_draw od__law_unit an__law_unit od__law_whole an__law_whole od__law_truth an__law_truth od__law_base an__law_base od__law_make an__law_make od__law_word an__law_word od__law_times an__law_times od__law_classed an__law_classed od__law_fresh an__law_fresh od__law_bad an__law_bad od__law_refusal an__law_refusal od__law_stranger an__law_stranger od__law_apart an__law_apart od__law_units an__law_units od__law_pieces an__law_pieces od__law_kinds an__law_kinds od__law_refused an__law_refused od__law_counts an__law_counts od__law_names an__law_names od__law_question an__law_question od_law an_law : Option Addr} {sl_InvalidNumber_init_ sl_InvalidSetting_init_ sl_is_integer sl_is_between sl_require_new_bytes sl_Control_init_ sl_Control_starting sl_Control_on_ack sl_Control_grow sl_Control_on_loss sl_Control_on_expiry sl_Control_on_sample sl_Control_set_window sl_Fixed_init_ sl_Fixed_on_ack sl_Fixed_grow sl_Fixed_on_loss sl_Fixed_on_expiry sl_Fixed_on_sample sl_Climb_on_ack sl_Climb_grow sl_Climb_step sl_Climb_on_loss sl_Climb_on_expiry sl_Climb_on_sample sl_is_kind sl_Curve_init_ sl_Curve_on_ack sl_Curve_grow sl_Curve_on_loss sl_Curve_span_to sl_Curve_on_expiry sl_Curve_on_sample sl_Delay_init_ sl_Delay_on_ack sl_Delay_grow sl_Delay_step sl_Delay_surplus sl_Delay_on_loss sl_Delay_on_expiry sl_Delay_on_sample sl_control_of sl__law_cell sl__law_rounds sl__law_box sl__law_draw sl__law_unit sl__law_whole sl__law_truth sl__law_base sl__law_make sl__law_word sl__law_times sl__law_classed sl__law_fresh sl__law_bad sl__law_refusal sl__law_stranger sl__law_apart sl__law_units sl__law_pieces sl__law_kinds sl__law_refused sl__law_counts sl__law_names sl__law_question sl_law : Array (Option Value)}
    {gl_Fixed_init_ hl_Fixed_init_ gl_Climb_on_ack hl_Climb_on_ack gl_Climb_on_loss hl_Climb_on_loss gl_Climb_on_expiry hl_Climb_on_expiry gl_Climb_on_sample hl_Climb_on_sample gl_Curve_init_ hl_Curve_init_ gl_Curve_on_ack hl_Curve_on_ack gl_Curve_grow hl_Curve_grow gl_Curve_on_expiry hl_Curve_on_expiry gl_Curve_on_sample hl_Curve_on_sample gl_Delay_init_ hl_Delay_init_ gl_Delay_on_ack hl_Delay_on_ack gl_Delay_grow hl_Delay_grow gl_Delay_on_loss hl_Delay_on_loss gl_Delay_on_expiry hl_Delay_on_expiry : Value} {gd_Fixed_init_ hd'_Fixed_init_ gd_Climb_on_ack hd'_Climb_on_ack gd_Climb_on_loss hd'_Climb_on_loss gd_Climb_on_expiry hd'_Climb_on_expiry gd_Climb_on_sample hd'_Climb_on_sample gd_Curve_init_ hd'_Curve_init_ gd_Curve_on_ack hd'_Curve_on_ack gd_Curve_grow hd'_Curve_grow gd_Curve_on_expiry hd'_Curve_on_expiry gd_Curve_on_sample hd'_Curve_on_sample gd_Delay_init_ hd'_Delay_init_ gd_Delay_on_ack hd'_Delay_on_ack gd_Delay_grow hd'_Delay_grow gd_Delay_on_loss hd'_Delay_on_loss gd_Delay_on_expiry hd'_Delay_on_expiry : Option Addr} {gs_Fixed_init_ hs_Fixed_init_ gs_Climb_on_ack hs_Climb_on_ack gs_Climb_on_loss hs_Climb_on_loss gs_Climb_on_expiry hs_Climb_on_expiry gs_Climb_on_sample hs_Climb_on_sample gs_Curve_init_ hs_Curve_init_ gs_Curve_on_ack hs_Curve_on_ack gs_Curve_grow hs_Curve_grow gs_Curve_on_expiry hs_Curve_on_expiry gs_Curve_on_sample hs_Curve_on_sample gs_Delay_init_ hs_Delay_init_ gs_Delay_on_ack hs_Delay_on_ack gs_Delay_grow hs_Delay_grow gs_Delay_on_loss hs_Delay_on_loss gs_Delay_on_expiry hs_Delay_on_expiry : Array (Option Value)} {gv_Fixed_init_ gv_Climb_on_ack gv_Climb_on_loss gv_Climb_on_expiry gv_Climb_on_sample gv_Curve_init_ gv_Curve_on_ack gv_Curve_grow gv_Curve_on_expiry gv_Curve_on_sample gv_Delay_init_ gv_Delay_on_ack gv_Delay_grow gv_Delay_on_loss gv_Delay_on_expiry : Array Value} {gk_Fixed_init_ gk_Climb_on_ack gk_Climb_on_loss gk_Climb_on_expiry gk_Climb_on_sample gk_Curve_init_ gk_Curve_on_ack gk_Curve_grow gk_Curve_on_expiry gk_Curve_on_sample gk_Delay_init_ gk_Delay_on_ack gk_Delay_grow gk_Delay_on_loss gk_Delay_on_expiry : Tok}
    {cD_Climb cD_Curve cD_Delay cD_Fixed : ClassData}
    {oc_InvalidNumber_init_ kV_InvalidNumber_init_ dc_InvalidNumber_init_ pm_InvalidNumber_init_ cd_InvalidNumber_init_ ct_InvalidNumber_init_ oc_InvalidSetting_init_ kV_InvalidSetting_init_ dc_InvalidSetting_init_ pm_InvalidSetting_init_ cd_InvalidSetting_init_ ct_InvalidSetting_init_ oc_is_integer kV_is_integer dc_is_integer pm_is_integer cd_is_integer ct_is_integer oc_is_between kV_is_between dc_is_between pm_is_between cd_is_between ct_is_between oc_require_new_bytes kV_require_new_bytes dc_require_new_bytes pm_require_new_bytes cd_require_new_bytes ct_require_new_bytes oc_Control_init_ kV_Control_init_ dc_Control_init_ pm_Control_init_ cd_Control_init_ ct_Control_init_ oc_Control_starting kV_Control_starting dc_Control_starting pm_Control_starting cd_Control_starting ct_Control_starting oc_Control_on_ack kV_Control_on_ack dc_Control_on_ack pm_Control_on_ack cd_Control_on_ack ct_Control_on_ack oc_Control_grow kV_Control_grow dc_Control_grow pm_Control_grow cd_Control_grow ct_Control_grow oc_Control_on_loss kV_Control_on_loss dc_Control_on_loss pm_Control_on_loss cd_Control_on_loss ct_Control_on_loss oc_Control_on_expiry kV_Control_on_expiry dc_Control_on_expiry pm_Control_on_expiry cd_Control_on_expiry ct_Control_on_expiry oc_Control_on_sample kV_Control_on_sample dc_Control_on_sample pm_Control_on_sample cd_Control_on_sample ct_Control_on_sample oc_Control_set_window kV_Control_set_window dc_Control_set_window pm_Control_set_window cd_Control_set_window ct_Control_set_window oc_Fixed_init_ kV_Fixed_init_ dc_Fixed_init_ pm_Fixed_init_ ct_Fixed_init_ oc_Fixed_on_ack kV_Fixed_on_ack dc_Fixed_on_ack pm_Fixed_on_ack cd_Fixed_on_ack ct_Fixed_on_ack oc_Fixed_grow kV_Fixed_grow dc_Fixed_grow pm_Fixed_grow cd_Fixed_grow ct_Fixed_grow oc_Fixed_on_loss kV_Fixed_on_loss dc_Fixed_on_loss pm_Fixed_on_loss cd_Fixed_on_loss ct_Fixed_on_loss oc_Fixed_on_expiry kV_Fixed_on_expiry dc_Fixed_on_expiry pm_Fixed_on_expiry cd_Fixed_on_expiry ct_Fixed_on_expiry oc_Fixed_on_sample kV_Fixed_on_sample dc_Fixed_on_sample pm_Fixed_on_sample cd_Fixed_on_sample ct_Fixed_on_sample oc_Climb_on_ack kV_Climb_on_ack dc_Climb_on_ack pm_Climb_on_ack ct_Climb_on_ack oc_Climb_grow kV_Climb_grow dc_Climb_grow pm_Climb_grow cd_Climb_grow ct_Climb_grow oc_Climb_step kV_Climb_step dc_Climb_step pm_Climb_step cd_Climb_step ct_Climb_step oc_Climb_on_loss kV_Climb_on_loss dc_Climb_on_loss pm_Climb_on_loss ct_Climb_on_loss oc_Climb_on_expiry kV_Climb_on_expiry dc_Climb_on_expiry pm_Climb_on_expiry ct_Climb_on_expiry oc_Climb_on_sample kV_Climb_on_sample dc_Climb_on_sample pm_Climb_on_sample ct_Climb_on_sample oc_is_kind kV_is_kind dc_is_kind pm_is_kind cd_is_kind ct_is_kind oc_Curve_init_ kV_Curve_init_ dc_Curve_init_ pm_Curve_init_ ct_Curve_init_ oc_Curve_on_ack kV_Curve_on_ack dc_Curve_on_ack pm_Curve_on_ack ct_Curve_on_ack oc_Curve_grow kV_Curve_grow dc_Curve_grow pm_Curve_grow ct_Curve_grow oc_Curve_on_loss kV_Curve_on_loss dc_Curve_on_loss pm_Curve_on_loss cd_Curve_on_loss ct_Curve_on_loss oc_Curve_span_to kV_Curve_span_to dc_Curve_span_to pm_Curve_span_to cd_Curve_span_to ct_Curve_span_to oc_Curve_on_expiry kV_Curve_on_expiry dc_Curve_on_expiry pm_Curve_on_expiry ct_Curve_on_expiry oc_Curve_on_sample kV_Curve_on_sample dc_Curve_on_sample pm_Curve_on_sample ct_Curve_on_sample oc_Delay_init_ kV_Delay_init_ dc_Delay_init_ pm_Delay_init_ ct_Delay_init_ oc_Delay_on_ack kV_Delay_on_ack dc_Delay_on_ack pm_Delay_on_ack ct_Delay_on_ack oc_Delay_grow kV_Delay_grow dc_Delay_grow pm_Delay_grow ct_Delay_grow oc_Delay_step kV_Delay_step dc_Delay_step pm_Delay_step cd_Delay_step ct_Delay_step oc_Delay_surplus kV_Delay_surplus dc_Delay_surplus pm_Delay_surplus cd_Delay_surplus ct_Delay_surplus oc_Delay_on_loss kV_Delay_on_loss dc_Delay_on_loss pm_Delay_on_loss ct_Delay_on_loss oc_Delay_on_expiry kV_Delay_on_expiry dc_Delay_on_expiry pm_Delay_on_expiry ct_Delay_on_expiry oc_Delay_on_sample kV_Delay_on_sample dc_Delay_on_sample pm_Delay_on_sample cd_Delay_on_sample ct_Delay_on_sample oc_control_of kV_control_of dc_control_of pm_control_of cd_control_of ct_control_of oc__law_cell kV__law_cell dc__law_cell pm__law_cell cd__law_cell ct__law_cell oc__law_rounds kV__law_rounds dc__law_rounds pm__law_rounds cd__law_rounds ct__law_rounds oc__law_box kV__law_box dc__law_box pm__law_box cd__law_box ct__law_box oc__law_draw kV__law_draw dc__law_draw pm__law_draw cd__law_draw ct__law_draw oc__law_unit kV__law_unit dc__law_unit pm__law_unit cd__law_unit ct__law_unit oc__law_whole kV__law_whole dc__law_whole pm__law_whole cd__law_whole ct__law_whole oc__law_truth kV__law_truth dc__law_truth pm__law_truth cd__law_truth ct__law_truth oc__law_base kV__law_base dc__law_base pm__law_base cd__law_base ct__law_base oc__law_make kV__law_make dc__law_make pm__law_make cd__law_make ct__law_make oc__law_word kV__law_word dc__law_word pm__law_word cd__law_word ct__law_word oc__law_times kV__law_times dc__law_times pm__law_times cd__law_times ct__law_times oc__law_classed kV__law_classed dc__law_classed pm__law_classed cd__law_classed ct__law_classed oc__law_fresh kV__law_fresh dc__law_fresh pm__law_fresh cd__law_fresh ct__law_fresh oc__law_bad kV__law_bad dc__law_bad pm__law_bad cd__law_bad ct__law_bad oc__law_refusal kV__law_refusal dc__law_refusal pm__law_refusal cd__law_refusal ct__law_refusal oc__law_stranger kV__law_stranger dc__law_stranger pm__law_stranger cd__law_stranger ct__law_stranger oc__law_apart kV__law_apart dc__law_apart pm__law_apart cd__law_apart ct__law_apart oc__law_units kV__law_units dc__law_units pm__law_units cd__law_units ct__law_units oc__law_pieces kV__law_pieces dc__law_pieces pm__law_pieces cd__law_pieces ct__law_pieces oc__law_kinds kV__law_kinds dc__law_kinds pm__law_kinds cd__law_kinds ct__law_kinds oc__law_refused kV__law_refused dc__law_refused pm__law_refused cd__law_refused ct__law_refused oc__law_counts kV__law_counts dc__law_counts pm__law_counts cd__law_counts ct__law_counts oc__law_names kV__law_names dc__law_names pm__law_names cd__law_names ct__law_names oc__law_question kV__law_question dc__law_question pm__law_question cd__law_question ct__law_question oc_law kV_law dc_law pm_law cd_law ct_law : Value}
    {td_D_Fixed_init_ td_KINDS : Option Addr} {tu_D_Fixed_init_ tu_KINDS : Array Value} {tn_D_Fixed_init_ tn_KINDS : Nat} {ts_D_Fixed_init_ ts_KINDS : Array (Option Value)}
    {u_Control_GREATEST u_Control_KIND u_Fixed_KIND u_Climb_KIND u_Curve_KIND u_Delay_KIND u_MOST_PIECES : Value}
    {rs_Control_starting : List Value}
    {xn_InvalidNumber xq_InvalidNumber : Str} {xN_InvalidNumber : Addr} {xb_InvalidNumber xm_InvalidNumber : List Value} {xs_InvalidNumber : List Str} {xu_InvalidNumber : List Value} {xa_InvalidNumber : Bool} {xo_InvalidNumber : _} {xd_InvalidNumber : Option Addr} {x0_InvalidNumber x1_InvalidNumber x2_InvalidNumber x3_InvalidNumber x5_InvalidNumber : Option Value}
    {xn_InvalidSetting xq_InvalidSetting : Str} {xN_InvalidSetting : Addr} {xb_InvalidSetting xm_InvalidSetting : List Value} {xs_InvalidSetting : List Str} {xu_InvalidSetting : List Value} {xa_InvalidSetting : Bool} {xo_InvalidSetting : _} {xd_InvalidSetting : Option Addr} {x0_InvalidSetting x1_InvalidSetting x2_InvalidSetting x3_InvalidSetting x5_InvalidSetting : Option Value}
    (aC_Control : PySem.W.nsIn K mainGlobals "Control" = some (some (.ref c_Control)))
    (pg_Control : PySem.W.plainGet K c_Control Str.empty = true)
    (hd_Control : PySem.W.hasDictIn K c_Control = true)
    (po_Control : PySem.W.plainOver K c_Control = true)
    (sa_Control : PySem.W.findIn K (.ref c_Control) "__setattr__" = some (some (.builtin "object.__setattr__")))
    (mk_Control : PySem.W.makesIn K c_Control = true)
    (kc_Control : PySem.W.keepIn K (.ref c_Control) = true)
    (n_Control_unit : PySem.W.findIn K (.ref c_Control) "unit" = some none)
    (n_Control_window : PySem.W.findIn K (.ref c_Control) "window" = some none)
    (n_Control_threshold : PySem.W.findIn K (.ref c_Control) "threshold" = some none)
    (n_Control_credit : PySem.W.findIn K (.ref c_Control) "credit" = some none)
    (n_Control_stalled : PySem.W.findIn K (.ref c_Control) "stalled" = some none)
    (rd_Control : PySem.W.readsIn K c_Control (.type "type") = true)
    (ga_Control : PySem.W.specialIn K (.ref c_Control) "__getattribute__" = some (some (.builtin "type.__getattribute__")))
    (va_Control_GREATEST : PySem.W.findCls K (.ref c_Control) (.type "type") "GREATEST" = some (.val u_Control_GREATEST))
    (va_Control_KIND : PySem.W.findCls K (.ref c_Control) (.type "type") "KIND" = some (.val u_Control_KIND))
    (ia_Control_KIND : PySem.W.findIn K (.ref c_Control) "KIND" = some (some u_Control_KIND))
    (ig_Control_KIND : PySem.W.specialIn K u_Control_KIND "__get__" = some none)
    (aC_Fixed : PySem.W.nsIn K mainGlobals "Fixed" = some (some (.ref c_Fixed)))
    (pg_Fixed : PySem.W.plainGet K c_Fixed Str.empty = true)
    (hd_Fixed : PySem.W.hasDictIn K c_Fixed = true)
    (po_Fixed : PySem.W.plainOver K c_Fixed = true)
    (sa_Fixed : PySem.W.findIn K (.ref c_Fixed) "__setattr__" = some (some (.builtin "object.__setattr__")))
    (mk_Fixed : PySem.W.makesIn K c_Fixed = true)
    (kc_Fixed : PySem.W.keepIn K (.ref c_Fixed) = true)
    (n_Fixed_unit : PySem.W.findIn K (.ref c_Fixed) "unit" = some none)
    (n_Fixed_window : PySem.W.findIn K (.ref c_Fixed) "window" = some none)
    (n_Fixed_threshold : PySem.W.findIn K (.ref c_Fixed) "threshold" = some none)
    (n_Fixed_credit : PySem.W.findIn K (.ref c_Fixed) "credit" = some none)
    (n_Fixed_stalled : PySem.W.findIn K (.ref c_Fixed) "stalled" = some none)
    (rd_Fixed : PySem.W.readsIn K c_Fixed (.type "type") = true)
    (ga_Fixed : PySem.W.specialIn K (.ref c_Fixed) "__getattribute__" = some (some (.builtin "type.__getattribute__")))
    (va_Fixed_KIND : PySem.W.findCls K (.ref c_Fixed) (.type "type") "KIND" = some (.val u_Fixed_KIND))
    (ia_Fixed_KIND : PySem.W.findIn K (.ref c_Fixed) "KIND" = some (some u_Fixed_KIND))
    (ig_Fixed_KIND : PySem.W.specialIn K u_Fixed_KIND "__get__" = some none)
    (aC_Climb : PySem.W.nsIn K mainGlobals "Climb" = some (some (.ref c_Climb)))
    (pg_Climb : PySem.W.plainGet K c_Climb Str.empty = true)
    (hd_Climb : PySem.W.hasDictIn K c_Climb = true)
    (po_Climb : PySem.W.plainOver K c_Climb = true)
    (sa_Climb : PySem.W.findIn K (.ref c_Climb) "__setattr__" = some (some (.builtin "object.__setattr__")))
    (n_Climb_unit : PySem.W.findIn K (.ref c_Climb) "unit" = some none)
    (n_Climb_window : PySem.W.findIn K (.ref c_Climb) "window" = some none)
    (n_Climb_threshold : PySem.W.findIn K (.ref c_Climb) "threshold" = some none)
    (n_Climb_credit : PySem.W.findIn K (.ref c_Climb) "credit" = some none)
    (n_Climb_stalled : PySem.W.findIn K (.ref c_Climb) "stalled" = some none)
    (rd_Climb : PySem.W.readsIn K c_Climb (.type "type") = true)
    (ga_Climb : PySem.W.specialIn K (.ref c_Climb) "__getattribute__" = some (some (.builtin "type.__getattribute__")))
    (va_Climb_KIND : PySem.W.findCls K (.ref c_Climb) (.type "type") "KIND" = some (.val u_Climb_KIND))
    (ia_Climb_KIND : PySem.W.findIn K (.ref c_Climb) "KIND" = some (some u_Climb_KIND))
    (ig_Climb_KIND : PySem.W.specialIn K u_Climb_KIND "__get__" = some none)
    (aC_Curve : PySem.W.nsIn K mainGlobals "Curve" = some (some (.ref c_Curve)))
    (pg_Curve : PySem.W.plainGet K c_Curve Str.empty = true)
    (hd_Curve : PySem.W.hasDictIn K c_Curve = true)
    (po_Curve : PySem.W.plainOver K c_Curve = true)
    (sa_Curve : PySem.W.findIn K (.ref c_Curve) "__setattr__" = some (some (.builtin "object.__setattr__")))
    (mk_Curve : PySem.W.makesIn K c_Curve = true)
    (kc_Curve : PySem.W.keepIn K (.ref c_Curve) = true)
    (n_Curve_unit : PySem.W.findIn K (.ref c_Curve) "unit" = some none)
    (n_Curve_window : PySem.W.findIn K (.ref c_Curve) "window" = some none)
    (n_Curve_threshold : PySem.W.findIn K (.ref c_Curve) "threshold" = some none)
    (n_Curve_credit : PySem.W.findIn K (.ref c_Curve) "credit" = some none)
    (n_Curve_stalled : PySem.W.findIn K (.ref c_Curve) "stalled" = some none)
    (n_Curve_peak : PySem.W.findIn K (.ref c_Curve) "peak" = some none)
    (n_Curve_span : PySem.W.findIn K (.ref c_Curve) "span" = some none)
    (n_Curve_born : PySem.W.findIn K (.ref c_Curve) "born" = some none)
    (rd_Curve : PySem.W.readsIn K c_Curve (.type "type") = true)
    (ga_Curve : PySem.W.specialIn K (.ref c_Curve) "__getattribute__" = some (some (.builtin "type.__getattribute__")))
    (va_Curve_KIND : PySem.W.findCls K (.ref c_Curve) (.type "type") "KIND" = some (.val u_Curve_KIND))
    (ia_Curve_KIND : PySem.W.findIn K (.ref c_Curve) "KIND" = some (some u_Curve_KIND))
    (ig_Curve_KIND : PySem.W.specialIn K u_Curve_KIND "__get__" = some none)
    (aC_Delay : PySem.W.nsIn K mainGlobals "Delay" = some (some (.ref c_Delay)))
    (pg_Delay : PySem.W.plainGet K c_Delay Str.empty = true)
    (hd_Delay : PySem.W.hasDictIn K c_Delay = true)
    (po_Delay : PySem.W.plainOver K c_Delay = true)
    (sa_Delay : PySem.W.findIn K (.ref c_Delay) "__setattr__" = some (some (.builtin "object.__setattr__")))
    (mk_Delay : PySem.W.makesIn K c_Delay = true)
    (kc_Delay : PySem.W.keepIn K (.ref c_Delay) = true)
    (n_Delay_unit : PySem.W.findIn K (.ref c_Delay) "unit" = some none)
    (n_Delay_window : PySem.W.findIn K (.ref c_Delay) "window" = some none)
    (n_Delay_threshold : PySem.W.findIn K (.ref c_Delay) "threshold" = some none)
    (n_Delay_credit : PySem.W.findIn K (.ref c_Delay) "credit" = some none)
    (n_Delay_stalled : PySem.W.findIn K (.ref c_Delay) "stalled" = some none)
    (n_Delay_least : PySem.W.findIn K (.ref c_Delay) "least" = some none)
    (n_Delay_latest : PySem.W.findIn K (.ref c_Delay) "latest" = some none)
    (n_Delay_samples : PySem.W.findIn K (.ref c_Delay) "samples" = some none)
    (rd_Delay : PySem.W.readsIn K c_Delay (.type "type") = true)
    (ga_Delay : PySem.W.specialIn K (.ref c_Delay) "__getattribute__" = some (some (.builtin "type.__getattribute__")))
    (va_Delay_KIND : PySem.W.findCls K (.ref c_Delay) (.type "type") "KIND" = some (.val u_Delay_KIND))
    (ia_Delay_KIND : PySem.W.findIn K (.ref c_Delay) "KIND" = some (some u_Delay_KIND))
    (ig_Delay_KIND : PySem.W.specialIn K u_Delay_KIND "__get__" = some none)
    (aC_LossError : PySem.W.nsIn K mainGlobals "LossError" = some (some (.ref c_LossError)))
    (aC_InvalidNumber : PySem.W.nsIn K mainGlobals "InvalidNumber" = some (some (.ref c_InvalidNumber)))
    (xl_InvalidNumber : K.lookup c_InvalidNumber = some (excClassObj xn_InvalidNumber xq_InvalidNumber c_InvalidNumber xN_InvalidNumber xb_InvalidNumber xm_InvalidNumber true xs_InvalidNumber xu_InvalidNumber xa_InvalidNumber xo_InvalidNumber xd_InvalidNumber x0_InvalidNumber x1_InvalidNumber x2_InvalidNumber x3_InvalidNumber x5_InvalidNumber "ValueError.__new__"))
    (sa_InvalidNumber : PySem.W.findIn K (.ref c_InvalidNumber) "__setattr__" = some (some (.builtin "object.__setattr__")))
    (xx_InvalidNumber : PySem.W.subIn K (.ref c_InvalidNumber) (.type "BaseException") = some true)
    (xt_InvalidNumber : PySem.W.typeIn K (.ref c_InvalidNumber) = some (.type "type"))
    (xk_InvalidNumber : PySem.W.keepIn K (.ref c_InvalidNumber) = true)
    (xi_InvalidNumber : PySem.W.findIn K (.ref c_InvalidNumber) "__init__" = some (some (.ref a_InvalidNumber_init_)))
    (xg_InvalidNumber : PySem.W.findIn K (.ref c_InvalidNumber) "__getattribute__" = some (some (.builtin "BaseException.__getattribute__")))
    (xh_InvalidNumber : PySem.W.findIn K (.ref c_InvalidNumber) "__getattr__" = some none)
    (xy_InvalidNumber : PySem.W.hasDictIn K c_InvalidNumber = true)
    (xc_InvalidNumber : PySem.W.findIn K (.ref c_InvalidNumber) "__class__" = some (some (.builtin "object.__class__")))
    (xr_InvalidNumber : PySem.W.mroIn K c_InvalidNumber (.type "object") = some true)
    (nX_InvalidNumber : PySem.W.findIn K (.ref c_InvalidNumber) "number" = some none)
    (aC_InvalidSetting : PySem.W.nsIn K mainGlobals "InvalidSetting" = some (some (.ref c_InvalidSetting)))
    (xl_InvalidSetting : K.lookup c_InvalidSetting = some (excClassObj xn_InvalidSetting xq_InvalidSetting c_InvalidSetting xN_InvalidSetting xb_InvalidSetting xm_InvalidSetting true xs_InvalidSetting xu_InvalidSetting xa_InvalidSetting xo_InvalidSetting xd_InvalidSetting x0_InvalidSetting x1_InvalidSetting x2_InvalidSetting x3_InvalidSetting x5_InvalidSetting "ValueError.__new__"))
    (sa_InvalidSetting : PySem.W.findIn K (.ref c_InvalidSetting) "__setattr__" = some (some (.builtin "object.__setattr__")))
    (xx_InvalidSetting : PySem.W.subIn K (.ref c_InvalidSetting) (.type "BaseException") = some true)
    (xt_InvalidSetting : PySem.W.typeIn K (.ref c_InvalidSetting) = some (.type "type"))
    (xk_InvalidSetting : PySem.W.keepIn K (.ref c_InvalidSetting) = true)
    (xi_InvalidSetting : PySem.W.findIn K (.ref c_InvalidSetting) "__init__" = some (some (.ref a_InvalidSetting_init_)))
    (xg_InvalidSetting : PySem.W.findIn K (.ref c_InvalidSetting) "__getattribute__" = some (some (.builtin "BaseException.__getattribute__")))
    (xh_InvalidSetting : PySem.W.findIn K (.ref c_InvalidSetting) "__getattr__" = some none)
    (xy_InvalidSetting : PySem.W.hasDictIn K c_InvalidSetting = true)
    (xc_InvalidSetting : PySem.W.findIn K (.ref c_InvalidSetting) "__class__" = some (some (.builtin "object.__class__")))
    (xr_InvalidSetting : PySem.W.mroIn K c_InvalidSetting (.type "object") = some true)
    (nX_InvalidSetting : PySem.W.findIn K (.ref c_InvalidSetting) "setting" = some none)
    (x_get : PySem.W.specialIn K (.builtin "object.__class__") "__get__" = some (some (.builtin "getset_descriptor.__get__")))
    (x_tk : PySem.W.takesIn K (.builtin "object.__class__") = some true)
    (Me_InvalidNumber_LossError : PySem.W.exmOne K (.ref c_InvalidNumber) (.ref c_LossError) = some true)
    (Me_InvalidSetting_LossError : PySem.W.exmOne K (.ref c_InvalidSetting) (.ref c_LossError) = some true)
    (Me_InvalidSetting_InvalidSetting : PySem.W.exmOne K (.ref c_InvalidSetting) (.ref c_InvalidSetting) = some true)
    (Kt_InvalidNumber_InvalidNumber : PySem.W.kitOne K (.ref c_InvalidNumber) (.ref c_InvalidNumber) = some true)
    (Kt_InvalidNumber_InvalidSetting : PySem.W.kitOne K (.ref c_InvalidNumber) (.ref c_InvalidSetting) = some false)
    (Kt_InvalidSetting_InvalidNumber : PySem.W.kitOne K (.ref c_InvalidSetting) (.ref c_InvalidNumber) = some false)
    (Kt_InvalidSetting_InvalidSetting : PySem.W.kitOne K (.ref c_InvalidSetting) (.ref c_InvalidSetting) = some true)
    (Kt_InvalidSetting_LossError : PySem.W.kitOne K (.ref c_InvalidSetting) (.ref c_LossError) = some true)
    (Kt_InvalidNumber_LossError : PySem.W.kitOne K (.ref c_InvalidNumber) (.ref c_LossError) = some true)
    (xf_InvalidNumber_init_ : PySem.W.typeIn K (.ref a_InvalidNumber_init_) = some (.type "function"))
    (l_InvalidNumber_init_ : K.lookup a_InvalidNumber_init_ = some ⟨oc_InvalidNumber_init_, od_InvalidNumber_init_, .func (PySem.W.fnOf "__init__" "InvalidNumber.__init__" (defArgs s_InvalidNumber_init_) (defBody s_InvalidNumber_init_) (defScope s_InvalidNumber_init_) .none kV_InvalidNumber_init_ dc_InvalidNumber_init_ pm_InvalidNumber_init_ an_InvalidNumber_init_ cd_InvalidNumber_init_ ct_InvalidNumber_init_), sl_InvalidNumber_init_⟩)
    (e_InvalidNumber_init_ : PySem.W.codeIn K cd_InvalidNumber_init_ "InvalidNumber.__init__" = true)
    (k_InvalidNumber_init_ : PySem.W.keepIn K (.ref a_InvalidNumber_init_) = true)
    (xf_InvalidSetting_init_ : PySem.W.typeIn K (.ref a_InvalidSetting_init_) = some (.type "function"))
    (l_InvalidSetting_init_ : K.lookup a_InvalidSetting_init_ = some ⟨oc_InvalidSetting_init_, od_InvalidSetting_init_, .func (PySem.W.fnOf "__init__" "InvalidSetting.__init__" (defArgs s_InvalidSetting_init_) (defBody s_InvalidSetting_init_) (defScope s_InvalidSetting_init_) .none kV_InvalidSetting_init_ dc_InvalidSetting_init_ pm_InvalidSetting_init_ an_InvalidSetting_init_ cd_InvalidSetting_init_ ct_InvalidSetting_init_), sl_InvalidSetting_init_⟩)
    (e_InvalidSetting_init_ : PySem.W.codeIn K cd_InvalidSetting_init_ "InvalidSetting.__init__" = true)
    (k_InvalidSetting_init_ : PySem.W.keepIn K (.ref a_InvalidSetting_init_) = true)
    (a_is_integer' : PySem.W.nsIn K mainGlobals "is_integer" = some (some (.ref a_is_integer)))
    (l_is_integer : K.lookup a_is_integer = some ⟨oc_is_integer, od_is_integer, .func (PySem.W.fnOf "is_integer" "is_integer" (defArgs s_is_integer) (defBody s_is_integer) (defScope s_is_integer) .none kV_is_integer dc_is_integer pm_is_integer an_is_integer cd_is_integer ct_is_integer), sl_is_integer⟩)
    (e_is_integer : PySem.W.codeIn K cd_is_integer "is_integer" = true)
    (k_is_integer : PySem.W.keepIn K (.ref a_is_integer) = true)
    (a_is_between' : PySem.W.nsIn K mainGlobals "is_between" = some (some (.ref a_is_between)))
    (l_is_between : K.lookup a_is_between = some ⟨oc_is_between, od_is_between, .func (PySem.W.fnOf "is_between" "is_between" (defArgs s_is_between) (defBody s_is_between) (defScope s_is_between) .none kV_is_between dc_is_between pm_is_between an_is_between cd_is_between ct_is_between), sl_is_between⟩)
    (e_is_between : PySem.W.codeIn K cd_is_between "is_between" = true)
    (k_is_between : PySem.W.keepIn K (.ref a_is_between) = true)
    (a_require_new_bytes' : PySem.W.nsIn K mainGlobals "require_new_bytes" = some (some (.ref a_require_new_bytes)))
    (l_require_new_bytes : K.lookup a_require_new_bytes = some ⟨oc_require_new_bytes, od_require_new_bytes, .func (PySem.W.fnOf "require_new_bytes" "require_new_bytes" (defArgs s_require_new_bytes) (defBody s_require_new_bytes) (defScope s_require_new_bytes) .none kV_require_new_bytes dc_require_new_bytes pm_require_new_bytes an_require_new_bytes cd_require_new_bytes ct_require_new_bytes), sl_require_new_bytes⟩)
    (e_require_new_bytes : PySem.W.codeIn K cd_require_new_bytes "require_new_bytes" = true)
    (k_require_new_bytes : PySem.W.keepIn K (.ref a_require_new_bytes) = true)
    (a_Control_init_' : PySem.W.findIn K (.ref c_Control) "__init__" = some (some (.ref a_Control_init_)))
    (i_Control_init_ : PySem.W.isFn K (.ref a_Control_init_) = true)
    (l_Control_init_ : K.lookup a_Control_init_ = some ⟨oc_Control_init_, od_Control_init_, .func (PySem.W.fnOf "__init__" "Control.__init__" (defArgs s_Control_init_) (defBody s_Control_init_) (defScope s_Control_init_) .none kV_Control_init_ dc_Control_init_ pm_Control_init_ an_Control_init_ cd_Control_init_ ct_Control_init_), sl_Control_init_⟩)
    (e_Control_init_ : PySem.W.codeIn K cd_Control_init_ "Control.__init__" = true)
    (k_Control_init_ : PySem.W.keepIn K (.ref a_Control_init_) = true)
    (a_Control_starting' : PySem.W.findIn K (.ref c_Control) "starting" = some (some (.ref p_Control_starting)))
    (pg_Control_starting : PySem.W.specialIn K (.ref p_Control_starting) "__get__" = some (some (.builtin "property.__get__")))
    (pt_Control_starting : PySem.W.takesIn K (.ref p_Control_starting) = some true)
    (rc_Control_starting : PySem.W.recIn K p_Control_starting "property" = some (.ref a_Control_starting :: rs_Control_starting))
    (l_Control_starting : K.lookup a_Control_starting = some ⟨oc_Control_starting, od_Control_starting, .func (PySem.W.fnOf "starting" "Control.starting" (defArgs s_Control_starting) (defBody s_Control_starting) (defScope s_Control_starting) .none kV_Control_starting dc_Control_starting pm_Control_starting an_Control_starting cd_Control_starting ct_Control_starting), sl_Control_starting⟩)
    (e_Control_starting : PySem.W.codeIn K cd_Control_starting "Control.starting" = true)
    (k_Control_starting : PySem.W.keepIn K (.ref a_Control_starting) = true)
    (a_Control_on_ack' : PySem.W.findIn K (.ref c_Control) "on_ack" = some (some (.ref a_Control_on_ack)))
    (i_Control_on_ack : PySem.W.isFn K (.ref a_Control_on_ack) = true)
    (l_Control_on_ack : K.lookup a_Control_on_ack = some ⟨oc_Control_on_ack, od_Control_on_ack, .func (PySem.W.fnOf "on_ack" "Control.on_ack" (defArgs s_Control_on_ack) (defBody s_Control_on_ack) (defScope s_Control_on_ack) .none kV_Control_on_ack dc_Control_on_ack pm_Control_on_ack an_Control_on_ack cd_Control_on_ack ct_Control_on_ack), sl_Control_on_ack⟩)
    (e_Control_on_ack : PySem.W.codeIn K cd_Control_on_ack "Control.on_ack" = true)
    (k_Control_on_ack : PySem.W.keepIn K (.ref a_Control_on_ack) = true)
    (a_Control_grow' : PySem.W.findIn K (.ref c_Control) "grow" = some (some (.ref a_Control_grow)))
    (i_Control_grow : PySem.W.isFn K (.ref a_Control_grow) = true)
    (l_Control_grow : K.lookup a_Control_grow = some ⟨oc_Control_grow, od_Control_grow, .func (PySem.W.fnOf "grow" "Control.grow" (defArgs s_Control_grow) (defBody s_Control_grow) (defScope s_Control_grow) .none kV_Control_grow dc_Control_grow pm_Control_grow an_Control_grow cd_Control_grow ct_Control_grow), sl_Control_grow⟩)
    (e_Control_grow : PySem.W.codeIn K cd_Control_grow "Control.grow" = true)
    (k_Control_grow : PySem.W.keepIn K (.ref a_Control_grow) = true)
    (a_Control_on_loss' : PySem.W.findIn K (.ref c_Control) "on_loss" = some (some (.ref a_Control_on_loss)))
    (i_Control_on_loss : PySem.W.isFn K (.ref a_Control_on_loss) = true)
    (l_Control_on_loss : K.lookup a_Control_on_loss = some ⟨oc_Control_on_loss, od_Control_on_loss, .func (PySem.W.fnOf "on_loss" "Control.on_loss" (defArgs s_Control_on_loss) (defBody s_Control_on_loss) (defScope s_Control_on_loss) .none kV_Control_on_loss dc_Control_on_loss pm_Control_on_loss an_Control_on_loss cd_Control_on_loss ct_Control_on_loss), sl_Control_on_loss⟩)
    (e_Control_on_loss : PySem.W.codeIn K cd_Control_on_loss "Control.on_loss" = true)
    (k_Control_on_loss : PySem.W.keepIn K (.ref a_Control_on_loss) = true)
    (a_Control_on_expiry' : PySem.W.findIn K (.ref c_Control) "on_expiry" = some (some (.ref a_Control_on_expiry)))
    (i_Control_on_expiry : PySem.W.isFn K (.ref a_Control_on_expiry) = true)
    (l_Control_on_expiry : K.lookup a_Control_on_expiry = some ⟨oc_Control_on_expiry, od_Control_on_expiry, .func (PySem.W.fnOf "on_expiry" "Control.on_expiry" (defArgs s_Control_on_expiry) (defBody s_Control_on_expiry) (defScope s_Control_on_expiry) .none kV_Control_on_expiry dc_Control_on_expiry pm_Control_on_expiry an_Control_on_expiry cd_Control_on_expiry ct_Control_on_expiry), sl_Control_on_expiry⟩)
    (e_Control_on_expiry : PySem.W.codeIn K cd_Control_on_expiry "Control.on_expiry" = true)
    (k_Control_on_expiry : PySem.W.keepIn K (.ref a_Control_on_expiry) = true)
    (a_Control_on_sample' : PySem.W.findIn K (.ref c_Control) "on_sample" = some (some (.ref a_Control_on_sample)))
    (i_Control_on_sample : PySem.W.isFn K (.ref a_Control_on_sample) = true)
    (l_Control_on_sample : K.lookup a_Control_on_sample = some ⟨oc_Control_on_sample, od_Control_on_sample, .func (PySem.W.fnOf "on_sample" "Control.on_sample" (defArgs s_Control_on_sample) (defBody s_Control_on_sample) (defScope s_Control_on_sample) .none kV_Control_on_sample dc_Control_on_sample pm_Control_on_sample an_Control_on_sample cd_Control_on_sample ct_Control_on_sample), sl_Control_on_sample⟩)
    (e_Control_on_sample : PySem.W.codeIn K cd_Control_on_sample "Control.on_sample" = true)
    (k_Control_on_sample : PySem.W.keepIn K (.ref a_Control_on_sample) = true)
    (a_Control_set_window' : PySem.W.findIn K (.ref c_Control) "_set_window" = some (some (.ref a_Control_set_window)))
    (i_Control_set_window : PySem.W.isFn K (.ref a_Control_set_window) = true)
    (l_Control_set_window : K.lookup a_Control_set_window = some ⟨oc_Control_set_window, od_Control_set_window, .func (PySem.W.fnOf "_set_window" "Control._set_window" (defArgs s_Control_set_window) (defBody s_Control_set_window) (defScope s_Control_set_window) .none kV_Control_set_window dc_Control_set_window pm_Control_set_window an_Control_set_window cd_Control_set_window ct_Control_set_window), sl_Control_set_window⟩)
    (e_Control_set_window : PySem.W.codeIn K cd_Control_set_window "Control._set_window" = true)
    (k_Control_set_window : PySem.W.keepIn K (.ref a_Control_set_window) = true)
    (a_Fixed_init_' : PySem.W.findIn K (.ref c_Fixed) "__init__" = some (some (.ref a_Fixed_init_)))
    (i_Fixed_init_ : PySem.W.isFn K (.ref a_Fixed_init_) = true)
    (l_Fixed_init_ : K.lookup a_Fixed_init_ = some ⟨oc_Fixed_init_, od_Fixed_init_, .func (PySem.W.fnX "__init__" "Fixed.__init__" (defArgs s_Fixed_init_) (defBody s_Fixed_init_) (defScope s_Fixed_init_) [("__class__", cc_Fixed_init_)] (.ref dP_Fixed_init_) kV_Fixed_init_ dc_Fixed_init_ pm_Fixed_init_ an_Fixed_init_ (.ref cda_Fixed_init_) ct_Fixed_init_), sl_Fixed_init_⟩)
    (e_Fixed_init_ : PySem.W.codeIn K (.ref cda_Fixed_init_) "Fixed.__init__" = true)
    (k_Fixed_init_ : PySem.W.keepIn K (.ref a_Fixed_init_) = true)
    (lk_Fixed_init_ : K.lookup cda_Fixed_init_ = some ⟨gl_Fixed_init_, gd_Fixed_init_, .fields gv_Fixed_init_, gs_Fixed_init_⟩)
    (lx_Fixed_init_ : K.lookup cc_Fixed_init_ = some ⟨hl_Fixed_init_, hd'_Fixed_init_, .cell (some (.ref c_Fixed)), hs_Fixed_init_⟩)
    (a_Fixed_on_ack' : PySem.W.findIn K (.ref c_Fixed) "on_ack" = some (some (.ref a_Fixed_on_ack)))
    (i_Fixed_on_ack : PySem.W.isFn K (.ref a_Fixed_on_ack) = true)
    (l_Fixed_on_ack : K.lookup a_Fixed_on_ack = some ⟨oc_Fixed_on_ack, od_Fixed_on_ack, .func (PySem.W.fnOf "on_ack" "Fixed.on_ack" (defArgs s_Fixed_on_ack) (defBody s_Fixed_on_ack) (defScope s_Fixed_on_ack) .none kV_Fixed_on_ack dc_Fixed_on_ack pm_Fixed_on_ack an_Fixed_on_ack cd_Fixed_on_ack ct_Fixed_on_ack), sl_Fixed_on_ack⟩)
    (e_Fixed_on_ack : PySem.W.codeIn K cd_Fixed_on_ack "Fixed.on_ack" = true)
    (k_Fixed_on_ack : PySem.W.keepIn K (.ref a_Fixed_on_ack) = true)
    (a_Fixed_grow' : PySem.W.findIn K (.ref c_Fixed) "grow" = some (some (.ref a_Fixed_grow)))
    (i_Fixed_grow : PySem.W.isFn K (.ref a_Fixed_grow) = true)
    (l_Fixed_grow : K.lookup a_Fixed_grow = some ⟨oc_Fixed_grow, od_Fixed_grow, .func (PySem.W.fnOf "grow" "Fixed.grow" (defArgs s_Fixed_grow) (defBody s_Fixed_grow) (defScope s_Fixed_grow) .none kV_Fixed_grow dc_Fixed_grow pm_Fixed_grow an_Fixed_grow cd_Fixed_grow ct_Fixed_grow), sl_Fixed_grow⟩)
    (e_Fixed_grow : PySem.W.codeIn K cd_Fixed_grow "Fixed.grow" = true)
    (k_Fixed_grow : PySem.W.keepIn K (.ref a_Fixed_grow) = true)
    (a_Fixed_on_loss' : PySem.W.findIn K (.ref c_Fixed) "on_loss" = some (some (.ref a_Fixed_on_loss)))
    (i_Fixed_on_loss : PySem.W.isFn K (.ref a_Fixed_on_loss) = true)
    (l_Fixed_on_loss : K.lookup a_Fixed_on_loss = some ⟨oc_Fixed_on_loss, od_Fixed_on_loss, .func (PySem.W.fnOf "on_loss" "Fixed.on_loss" (defArgs s_Fixed_on_loss) (defBody s_Fixed_on_loss) (defScope s_Fixed_on_loss) .none kV_Fixed_on_loss dc_Fixed_on_loss pm_Fixed_on_loss an_Fixed_on_loss cd_Fixed_on_loss ct_Fixed_on_loss), sl_Fixed_on_loss⟩)
    (e_Fixed_on_loss : PySem.W.codeIn K cd_Fixed_on_loss "Fixed.on_loss" = true)
    (k_Fixed_on_loss : PySem.W.keepIn K (.ref a_Fixed_on_loss) = true)
    (a_Fixed_on_expiry' : PySem.W.findIn K (.ref c_Fixed) "on_expiry" = some (some (.ref a_Fixed_on_expiry)))
    (i_Fixed_on_expiry : PySem.W.isFn K (.ref a_Fixed_on_expiry) = true)
    (l_Fixed_on_expiry : K.lookup a_Fixed_on_expiry = some ⟨oc_Fixed_on_expiry, od_Fixed_on_expiry, .func (PySem.W.fnOf "on_expiry" "Fixed.on_expiry" (defArgs s_Fixed_on_expiry) (defBody s_Fixed_on_expiry) (defScope s_Fixed_on_expiry) .none kV_Fixed_on_expiry dc_Fixed_on_expiry pm_Fixed_on_expiry an_Fixed_on_expiry cd_Fixed_on_expiry ct_Fixed_on_expiry), sl_Fixed_on_expiry⟩)
    (e_Fixed_on_expiry : PySem.W.codeIn K cd_Fixed_on_expiry "Fixed.on_expiry" = true)
    (k_Fixed_on_expiry : PySem.W.keepIn K (.ref a_Fixed_on_expiry) = true)
    (a_Fixed_on_sample' : PySem.W.findIn K (.ref c_Fixed) "on_sample" = some (some (.ref a_Fixed_on_sample)))
    (i_Fixed_on_sample : PySem.W.isFn K (.ref a_Fixed_on_sample) = true)
    (l_Fixed_on_sample : K.lookup a_Fixed_on_sample = some ⟨oc_Fixed_on_sample, od_Fixed_on_sample, .func (PySem.W.fnOf "on_sample" "Fixed.on_sample" (defArgs s_Fixed_on_sample) (defBody s_Fixed_on_sample) (defScope s_Fixed_on_sample) .none kV_Fixed_on_sample dc_Fixed_on_sample pm_Fixed_on_sample an_Fixed_on_sample cd_Fixed_on_sample ct_Fixed_on_sample), sl_Fixed_on_sample⟩)
    (e_Fixed_on_sample : PySem.W.codeIn K cd_Fixed_on_sample "Fixed.on_sample" = true)
    (k_Fixed_on_sample : PySem.W.keepIn K (.ref a_Fixed_on_sample) = true)
    (a_Climb_on_ack' : PySem.W.findIn K (.ref c_Climb) "on_ack" = some (some (.ref a_Climb_on_ack)))
    (i_Climb_on_ack : PySem.W.isFn K (.ref a_Climb_on_ack) = true)
    (l_Climb_on_ack : K.lookup a_Climb_on_ack = some ⟨oc_Climb_on_ack, od_Climb_on_ack, .func (PySem.W.fnX "on_ack" "Climb.on_ack" (defArgs s_Climb_on_ack) (defBody s_Climb_on_ack) (defScope s_Climb_on_ack) [("__class__", cc_Climb_on_ack)] .none kV_Climb_on_ack dc_Climb_on_ack pm_Climb_on_ack an_Climb_on_ack (.ref cda_Climb_on_ack) ct_Climb_on_ack), sl_Climb_on_ack⟩)
    (e_Climb_on_ack : PySem.W.codeIn K (.ref cda_Climb_on_ack) "Climb.on_ack" = true)
    (k_Climb_on_ack : PySem.W.keepIn K (.ref a_Climb_on_ack) = true)
    (lk_Climb_on_ack : K.lookup cda_Climb_on_ack = some ⟨gl_Climb_on_ack, gd_Climb_on_ack, .fields gv_Climb_on_ack, gs_Climb_on_ack⟩)
    (lx_Climb_on_ack : K.lookup cc_Climb_on_ack = some ⟨hl_Climb_on_ack, hd'_Climb_on_ack, .cell (some (.ref c_Climb)), hs_Climb_on_ack⟩)
    (a_Climb_grow' : PySem.W.findIn K (.ref c_Climb) "grow" = some (some (.ref a_Climb_grow)))
    (i_Climb_grow : PySem.W.isFn K (.ref a_Climb_grow) = true)
    (l_Climb_grow : K.lookup a_Climb_grow = some ⟨oc_Climb_grow, od_Climb_grow, .func (PySem.W.fnOf "grow" "Climb.grow" (defArgs s_Climb_grow) (defBody s_Climb_grow) (defScope s_Climb_grow) .none kV_Climb_grow dc_Climb_grow pm_Climb_grow an_Climb_grow cd_Climb_grow ct_Climb_grow), sl_Climb_grow⟩)
    (e_Climb_grow : PySem.W.codeIn K cd_Climb_grow "Climb.grow" = true)
    (k_Climb_grow : PySem.W.keepIn K (.ref a_Climb_grow) = true)
    (a_Climb_step' : PySem.W.findIn K (.ref c_Climb) "_step" = some (some (.ref a_Climb_step)))
    (i_Climb_step : PySem.W.isFn K (.ref a_Climb_step) = true)
    (l_Climb_step : K.lookup a_Climb_step = some ⟨oc_Climb_step, od_Climb_step, .func (PySem.W.fnOf "_step" "Climb._step" (defArgs s_Climb_step) (defBody s_Climb_step) (defScope s_Climb_step) .none kV_Climb_step dc_Climb_step pm_Climb_step an_Climb_step cd_Climb_step ct_Climb_step), sl_Climb_step⟩)
    (e_Climb_step : PySem.W.codeIn K cd_Climb_step "Climb._step" = true)
    (k_Climb_step : PySem.W.keepIn K (.ref a_Climb_step) = true)
    (a_Climb_on_loss' : PySem.W.findIn K (.ref c_Climb) "on_loss" = some (some (.ref a_Climb_on_loss)))
    (i_Climb_on_loss : PySem.W.isFn K (.ref a_Climb_on_loss) = true)
    (l_Climb_on_loss : K.lookup a_Climb_on_loss = some ⟨oc_Climb_on_loss, od_Climb_on_loss, .func (PySem.W.fnX "on_loss" "Climb.on_loss" (defArgs s_Climb_on_loss) (defBody s_Climb_on_loss) (defScope s_Climb_on_loss) [("__class__", cc_Climb_on_loss)] .none kV_Climb_on_loss dc_Climb_on_loss pm_Climb_on_loss an_Climb_on_loss (.ref cda_Climb_on_loss) ct_Climb_on_loss), sl_Climb_on_loss⟩)
    (e_Climb_on_loss : PySem.W.codeIn K (.ref cda_Climb_on_loss) "Climb.on_loss" = true)
    (k_Climb_on_loss : PySem.W.keepIn K (.ref a_Climb_on_loss) = true)
    (lk_Climb_on_loss : K.lookup cda_Climb_on_loss = some ⟨gl_Climb_on_loss, gd_Climb_on_loss, .fields gv_Climb_on_loss, gs_Climb_on_loss⟩)
    (lx_Climb_on_loss : K.lookup cc_Climb_on_loss = some ⟨hl_Climb_on_loss, hd'_Climb_on_loss, .cell (some (.ref c_Climb)), hs_Climb_on_loss⟩)
    (a_Climb_on_expiry' : PySem.W.findIn K (.ref c_Climb) "on_expiry" = some (some (.ref a_Climb_on_expiry)))
    (i_Climb_on_expiry : PySem.W.isFn K (.ref a_Climb_on_expiry) = true)
    (l_Climb_on_expiry : K.lookup a_Climb_on_expiry = some ⟨oc_Climb_on_expiry, od_Climb_on_expiry, .func (PySem.W.fnX "on_expiry" "Climb.on_expiry" (defArgs s_Climb_on_expiry) (defBody s_Climb_on_expiry) (defScope s_Climb_on_expiry) [("__class__", cc_Climb_on_expiry)] .none kV_Climb_on_expiry dc_Climb_on_expiry pm_Climb_on_expiry an_Climb_on_expiry (.ref cda_Climb_on_expiry) ct_Climb_on_expiry), sl_Climb_on_expiry⟩)
    (e_Climb_on_expiry : PySem.W.codeIn K (.ref cda_Climb_on_expiry) "Climb.on_expiry" = true)
    (k_Climb_on_expiry : PySem.W.keepIn K (.ref a_Climb_on_expiry) = true)
    (lk_Climb_on_expiry : K.lookup cda_Climb_on_expiry = some ⟨gl_Climb_on_expiry, gd_Climb_on_expiry, .fields gv_Climb_on_expiry, gs_Climb_on_expiry⟩)
    (lx_Climb_on_expiry : K.lookup cc_Climb_on_expiry = some ⟨hl_Climb_on_expiry, hd'_Climb_on_expiry, .cell (some (.ref c_Climb)), hs_Climb_on_expiry⟩)
    (a_Climb_on_sample' : PySem.W.findIn K (.ref c_Climb) "on_sample" = some (some (.ref a_Climb_on_sample)))
    (i_Climb_on_sample : PySem.W.isFn K (.ref a_Climb_on_sample) = true)
    (l_Climb_on_sample : K.lookup a_Climb_on_sample = some ⟨oc_Climb_on_sample, od_Climb_on_sample, .func (PySem.W.fnX "on_sample" "Climb.on_sample" (defArgs s_Climb_on_sample) (defBody s_Climb_on_sample) (defScope s_Climb_on_sample) [("__class__", cc_Climb_on_sample)] .none kV_Climb_on_sample dc_Climb_on_sample pm_Climb_on_sample an_Climb_on_sample (.ref cda_Climb_on_sample) ct_Climb_on_sample), sl_Climb_on_sample⟩)
    (e_Climb_on_sample : PySem.W.codeIn K (.ref cda_Climb_on_sample) "Climb.on_sample" = true)
    (k_Climb_on_sample : PySem.W.keepIn K (.ref a_Climb_on_sample) = true)
    (lk_Climb_on_sample : K.lookup cda_Climb_on_sample = some ⟨gl_Climb_on_sample, gd_Climb_on_sample, .fields gv_Climb_on_sample, gs_Climb_on_sample⟩)
    (lx_Climb_on_sample : K.lookup cc_Climb_on_sample = some ⟨hl_Climb_on_sample, hd'_Climb_on_sample, .cell (some (.ref c_Climb)), hs_Climb_on_sample⟩)
    (a_is_kind' : PySem.W.nsIn K mainGlobals "is_kind" = some (some (.ref a_is_kind)))
    (l_is_kind : K.lookup a_is_kind = some ⟨oc_is_kind, od_is_kind, .func (PySem.W.fnOf "is_kind" "is_kind" (defArgs s_is_kind) (defBody s_is_kind) (defScope s_is_kind) .none kV_is_kind dc_is_kind pm_is_kind an_is_kind cd_is_kind ct_is_kind), sl_is_kind⟩)
    (e_is_kind : PySem.W.codeIn K cd_is_kind "is_kind" = true)
    (k_is_kind : PySem.W.keepIn K (.ref a_is_kind) = true)
    (a_Curve_init_' : PySem.W.findIn K (.ref c_Curve) "__init__" = some (some (.ref a_Curve_init_)))
    (i_Curve_init_ : PySem.W.isFn K (.ref a_Curve_init_) = true)
    (l_Curve_init_ : K.lookup a_Curve_init_ = some ⟨oc_Curve_init_, od_Curve_init_, .func (PySem.W.fnX "__init__" "Curve.__init__" (defArgs s_Curve_init_) (defBody s_Curve_init_) (defScope s_Curve_init_) [("__class__", cc_Curve_init_)] .none kV_Curve_init_ dc_Curve_init_ pm_Curve_init_ an_Curve_init_ (.ref cda_Curve_init_) ct_Curve_init_), sl_Curve_init_⟩)
    (e_Curve_init_ : PySem.W.codeIn K (.ref cda_Curve_init_) "Curve.__init__" = true)
    (k_Curve_init_ : PySem.W.keepIn K (.ref a_Curve_init_) = true)
    (lk_Curve_init_ : K.lookup cda_Curve_init_ = some ⟨gl_Curve_init_, gd_Curve_init_, .fields gv_Curve_init_, gs_Curve_init_⟩)
    (lx_Curve_init_ : K.lookup cc_Curve_init_ = some ⟨hl_Curve_init_, hd'_Curve_init_, .cell (some (.ref c_Curve)), hs_Curve_init_⟩)
    (a_Curve_on_ack' : PySem.W.findIn K (.ref c_Curve) "on_ack" = some (some (.ref a_Curve_on_ack)))
    (i_Curve_on_ack : PySem.W.isFn K (.ref a_Curve_on_ack) = true)
    (l_Curve_on_ack : K.lookup a_Curve_on_ack = some ⟨oc_Curve_on_ack, od_Curve_on_ack, .func (PySem.W.fnX "on_ack" "Curve.on_ack" (defArgs s_Curve_on_ack) (defBody s_Curve_on_ack) (defScope s_Curve_on_ack) [("__class__", cc_Curve_on_ack)] .none kV_Curve_on_ack dc_Curve_on_ack pm_Curve_on_ack an_Curve_on_ack (.ref cda_Curve_on_ack) ct_Curve_on_ack), sl_Curve_on_ack⟩)
    (e_Curve_on_ack : PySem.W.codeIn K (.ref cda_Curve_on_ack) "Curve.on_ack" = true)
    (k_Curve_on_ack : PySem.W.keepIn K (.ref a_Curve_on_ack) = true)
    (lk_Curve_on_ack : K.lookup cda_Curve_on_ack = some ⟨gl_Curve_on_ack, gd_Curve_on_ack, .fields gv_Curve_on_ack, gs_Curve_on_ack⟩)
    (lx_Curve_on_ack : K.lookup cc_Curve_on_ack = some ⟨hl_Curve_on_ack, hd'_Curve_on_ack, .cell (some (.ref c_Curve)), hs_Curve_on_ack⟩)
    (a_Curve_grow' : PySem.W.findIn K (.ref c_Curve) "grow" = some (some (.ref a_Curve_grow)))
    (i_Curve_grow : PySem.W.isFn K (.ref a_Curve_grow) = true)
    (l_Curve_grow : K.lookup a_Curve_grow = some ⟨oc_Curve_grow, od_Curve_grow, .func (PySem.W.fnX "grow" "Curve.grow" (defArgs s_Curve_grow) (defBody s_Curve_grow) (defScope s_Curve_grow) [("__class__", cc_Curve_grow)] .none kV_Curve_grow dc_Curve_grow pm_Curve_grow an_Curve_grow (.ref cda_Curve_grow) ct_Curve_grow), sl_Curve_grow⟩)
    (e_Curve_grow : PySem.W.codeIn K (.ref cda_Curve_grow) "Curve.grow" = true)
    (k_Curve_grow : PySem.W.keepIn K (.ref a_Curve_grow) = true)
    (lk_Curve_grow : K.lookup cda_Curve_grow = some ⟨gl_Curve_grow, gd_Curve_grow, .fields gv_Curve_grow, gs_Curve_grow⟩)
    (lx_Curve_grow : K.lookup cc_Curve_grow = some ⟨hl_Curve_grow, hd'_Curve_grow, .cell (some (.ref c_Curve)), hs_Curve_grow⟩)
    (a_Curve_on_loss' : PySem.W.findIn K (.ref c_Curve) "on_loss" = some (some (.ref a_Curve_on_loss)))
    (i_Curve_on_loss : PySem.W.isFn K (.ref a_Curve_on_loss) = true)
    (l_Curve_on_loss : K.lookup a_Curve_on_loss = some ⟨oc_Curve_on_loss, od_Curve_on_loss, .func (PySem.W.fnOf "on_loss" "Curve.on_loss" (defArgs s_Curve_on_loss) (defBody s_Curve_on_loss) (defScope s_Curve_on_loss) .none kV_Curve_on_loss dc_Curve_on_loss pm_Curve_on_loss an_Curve_on_loss cd_Curve_on_loss ct_Curve_on_loss), sl_Curve_on_loss⟩)
    (e_Curve_on_loss : PySem.W.codeIn K cd_Curve_on_loss "Curve.on_loss" = true)
    (k_Curve_on_loss : PySem.W.keepIn K (.ref a_Curve_on_loss) = true)
    (a_Curve_span_to' : PySem.W.findIn K (.ref c_Curve) "_span_to" = some (some (.ref a_Curve_span_to)))
    (i_Curve_span_to : PySem.W.isFn K (.ref a_Curve_span_to) = true)
    (l_Curve_span_to : K.lookup a_Curve_span_to = some ⟨oc_Curve_span_to, od_Curve_span_to, .func (PySem.W.fnOf "_span_to" "Curve._span_to" (defArgs s_Curve_span_to) (defBody s_Curve_span_to) (defScope s_Curve_span_to) .none kV_Curve_span_to dc_Curve_span_to pm_Curve_span_to an_Curve_span_to cd_Curve_span_to ct_Curve_span_to), sl_Curve_span_to⟩)
    (e_Curve_span_to : PySem.W.codeIn K cd_Curve_span_to "Curve._span_to" = true)
    (k_Curve_span_to : PySem.W.keepIn K (.ref a_Curve_span_to) = true)
    (a_Curve_on_expiry' : PySem.W.findIn K (.ref c_Curve) "on_expiry" = some (some (.ref a_Curve_on_expiry)))
    (i_Curve_on_expiry : PySem.W.isFn K (.ref a_Curve_on_expiry) = true)
    (l_Curve_on_expiry : K.lookup a_Curve_on_expiry = some ⟨oc_Curve_on_expiry, od_Curve_on_expiry, .func (PySem.W.fnX "on_expiry" "Curve.on_expiry" (defArgs s_Curve_on_expiry) (defBody s_Curve_on_expiry) (defScope s_Curve_on_expiry) [("__class__", cc_Curve_on_expiry)] .none kV_Curve_on_expiry dc_Curve_on_expiry pm_Curve_on_expiry an_Curve_on_expiry (.ref cda_Curve_on_expiry) ct_Curve_on_expiry), sl_Curve_on_expiry⟩)
    (e_Curve_on_expiry : PySem.W.codeIn K (.ref cda_Curve_on_expiry) "Curve.on_expiry" = true)
    (k_Curve_on_expiry : PySem.W.keepIn K (.ref a_Curve_on_expiry) = true)
    (lk_Curve_on_expiry : K.lookup cda_Curve_on_expiry = some ⟨gl_Curve_on_expiry, gd_Curve_on_expiry, .fields gv_Curve_on_expiry, gs_Curve_on_expiry⟩)
    (lx_Curve_on_expiry : K.lookup cc_Curve_on_expiry = some ⟨hl_Curve_on_expiry, hd'_Curve_on_expiry, .cell (some (.ref c_Curve)), hs_Curve_on_expiry⟩)
    (a_Curve_on_sample' : PySem.W.findIn K (.ref c_Curve) "on_sample" = some (some (.ref a_Curve_on_sample)))
    (i_Curve_on_sample : PySem.W.isFn K (.ref a_Curve_on_sample) = true)
    (l_Curve_on_sample : K.lookup a_Curve_on_sample = some ⟨oc_Curve_on_sample, od_Curve_on_sample, .func (PySem.W.fnX "on_sample" "Curve.on_sample" (defArgs s_Curve_on_sample) (defBody s_Curve_on_sample) (defScope s_Curve_on_sample) [("__class__", cc_Curve_on_sample)] .none kV_Curve_on_sample dc_Curve_on_sample pm_Curve_on_sample an_Curve_on_sample (.ref cda_Curve_on_sample) ct_Curve_on_sample), sl_Curve_on_sample⟩)
    (e_Curve_on_sample : PySem.W.codeIn K (.ref cda_Curve_on_sample) "Curve.on_sample" = true)
    (k_Curve_on_sample : PySem.W.keepIn K (.ref a_Curve_on_sample) = true)
    (lk_Curve_on_sample : K.lookup cda_Curve_on_sample = some ⟨gl_Curve_on_sample, gd_Curve_on_sample, .fields gv_Curve_on_sample, gs_Curve_on_sample⟩)
    (lx_Curve_on_sample : K.lookup cc_Curve_on_sample = some ⟨hl_Curve_on_sample, hd'_Curve_on_sample, .cell (some (.ref c_Curve)), hs_Curve_on_sample⟩)
    (a_Delay_init_' : PySem.W.findIn K (.ref c_Delay) "__init__" = some (some (.ref a_Delay_init_)))
    (i_Delay_init_ : PySem.W.isFn K (.ref a_Delay_init_) = true)
    (l_Delay_init_ : K.lookup a_Delay_init_ = some ⟨oc_Delay_init_, od_Delay_init_, .func (PySem.W.fnX "__init__" "Delay.__init__" (defArgs s_Delay_init_) (defBody s_Delay_init_) (defScope s_Delay_init_) [("__class__", cc_Delay_init_)] .none kV_Delay_init_ dc_Delay_init_ pm_Delay_init_ an_Delay_init_ (.ref cda_Delay_init_) ct_Delay_init_), sl_Delay_init_⟩)
    (e_Delay_init_ : PySem.W.codeIn K (.ref cda_Delay_init_) "Delay.__init__" = true)
    (k_Delay_init_ : PySem.W.keepIn K (.ref a_Delay_init_) = true)
    (lk_Delay_init_ : K.lookup cda_Delay_init_ = some ⟨gl_Delay_init_, gd_Delay_init_, .fields gv_Delay_init_, gs_Delay_init_⟩)
    (lx_Delay_init_ : K.lookup cc_Delay_init_ = some ⟨hl_Delay_init_, hd'_Delay_init_, .cell (some (.ref c_Delay)), hs_Delay_init_⟩)
    (a_Delay_on_ack' : PySem.W.findIn K (.ref c_Delay) "on_ack" = some (some (.ref a_Delay_on_ack)))
    (i_Delay_on_ack : PySem.W.isFn K (.ref a_Delay_on_ack) = true)
    (l_Delay_on_ack : K.lookup a_Delay_on_ack = some ⟨oc_Delay_on_ack, od_Delay_on_ack, .func (PySem.W.fnX "on_ack" "Delay.on_ack" (defArgs s_Delay_on_ack) (defBody s_Delay_on_ack) (defScope s_Delay_on_ack) [("__class__", cc_Delay_on_ack)] .none kV_Delay_on_ack dc_Delay_on_ack pm_Delay_on_ack an_Delay_on_ack (.ref cda_Delay_on_ack) ct_Delay_on_ack), sl_Delay_on_ack⟩)
    (e_Delay_on_ack : PySem.W.codeIn K (.ref cda_Delay_on_ack) "Delay.on_ack" = true)
    (k_Delay_on_ack : PySem.W.keepIn K (.ref a_Delay_on_ack) = true)
    (lk_Delay_on_ack : K.lookup cda_Delay_on_ack = some ⟨gl_Delay_on_ack, gd_Delay_on_ack, .fields gv_Delay_on_ack, gs_Delay_on_ack⟩)
    (lx_Delay_on_ack : K.lookup cc_Delay_on_ack = some ⟨hl_Delay_on_ack, hd'_Delay_on_ack, .cell (some (.ref c_Delay)), hs_Delay_on_ack⟩)
    (a_Delay_grow' : PySem.W.findIn K (.ref c_Delay) "grow" = some (some (.ref a_Delay_grow)))
    (i_Delay_grow : PySem.W.isFn K (.ref a_Delay_grow) = true)
    (l_Delay_grow : K.lookup a_Delay_grow = some ⟨oc_Delay_grow, od_Delay_grow, .func (PySem.W.fnX "grow" "Delay.grow" (defArgs s_Delay_grow) (defBody s_Delay_grow) (defScope s_Delay_grow) [("__class__", cc_Delay_grow)] .none kV_Delay_grow dc_Delay_grow pm_Delay_grow an_Delay_grow (.ref cda_Delay_grow) ct_Delay_grow), sl_Delay_grow⟩)
    (e_Delay_grow : PySem.W.codeIn K (.ref cda_Delay_grow) "Delay.grow" = true)
    (k_Delay_grow : PySem.W.keepIn K (.ref a_Delay_grow) = true)
    (lk_Delay_grow : K.lookup cda_Delay_grow = some ⟨gl_Delay_grow, gd_Delay_grow, .fields gv_Delay_grow, gs_Delay_grow⟩)
    (lx_Delay_grow : K.lookup cc_Delay_grow = some ⟨hl_Delay_grow, hd'_Delay_grow, .cell (some (.ref c_Delay)), hs_Delay_grow⟩)
    (a_Delay_step' : PySem.W.findIn K (.ref c_Delay) "_step" = some (some (.ref a_Delay_step)))
    (i_Delay_step : PySem.W.isFn K (.ref a_Delay_step) = true)
    (l_Delay_step : K.lookup a_Delay_step = some ⟨oc_Delay_step, od_Delay_step, .func (PySem.W.fnOf "_step" "Delay._step" (defArgs s_Delay_step) (defBody s_Delay_step) (defScope s_Delay_step) .none kV_Delay_step dc_Delay_step pm_Delay_step an_Delay_step cd_Delay_step ct_Delay_step), sl_Delay_step⟩)
    (e_Delay_step : PySem.W.codeIn K cd_Delay_step "Delay._step" = true)
    (k_Delay_step : PySem.W.keepIn K (.ref a_Delay_step) = true)
    (a_Delay_surplus' : PySem.W.findIn K (.ref c_Delay) "_surplus" = some (some (.ref a_Delay_surplus)))
    (i_Delay_surplus : PySem.W.isFn K (.ref a_Delay_surplus) = true)
    (l_Delay_surplus : K.lookup a_Delay_surplus = some ⟨oc_Delay_surplus, od_Delay_surplus, .func (PySem.W.fnOf "_surplus" "Delay._surplus" (defArgs s_Delay_surplus) (defBody s_Delay_surplus) (defScope s_Delay_surplus) .none kV_Delay_surplus dc_Delay_surplus pm_Delay_surplus an_Delay_surplus cd_Delay_surplus ct_Delay_surplus), sl_Delay_surplus⟩)
    (e_Delay_surplus : PySem.W.codeIn K cd_Delay_surplus "Delay._surplus" = true)
    (k_Delay_surplus : PySem.W.keepIn K (.ref a_Delay_surplus) = true)
    (a_Delay_on_loss' : PySem.W.findIn K (.ref c_Delay) "on_loss" = some (some (.ref a_Delay_on_loss)))
    (i_Delay_on_loss : PySem.W.isFn K (.ref a_Delay_on_loss) = true)
    (l_Delay_on_loss : K.lookup a_Delay_on_loss = some ⟨oc_Delay_on_loss, od_Delay_on_loss, .func (PySem.W.fnX "on_loss" "Delay.on_loss" (defArgs s_Delay_on_loss) (defBody s_Delay_on_loss) (defScope s_Delay_on_loss) [("__class__", cc_Delay_on_loss)] .none kV_Delay_on_loss dc_Delay_on_loss pm_Delay_on_loss an_Delay_on_loss (.ref cda_Delay_on_loss) ct_Delay_on_loss), sl_Delay_on_loss⟩)
    (e_Delay_on_loss : PySem.W.codeIn K (.ref cda_Delay_on_loss) "Delay.on_loss" = true)
    (k_Delay_on_loss : PySem.W.keepIn K (.ref a_Delay_on_loss) = true)
    (lk_Delay_on_loss : K.lookup cda_Delay_on_loss = some ⟨gl_Delay_on_loss, gd_Delay_on_loss, .fields gv_Delay_on_loss, gs_Delay_on_loss⟩)
    (lx_Delay_on_loss : K.lookup cc_Delay_on_loss = some ⟨hl_Delay_on_loss, hd'_Delay_on_loss, .cell (some (.ref c_Delay)), hs_Delay_on_loss⟩)
    (a_Delay_on_expiry' : PySem.W.findIn K (.ref c_Delay) "on_expiry" = some (some (.ref a_Delay_on_expiry)))
    (i_Delay_on_expiry : PySem.W.isFn K (.ref a_Delay_on_expiry) = true)
    (l_Delay_on_expiry : K.lookup a_Delay_on_expiry = some ⟨oc_Delay_on_expiry, od_Delay_on_expiry, .func (PySem.W.fnX "on_expiry" "Delay.on_expiry" (defArgs s_Delay_on_expiry) (defBody s_Delay_on_expiry) (defScope s_Delay_on_expiry) [("__class__", cc_Delay_on_expiry)] .none kV_Delay_on_expiry dc_Delay_on_expiry pm_Delay_on_expiry an_Delay_on_expiry (.ref cda_Delay_on_expiry) ct_Delay_on_expiry), sl_Delay_on_expiry⟩)
    (e_Delay_on_expiry : PySem.W.codeIn K (.ref cda_Delay_on_expiry) "Delay.on_expiry" = true)
    (k_Delay_on_expiry : PySem.W.keepIn K (.ref a_Delay_on_expiry) = true)
    (lk_Delay_on_expiry : K.lookup cda_Delay_on_expiry = some ⟨gl_Delay_on_expiry, gd_Delay_on_expiry, .fields gv_Delay_on_expiry, gs_Delay_on_expiry⟩)
    (lx_Delay_on_expiry : K.lookup cc_Delay_on_expiry = some ⟨hl_Delay_on_expiry, hd'_Delay_on_expiry, .cell (some (.ref c_Delay)), hs_Delay_on_expiry⟩)
    (a_Delay_on_sample' : PySem.W.findIn K (.ref c_Delay) "on_sample" = some (some (.ref a_Delay_on_sample)))
    (i_Delay_on_sample : PySem.W.isFn K (.ref a_Delay_on_sample) = true)
    (l_Delay_on_sample : K.lookup a_Delay_on_sample = some ⟨oc_Delay_on_sample, od_Delay_on_sample, .func (PySem.W.fnOf "on_sample" "Delay.on_sample" (defArgs s_Delay_on_sample) (defBody s_Delay_on_sample) (defScope s_Delay_on_sample) .none kV_Delay_on_sample dc_Delay_on_sample pm_Delay_on_sample an_Delay_on_sample cd_Delay_on_sample ct_Delay_on_sample), sl_Delay_on_sample⟩)
    (e_Delay_on_sample : PySem.W.codeIn K cd_Delay_on_sample "Delay.on_sample" = true)
    (k_Delay_on_sample : PySem.W.keepIn K (.ref a_Delay_on_sample) = true)
    (a_control_of' : PySem.W.nsIn K mainGlobals "control_of" = some (some (.ref a_control_of)))
    (l_control_of : K.lookup a_control_of = some ⟨oc_control_of, od_control_of, .func (PySem.W.fnOf "control_of" "control_of" (defArgs s_control_of) (defBody s_control_of) (defScope s_control_of) .none kV_control_of dc_control_of pm_control_of an_control_of cd_control_of ct_control_of), sl_control_of⟩)
    (e_control_of : PySem.W.codeIn K cd_control_of "control_of" = true)
    (k_control_of : PySem.W.keepIn K (.ref a_control_of) = true)
    (a__law_cell' : PySem.W.nsIn K mainGlobals "_law_cell" = some (some (.ref a__law_cell)))
    (l__law_cell : K.lookup a__law_cell = some ⟨oc__law_cell, od__law_cell, .func (PySem.W.fnOf "_law_cell" "_law_cell" (defArgs s__law_cell) (defBody s__law_cell) (defScope s__law_cell) .none kV__law_cell dc__law_cell pm__law_cell an__law_cell cd__law_cell ct__law_cell), sl__law_cell⟩)
    (e__law_cell : PySem.W.codeIn K cd__law_cell "_law_cell" = true)
    (k__law_cell : PySem.W.keepIn K (.ref a__law_cell) = true)
    (a__law_rounds' : PySem.W.nsIn K mainGlobals "_law_rounds" = some (some (.ref a__law_rounds)))
    (l__law_rounds : K.lookup a__law_rounds = some ⟨oc__law_rounds, od__law_rounds, .func (PySem.W.fnOf "_law_rounds" "_law_rounds" (defArgs s__law_rounds) (defBody s__law_rounds) (defScope s__law_rounds) .none kV__law_rounds dc__law_rounds pm__law_rounds an__law_rounds cd__law_rounds ct__law_rounds), sl__law_rounds⟩)
    (e__law_rounds : PySem.W.codeIn K cd__law_rounds "_law_rounds" = true)
    (k__law_rounds : PySem.W.keepIn K (.ref a__law_rounds) = true)
    (a__law_box' : PySem.W.nsIn K mainGlobals "_law_box" = some (some (.ref a__law_box)))
    (l__law_box : K.lookup a__law_box = some ⟨oc__law_box, od__law_box, .func (PySem.W.fnOf "_law_box" "_law_box" (defArgs s__law_box) (defBody s__law_box) (defScope s__law_box) .none kV__law_box dc__law_box pm__law_box an__law_box cd__law_box ct__law_box), sl__law_box⟩)
    (e__law_box : PySem.W.codeIn K cd__law_box "_law_box" = true)
    (k__law_box : PySem.W.keepIn K (.ref a__law_box) = true)
    (a__law_draw' : PySem.W.nsIn K mainGlobals "_law_draw" = some (some (.ref a__law_draw)))
    (l__law_draw : K.lookup a__law_draw = some ⟨oc__law_draw, od__law_draw, .func (PySem.W.fnOf "_law_draw" "_law_draw" (defArgs s__law_draw) (defBody s__law_draw) (defScope s__law_draw) .none kV__law_draw dc__law_draw pm__law_draw an__law_draw cd__law_draw ct__law_draw), sl__law_draw⟩)
    (e__law_draw : PySem.W.codeIn K cd__law_draw "_law_draw" = true)
    (k__law_draw : PySem.W.keepIn K (.ref a__law_draw) = true)
    (a__law_unit' : PySem.W.nsIn K mainGlobals "_law_unit" = some (some (.ref a__law_unit)))
    (l__law_unit : K.lookup a__law_unit = some ⟨oc__law_unit, od__law_unit, .func (PySem.W.fnOf "_law_unit" "_law_unit" (defArgs s__law_unit) (defBody s__law_unit) (defScope s__law_unit) .none kV__law_unit dc__law_unit pm__law_unit an__law_unit cd__law_unit ct__law_unit), sl__law_unit⟩)
    (e__law_unit : PySem.W.codeIn K cd__law_unit "_law_unit" = true)
    (k__law_unit : PySem.W.keepIn K (.ref a__law_unit) = true)
    (a__law_whole' : PySem.W.nsIn K mainGlobals "_law_whole" = some (some (.ref a__law_whole)))
    (l__law_whole : K.lookup a__law_whole = some ⟨oc__law_whole, od__law_whole, .func (PySem.W.fnOf "_law_whole" "_law_whole" (defArgs s__law_whole) (defBody s__law_whole) (defScope s__law_whole) .none kV__law_whole dc__law_whole pm__law_whole an__law_whole cd__law_whole ct__law_whole), sl__law_whole⟩)
    (e__law_whole : PySem.W.codeIn K cd__law_whole "_law_whole" = true)
    (k__law_whole : PySem.W.keepIn K (.ref a__law_whole) = true)
    (a__law_truth' : PySem.W.nsIn K mainGlobals "_law_truth" = some (some (.ref a__law_truth)))
    (l__law_truth : K.lookup a__law_truth = some ⟨oc__law_truth, od__law_truth, .func (PySem.W.fnOf "_law_truth" "_law_truth" (defArgs s__law_truth) (defBody s__law_truth) (defScope s__law_truth) .none kV__law_truth dc__law_truth pm__law_truth an__law_truth cd__law_truth ct__law_truth), sl__law_truth⟩)
    (e__law_truth : PySem.W.codeIn K cd__law_truth "_law_truth" = true)
    (k__law_truth : PySem.W.keepIn K (.ref a__law_truth) = true)
    (a__law_base' : PySem.W.nsIn K mainGlobals "_law_base" = some (some (.ref a__law_base)))
    (l__law_base : K.lookup a__law_base = some ⟨oc__law_base, od__law_base, .func (PySem.W.fnOf "_law_base" "_law_base" (defArgs s__law_base) (defBody s__law_base) (defScope s__law_base) .none kV__law_base dc__law_base pm__law_base an__law_base cd__law_base ct__law_base), sl__law_base⟩)
    (e__law_base : PySem.W.codeIn K cd__law_base "_law_base" = true)
    (k__law_base : PySem.W.keepIn K (.ref a__law_base) = true)
    (a__law_make' : PySem.W.nsIn K mainGlobals "_law_make" = some (some (.ref a__law_make)))
    (l__law_make : K.lookup a__law_make = some ⟨oc__law_make, od__law_make, .func (PySem.W.fnOf "_law_make" "_law_make" (defArgs s__law_make) (defBody s__law_make) (defScope s__law_make) .none kV__law_make dc__law_make pm__law_make an__law_make cd__law_make ct__law_make), sl__law_make⟩)
    (e__law_make : PySem.W.codeIn K cd__law_make "_law_make" = true)
    (k__law_make : PySem.W.keepIn K (.ref a__law_make) = true)
    (a__law_word' : PySem.W.nsIn K mainGlobals "_law_word" = some (some (.ref a__law_word)))
    (l__law_word : K.lookup a__law_word = some ⟨oc__law_word, od__law_word, .func (PySem.W.fnOf "_law_word" "_law_word" (defArgs s__law_word) (defBody s__law_word) (defScope s__law_word) .none kV__law_word dc__law_word pm__law_word an__law_word cd__law_word ct__law_word), sl__law_word⟩)
    (e__law_word : PySem.W.codeIn K cd__law_word "_law_word" = true)
    (k__law_word : PySem.W.keepIn K (.ref a__law_word) = true)
    (a__law_times' : PySem.W.nsIn K mainGlobals "_law_times" = some (some (.ref a__law_times)))
    (l__law_times : K.lookup a__law_times = some ⟨oc__law_times, od__law_times, .func (PySem.W.fnOf "_law_times" "_law_times" (defArgs s__law_times) (defBody s__law_times) (defScope s__law_times) .none kV__law_times dc__law_times pm__law_times an__law_times cd__law_times ct__law_times), sl__law_times⟩)
    (e__law_times : PySem.W.codeIn K cd__law_times "_law_times" = true)
    (k__law_times : PySem.W.keepIn K (.ref a__law_times) = true)
    (a__law_classed' : PySem.W.nsIn K mainGlobals "_law_classed" = some (some (.ref a__law_classed)))
    (l__law_classed : K.lookup a__law_classed = some ⟨oc__law_classed, od__law_classed, .func (PySem.W.fnOf "_law_classed" "_law_classed" (defArgs s__law_classed) (defBody s__law_classed) (defScope s__law_classed) .none kV__law_classed dc__law_classed pm__law_classed an__law_classed cd__law_classed ct__law_classed), sl__law_classed⟩)
    (e__law_classed : PySem.W.codeIn K cd__law_classed "_law_classed" = true)
    (k__law_classed : PySem.W.keepIn K (.ref a__law_classed) = true)
    (a__law_fresh' : PySem.W.nsIn K mainGlobals "_law_fresh" = some (some (.ref a__law_fresh)))
    (l__law_fresh : K.lookup a__law_fresh = some ⟨oc__law_fresh, od__law_fresh, .func (PySem.W.fnOf "_law_fresh" "_law_fresh" (defArgs s__law_fresh) (defBody s__law_fresh) (defScope s__law_fresh) .none kV__law_fresh dc__law_fresh pm__law_fresh an__law_fresh cd__law_fresh ct__law_fresh), sl__law_fresh⟩)
    (e__law_fresh : PySem.W.codeIn K cd__law_fresh "_law_fresh" = true)
    (k__law_fresh : PySem.W.keepIn K (.ref a__law_fresh) = true)
    (a__law_bad' : PySem.W.nsIn K mainGlobals "_law_bad" = some (some (.ref a__law_bad)))
    (l__law_bad : K.lookup a__law_bad = some ⟨oc__law_bad, od__law_bad, .func (PySem.W.fnOf "_law_bad" "_law_bad" (defArgs s__law_bad) (defBody s__law_bad) (defScope s__law_bad) .none kV__law_bad dc__law_bad pm__law_bad an__law_bad cd__law_bad ct__law_bad), sl__law_bad⟩)
    (e__law_bad : PySem.W.codeIn K cd__law_bad "_law_bad" = true)
    (k__law_bad : PySem.W.keepIn K (.ref a__law_bad) = true)
    (a__law_refusal' : PySem.W.nsIn K mainGlobals "_law_refusal" = some (some (.ref a__law_refusal)))
    (l__law_refusal : K.lookup a__law_refusal = some ⟨oc__law_refusal, od__law_refusal, .func (PySem.W.fnOf "_law_refusal" "_law_refusal" (defArgs s__law_refusal) (defBody s__law_refusal) (defScope s__law_refusal) .none kV__law_refusal dc__law_refusal pm__law_refusal an__law_refusal cd__law_refusal ct__law_refusal), sl__law_refusal⟩)
    (e__law_refusal : PySem.W.codeIn K cd__law_refusal "_law_refusal" = true)
    (k__law_refusal : PySem.W.keepIn K (.ref a__law_refusal) = true)
    (a__law_stranger' : PySem.W.nsIn K mainGlobals "_law_stranger" = some (some (.ref a__law_stranger)))
    (l__law_stranger : K.lookup a__law_stranger = some ⟨oc__law_stranger, od__law_stranger, .func (PySem.W.fnOf "_law_stranger" "_law_stranger" (defArgs s__law_stranger) (defBody s__law_stranger) (defScope s__law_stranger) .none kV__law_stranger dc__law_stranger pm__law_stranger an__law_stranger cd__law_stranger ct__law_stranger), sl__law_stranger⟩)
    (e__law_stranger : PySem.W.codeIn K cd__law_stranger "_law_stranger" = true)
    (k__law_stranger : PySem.W.keepIn K (.ref a__law_stranger) = true)
    (a__law_apart' : PySem.W.nsIn K mainGlobals "_law_apart" = some (some (.ref a__law_apart)))
    (l__law_apart : K.lookup a__law_apart = some ⟨oc__law_apart, od__law_apart, .func (PySem.W.fnOf "_law_apart" "_law_apart" (defArgs s__law_apart) (defBody s__law_apart) (defScope s__law_apart) .none kV__law_apart dc__law_apart pm__law_apart an__law_apart cd__law_apart ct__law_apart), sl__law_apart⟩)
    (e__law_apart : PySem.W.codeIn K cd__law_apart "_law_apart" = true)
    (k__law_apart : PySem.W.keepIn K (.ref a__law_apart) = true)
    (a__law_units' : PySem.W.nsIn K mainGlobals "_law_units" = some (some (.ref a__law_units)))
    (l__law_units : K.lookup a__law_units = some ⟨oc__law_units, od__law_units, .func (PySem.W.fnOf "_law_units" "_law_units" (defArgs s__law_units) (defBody s__law_units) (defScope s__law_units) .none kV__law_units dc__law_units pm__law_units an__law_units cd__law_units ct__law_units), sl__law_units⟩)
    (e__law_units : PySem.W.codeIn K cd__law_units "_law_units" = true)
    (k__law_units : PySem.W.keepIn K (.ref a__law_units) = true)
    (a__law_pieces' : PySem.W.nsIn K mainGlobals "_law_pieces" = some (some (.ref a__law_pieces)))
    (l__law_pieces : K.lookup a__law_pieces = some ⟨oc__law_pieces, od__law_pieces, .func (PySem.W.fnOf "_law_pieces" "_law_pieces" (defArgs s__law_pieces) (defBody s__law_pieces) (defScope s__law_pieces) .none kV__law_pieces dc__law_pieces pm__law_pieces an__law_pieces cd__law_pieces ct__law_pieces), sl__law_pieces⟩)
    (e__law_pieces : PySem.W.codeIn K cd__law_pieces "_law_pieces" = true)
    (k__law_pieces : PySem.W.keepIn K (.ref a__law_pieces) = true)
    (a__law_kinds' : PySem.W.nsIn K mainGlobals "_law_kinds" = some (some (.ref a__law_kinds)))
    (l__law_kinds : K.lookup a__law_kinds = some ⟨oc__law_kinds, od__law_kinds, .func (PySem.W.fnOf "_law_kinds" "_law_kinds" (defArgs s__law_kinds) (defBody s__law_kinds) (defScope s__law_kinds) .none kV__law_kinds dc__law_kinds pm__law_kinds an__law_kinds cd__law_kinds ct__law_kinds), sl__law_kinds⟩)
    (e__law_kinds : PySem.W.codeIn K cd__law_kinds "_law_kinds" = true)
    (k__law_kinds : PySem.W.keepIn K (.ref a__law_kinds) = true)
    (a__law_refused' : PySem.W.nsIn K mainGlobals "_law_refused" = some (some (.ref a__law_refused)))
    (l__law_refused : K.lookup a__law_refused = some ⟨oc__law_refused, od__law_refused, .func (PySem.W.fnOf "_law_refused" "_law_refused" (defArgs s__law_refused) (defBody s__law_refused) (defScope s__law_refused) .none kV__law_refused dc__law_refused pm__law_refused an__law_refused cd__law_refused ct__law_refused), sl__law_refused⟩)
    (e__law_refused : PySem.W.codeIn K cd__law_refused "_law_refused" = true)
    (k__law_refused : PySem.W.keepIn K (.ref a__law_refused) = true)
    (a__law_counts' : PySem.W.nsIn K mainGlobals "_law_counts" = some (some (.ref a__law_counts)))
    (l__law_counts : K.lookup a__law_counts = some ⟨oc__law_counts, od__law_counts, .func (PySem.W.fnOf "_law_counts" "_law_counts" (defArgs s__law_counts) (defBody s__law_counts) (defScope s__law_counts) .none kV__law_counts dc__law_counts pm__law_counts an__law_counts cd__law_counts ct__law_counts), sl__law_counts⟩)
    (e__law_counts : PySem.W.codeIn K cd__law_counts "_law_counts" = true)
    (k__law_counts : PySem.W.keepIn K (.ref a__law_counts) = true)
    (a__law_names' : PySem.W.nsIn K mainGlobals "_law_names" = some (some (.ref a__law_names)))
    (l__law_names : K.lookup a__law_names = some ⟨oc__law_names, od__law_names, .func (PySem.W.fnOf "_law_names" "_law_names" (defArgs s__law_names) (defBody s__law_names) (defScope s__law_names) .none kV__law_names dc__law_names pm__law_names an__law_names cd__law_names ct__law_names), sl__law_names⟩)
    (e__law_names : PySem.W.codeIn K cd__law_names "_law_names" = true)
    (k__law_names : PySem.W.keepIn K (.ref a__law_names) = true)
    (a__law_question' : PySem.W.nsIn K mainGlobals "_law_question" = some (some (.ref a__law_question)))
    (l__law_question : K.lookup a__law_question = some ⟨oc__law_question, od__law_question, .func (PySem.W.fnOf "_law_question" "_law_question" (defArgs s__law_question) (defBody s__law_question) (defScope s__law_question) .none kV__law_question dc__law_question pm__law_question an__law_question cd__law_question ct__law_question), sl__law_question⟩)
    (e__law_question : PySem.W.codeIn K cd__law_question "_law_question" = true)
    (k__law_question : PySem.W.keepIn K (.ref a__law_question) = true)
    (a_law' : PySem.W.nsIn K mainGlobals "law" = some (some (.ref a_law)))
    (l_law : K.lookup a_law = some ⟨oc_law, od_law, .func (PySem.W.fnOf "law" "law" (defArgs s_law) (defBody s_law) (defScope s_law) .none kV_law dc_law pm_law an_law cd_law ct_law), sl_law⟩)
    (e_law : PySem.W.codeIn K cd_law "law" = true)
    (k_law : PySem.W.keepIn K (.ref a_law) = true)
    (ih_Fixed_starting : PySem.W.findIn K (.ref c_Fixed) "starting" = some (some (.ref p_Control_starting)))
    (ih_Climb_init_ : PySem.W.findIn K (.ref c_Climb) "__init__" = some (some (.ref a_Control_init_)))
    (mk_Climb : PySem.W.makesIn K c_Climb = true)
    (kc_Climb : PySem.W.keepIn K (.ref c_Climb) = true)
    (ih_Climb_starting : PySem.W.findIn K (.ref c_Climb) "starting" = some (some (.ref p_Control_starting)))
    (ih_Climb_set_window : PySem.W.findIn K (.ref c_Climb) "_set_window" = some (some (.ref a_Control_set_window)))
    (ih_Curve_starting : PySem.W.findIn K (.ref c_Curve) "starting" = some (some (.ref p_Control_starting)))
    (ih_Curve_set_window : PySem.W.findIn K (.ref c_Curve) "_set_window" = some (some (.ref a_Control_set_window)))
    (ih_Curve_step : PySem.W.findIn K (.ref c_Curve) "_step" = some (some (.ref a_Climb_step)))
    (ih_Delay_starting : PySem.W.findIn K (.ref c_Delay) "starting" = some (some (.ref p_Control_starting)))
    (ih_Delay_set_window : PySem.W.findIn K (.ref c_Delay) "_set_window" = some (some (.ref a_Control_set_window)))
    (ci_Climb : PySem.W.clsIn K c_Climb = some cD_Climb)
    (ci_Curve : PySem.W.clsIn K c_Curve = some cD_Curve)
    (ci_Delay : PySem.W.clsIn K c_Delay = some cD_Delay)
    (ci_Fixed : PySem.W.clsIn K c_Fixed = some cD_Fixed)
    (sm_SC_Fixed_Fixed_init_ : PySem.W.mroIn K c_Fixed (.ref c_Fixed) = some true)
    (sw_SC_Fixed_Fixed_init_ : PySem.W.ks_superIn K c_Fixed c_Fixed "__init__" = some (some (.ref a_Control_init_)))
    (st_SC_Fixed_Fixed_init_ : PySem.W.typeIn K (.ref a_Control_init_) = some (.type "function"))
    (sf_SC_Fixed_Fixed_init_ : PySem.W.fnIn K a_Control_init_ = true)
    (sm_SC_Climb_Climb_on_ack : PySem.W.mroIn K c_Climb (.ref c_Climb) = some true)
    (sw_SC_Climb_Climb_on_ack : PySem.W.ks_superIn K c_Climb c_Climb "on_ack" = some (some (.ref a_Control_on_ack)))
    (st_SC_Climb_Climb_on_ack : PySem.W.typeIn K (.ref a_Control_on_ack) = some (.type "function"))
    (sf_SC_Climb_Climb_on_ack : PySem.W.fnIn K a_Control_on_ack = true)
    (sm_SC_Curve_Climb_on_ack : PySem.W.mroIn K c_Curve (.ref c_Climb) = some true)
    (sw_SC_Curve_Climb_on_ack : PySem.W.ks_superIn K c_Curve c_Climb "on_ack" = some (some (.ref a_Control_on_ack)))
    (st_SC_Curve_Climb_on_ack : PySem.W.typeIn K (.ref a_Control_on_ack) = some (.type "function"))
    (sf_SC_Curve_Climb_on_ack : PySem.W.fnIn K a_Control_on_ack = true)
    (sm_SC_Delay_Climb_on_ack : PySem.W.mroIn K c_Delay (.ref c_Climb) = some true)
    (sw_SC_Delay_Climb_on_ack : PySem.W.ks_superIn K c_Delay c_Climb "on_ack" = some (some (.ref a_Control_on_ack)))
    (st_SC_Delay_Climb_on_ack : PySem.W.typeIn K (.ref a_Control_on_ack) = some (.type "function"))
    (sf_SC_Delay_Climb_on_ack : PySem.W.fnIn K a_Control_on_ack = true)
    (sm_SC_Climb_Climb_on_loss : PySem.W.mroIn K c_Climb (.ref c_Climb) = some true)
    (sw_SC_Climb_Climb_on_loss : PySem.W.ks_superIn K c_Climb c_Climb "on_loss" = some (some (.ref a_Control_on_loss)))
    (st_SC_Climb_Climb_on_loss : PySem.W.typeIn K (.ref a_Control_on_loss) = some (.type "function"))
    (sf_SC_Climb_Climb_on_loss : PySem.W.fnIn K a_Control_on_loss = true)
    (sm_SC_Curve_Climb_on_loss : PySem.W.mroIn K c_Curve (.ref c_Climb) = some true)
    (sw_SC_Curve_Climb_on_loss : PySem.W.ks_superIn K c_Curve c_Climb "on_loss" = some (some (.ref a_Control_on_loss)))
    (st_SC_Curve_Climb_on_loss : PySem.W.typeIn K (.ref a_Control_on_loss) = some (.type "function"))
    (sf_SC_Curve_Climb_on_loss : PySem.W.fnIn K a_Control_on_loss = true)
    (sm_SC_Delay_Climb_on_loss : PySem.W.mroIn K c_Delay (.ref c_Climb) = some true)
    (sw_SC_Delay_Climb_on_loss : PySem.W.ks_superIn K c_Delay c_Climb "on_loss" = some (some (.ref a_Control_on_loss)))
    (st_SC_Delay_Climb_on_loss : PySem.W.typeIn K (.ref a_Control_on_loss) = some (.type "function"))
    (sf_SC_Delay_Climb_on_loss : PySem.W.fnIn K a_Control_on_loss = true)
    (sm_SC_Climb_Climb_on_expiry : PySem.W.mroIn K c_Climb (.ref c_Climb) = some true)
    (sw_SC_Climb_Climb_on_expiry : PySem.W.ks_superIn K c_Climb c_Climb "on_expiry" = some (some (.ref a_Control_on_expiry)))
    (st_SC_Climb_Climb_on_expiry : PySem.W.typeIn K (.ref a_Control_on_expiry) = some (.type "function"))
    (sf_SC_Climb_Climb_on_expiry : PySem.W.fnIn K a_Control_on_expiry = true)
    (sm_SC_Curve_Climb_on_expiry : PySem.W.mroIn K c_Curve (.ref c_Climb) = some true)
    (sw_SC_Curve_Climb_on_expiry : PySem.W.ks_superIn K c_Curve c_Climb "on_expiry" = some (some (.ref a_Control_on_expiry)))
    (st_SC_Curve_Climb_on_expiry : PySem.W.typeIn K (.ref a_Control_on_expiry) = some (.type "function"))
    (sf_SC_Curve_Climb_on_expiry : PySem.W.fnIn K a_Control_on_expiry = true)
    (sm_SC_Delay_Climb_on_expiry : PySem.W.mroIn K c_Delay (.ref c_Climb) = some true)
    (sw_SC_Delay_Climb_on_expiry : PySem.W.ks_superIn K c_Delay c_Climb "on_expiry" = some (some (.ref a_Control_on_expiry)))
    (st_SC_Delay_Climb_on_expiry : PySem.W.typeIn K (.ref a_Control_on_expiry) = some (.type "function"))
    (sf_SC_Delay_Climb_on_expiry : PySem.W.fnIn K a_Control_on_expiry = true)
    (sm_SC_Climb_Climb_on_sample : PySem.W.mroIn K c_Climb (.ref c_Climb) = some true)
    (sw_SC_Climb_Climb_on_sample : PySem.W.ks_superIn K c_Climb c_Climb "on_sample" = some (some (.ref a_Control_on_sample)))
    (st_SC_Climb_Climb_on_sample : PySem.W.typeIn K (.ref a_Control_on_sample) = some (.type "function"))
    (sf_SC_Climb_Climb_on_sample : PySem.W.fnIn K a_Control_on_sample = true)
    (sm_SC_Curve_Climb_on_sample : PySem.W.mroIn K c_Curve (.ref c_Climb) = some true)
    (sw_SC_Curve_Climb_on_sample : PySem.W.ks_superIn K c_Curve c_Climb "on_sample" = some (some (.ref a_Control_on_sample)))
    (st_SC_Curve_Climb_on_sample : PySem.W.typeIn K (.ref a_Control_on_sample) = some (.type "function"))
    (sf_SC_Curve_Climb_on_sample : PySem.W.fnIn K a_Control_on_sample = true)
    (sm_SC_Delay_Climb_on_sample : PySem.W.mroIn K c_Delay (.ref c_Climb) = some true)
    (sw_SC_Delay_Climb_on_sample : PySem.W.ks_superIn K c_Delay c_Climb "on_sample" = some (some (.ref a_Control_on_sample)))
    (st_SC_Delay_Climb_on_sample : PySem.W.typeIn K (.ref a_Control_on_sample) = some (.type "function"))
    (sf_SC_Delay_Climb_on_sample : PySem.W.fnIn K a_Control_on_sample = true)
    (sm_SC_Curve_Curve_init_ : PySem.W.mroIn K c_Curve (.ref c_Curve) = some true)
    (sw_SC_Curve_Curve_init_ : PySem.W.ks_superIn K c_Curve c_Curve "__init__" = some (some (.ref a_Control_init_)))
    (st_SC_Curve_Curve_init_ : PySem.W.typeIn K (.ref a_Control_init_) = some (.type "function"))
    (sf_SC_Curve_Curve_init_ : PySem.W.fnIn K a_Control_init_ = true)
    (sm_SC_Curve_Curve_on_ack : PySem.W.mroIn K c_Curve (.ref c_Curve) = some true)
    (sw_SC_Curve_Curve_on_ack : PySem.W.ks_superIn K c_Curve c_Curve "on_ack" = some (some (.ref a_Climb_on_ack)))
    (st_SC_Curve_Curve_on_ack : PySem.W.typeIn K (.ref a_Climb_on_ack) = some (.type "function"))
    (sf_SC_Curve_Curve_on_ack : PySem.W.fnIn K a_Climb_on_ack = true)
    (sm_SC_Curve_Curve_grow : PySem.W.mroIn K c_Curve (.ref c_Curve) = some true)
    (sw_SC_Curve_Curve_grow : PySem.W.ks_superIn K c_Curve c_Curve "grow" = some (some (.ref a_Climb_grow)))
    (st_SC_Curve_Curve_grow : PySem.W.typeIn K (.ref a_Climb_grow) = some (.type "function"))
    (sf_SC_Curve_Curve_grow : PySem.W.fnIn K a_Climb_grow = true)
    (sm_SC_Curve_Curve_on_expiry : PySem.W.mroIn K c_Curve (.ref c_Curve) = some true)
    (sw_SC_Curve_Curve_on_expiry : PySem.W.ks_superIn K c_Curve c_Curve "on_expiry" = some (some (.ref a_Climb_on_expiry)))
    (st_SC_Curve_Curve_on_expiry : PySem.W.typeIn K (.ref a_Climb_on_expiry) = some (.type "function"))
    (sf_SC_Curve_Curve_on_expiry : PySem.W.fnIn K a_Climb_on_expiry = true)
    (sm_SC_Curve_Curve_on_sample : PySem.W.mroIn K c_Curve (.ref c_Curve) = some true)
    (sw_SC_Curve_Curve_on_sample : PySem.W.ks_superIn K c_Curve c_Curve "on_sample" = some (some (.ref a_Climb_on_sample)))
    (st_SC_Curve_Curve_on_sample : PySem.W.typeIn K (.ref a_Climb_on_sample) = some (.type "function"))
    (sf_SC_Curve_Curve_on_sample : PySem.W.fnIn K a_Climb_on_sample = true)
    (sm_SC_Delay_Delay_init_ : PySem.W.mroIn K c_Delay (.ref c_Delay) = some true)
    (sw_SC_Delay_Delay_init_ : PySem.W.ks_superIn K c_Delay c_Delay "__init__" = some (some (.ref a_Control_init_)))
    (st_SC_Delay_Delay_init_ : PySem.W.typeIn K (.ref a_Control_init_) = some (.type "function"))
    (sf_SC_Delay_Delay_init_ : PySem.W.fnIn K a_Control_init_ = true)
    (sm_SC_Delay_Delay_on_ack : PySem.W.mroIn K c_Delay (.ref c_Delay) = some true)
    (sw_SC_Delay_Delay_on_ack : PySem.W.ks_superIn K c_Delay c_Delay "on_ack" = some (some (.ref a_Climb_on_ack)))
    (st_SC_Delay_Delay_on_ack : PySem.W.typeIn K (.ref a_Climb_on_ack) = some (.type "function"))
    (sf_SC_Delay_Delay_on_ack : PySem.W.fnIn K a_Climb_on_ack = true)
    (sm_SC_Delay_Delay_grow : PySem.W.mroIn K c_Delay (.ref c_Delay) = some true)
    (sw_SC_Delay_Delay_grow : PySem.W.ks_superIn K c_Delay c_Delay "grow" = some (some (.ref a_Climb_grow)))
    (st_SC_Delay_Delay_grow : PySem.W.typeIn K (.ref a_Climb_grow) = some (.type "function"))
    (sf_SC_Delay_Delay_grow : PySem.W.fnIn K a_Climb_grow = true)
    (sm_SC_Delay_Delay_on_loss : PySem.W.mroIn K c_Delay (.ref c_Delay) = some true)
    (sw_SC_Delay_Delay_on_loss : PySem.W.ks_superIn K c_Delay c_Delay "on_loss" = some (some (.ref a_Climb_on_loss)))
    (st_SC_Delay_Delay_on_loss : PySem.W.typeIn K (.ref a_Climb_on_loss) = some (.type "function"))
    (sf_SC_Delay_Delay_on_loss : PySem.W.fnIn K a_Climb_on_loss = true)
    (sm_SC_Delay_Delay_on_expiry : PySem.W.mroIn K c_Delay (.ref c_Delay) = some true)
    (sw_SC_Delay_Delay_on_expiry : PySem.W.ks_superIn K c_Delay c_Delay "on_expiry" = some (some (.ref a_Climb_on_expiry)))
    (st_SC_Delay_Delay_on_expiry : PySem.W.typeIn K (.ref a_Climb_on_expiry) = some (.type "function"))
    (sf_SC_Delay_Delay_on_expiry : PySem.W.fnIn K a_Climb_on_expiry = true)
    (sy_ : PySem.W.nsIn K PySem.cStatics "thirdparty.any" = some none)
    (lt_D_Fixed_init_ : K.lookup dP_Fixed_init_ = some ⟨.type "tuple", td_D_Fixed_init_, .seq tu_D_Fixed_init_ tn_D_Fixed_init_, ts_D_Fixed_init_⟩)
    (q_KINDS : PySem.W.nsIn K mainGlobals "KINDS" = some (some (.ref t_KINDS)))
    (lt_KINDS : K.lookup t_KINDS = some ⟨.type "tuple", td_KINDS, .seq tu_KINDS tn_KINDS, ts_KINDS⟩)
    (Kv_InvalidNumber : PySem.W.kitOne K (.ref c_InvalidNumber) (.type "ValueError") = some true)
    (Kv_InvalidSetting : PySem.W.kitOne K (.ref c_InvalidSetting) (.type "ValueError") = some true)
    (rc_Control : PySem.W.findIn K (.ref c_Control) "__class__" = some (some (.builtin "object.__class__")))
    (rc_Fixed : PySem.W.findIn K (.ref c_Fixed) "__class__" = some (some (.builtin "object.__class__")))
    (rc_Climb : PySem.W.findIn K (.ref c_Climb) "__class__" = some (some (.builtin "object.__class__")))
    (rc_Curve : PySem.W.findIn K (.ref c_Curve) "__class__" = some (some (.builtin "object.__class__")))
    (rc_Delay : PySem.W.findIn K (.ref c_Delay) "__class__" = some (some (.builtin "object.__class__")))
    (rm_Control : PySem.W.mroIn K c_Control (.type "object") = some true)
    (rm_Fixed : PySem.W.mroIn K c_Fixed (.type "object") = some true)
    (rm_Climb : PySem.W.mroIn K c_Climb (.type "object") = some true)
    (rm_Curve : PySem.W.mroIn K c_Curve (.type "object") = some true)
    (rm_Delay : PySem.W.mroIn K c_Delay (.type "object") = some true)
    (ri_get : PySem.W.specialIn K (.builtin "object.__class__") "__get__" = some (some (.builtin "getset_descriptor.__get__")))
    (ri_tk : PySem.W.takesIn K (.builtin "object.__class__") = some true)
    (ki_Control_Control : PySem.W.kitOne K (.ref c_Control) (.ref c_Control) = some true)
    (ki_Control_Fixed : PySem.W.kitOne K (.ref c_Control) (.ref c_Fixed) = some false)
    (ki_Control_Climb : PySem.W.kitOne K (.ref c_Control) (.ref c_Climb) = some false)
    (ki_Control_Curve : PySem.W.kitOne K (.ref c_Control) (.ref c_Curve) = some false)
    (ki_Control_Delay : PySem.W.kitOne K (.ref c_Control) (.ref c_Delay) = some false)
    (ki_Fixed_Control : PySem.W.kitOne K (.ref c_Fixed) (.ref c_Control) = some true)
    (ki_Fixed_Fixed : PySem.W.kitOne K (.ref c_Fixed) (.ref c_Fixed) = some true)
    (ki_Fixed_Climb : PySem.W.kitOne K (.ref c_Fixed) (.ref c_Climb) = some false)
    (ki_Fixed_Curve : PySem.W.kitOne K (.ref c_Fixed) (.ref c_Curve) = some false)
    (ki_Fixed_Delay : PySem.W.kitOne K (.ref c_Fixed) (.ref c_Delay) = some false)
    (ki_Climb_Control : PySem.W.kitOne K (.ref c_Climb) (.ref c_Control) = some true)
    (ki_Climb_Fixed : PySem.W.kitOne K (.ref c_Climb) (.ref c_Fixed) = some false)
    (ki_Climb_Climb : PySem.W.kitOne K (.ref c_Climb) (.ref c_Climb) = some true)
    (ki_Climb_Curve : PySem.W.kitOne K (.ref c_Climb) (.ref c_Curve) = some false)
    (ki_Climb_Delay : PySem.W.kitOne K (.ref c_Climb) (.ref c_Delay) = some false)
    (ki_Curve_Control : PySem.W.kitOne K (.ref c_Curve) (.ref c_Control) = some true)
    (ki_Curve_Fixed : PySem.W.kitOne K (.ref c_Curve) (.ref c_Fixed) = some false)
    (ki_Curve_Climb : PySem.W.kitOne K (.ref c_Curve) (.ref c_Climb) = some true)
    (ki_Curve_Curve : PySem.W.kitOne K (.ref c_Curve) (.ref c_Curve) = some true)
    (ki_Curve_Delay : PySem.W.kitOne K (.ref c_Curve) (.ref c_Delay) = some false)
    (ki_Delay_Control : PySem.W.kitOne K (.ref c_Delay) (.ref c_Control) = some true)
    (ki_Delay_Fixed : PySem.W.kitOne K (.ref c_Delay) (.ref c_Fixed) = some false)
    (ki_Delay_Climb : PySem.W.kitOne K (.ref c_Delay) (.ref c_Climb) = some true)
    (ki_Delay_Curve : PySem.W.kitOne K (.ref c_Delay) (.ref c_Curve) = some false)
    (ki_Delay_Delay : PySem.W.kitOne K (.ref c_Delay) (.ref c_Delay) = some true)
    (z_ValueError : PySem.W.nsIn K mainGlobals "ValueError" = some none)
    (z_bool : PySem.W.nsIn K mainGlobals "bool" = some none)
    (z_int : PySem.W.nsIn K mainGlobals "int" = some none)
    (z_isinstance : PySem.W.nsIn K mainGlobals "isinstance" = some none)
    (z_len : PySem.W.nsIn K mainGlobals "len" = some none)
    (z_list : PySem.W.nsIn K mainGlobals "list" = some none)
    (z_max : PySem.W.nsIn K mainGlobals "max" = some none)
    (z_min : PySem.W.nsIn K mainGlobals "min" = some none)
    (z_property : PySem.W.nsIn K mainGlobals "property" = some none)
    (z_range : PySem.W.nsIn K mainGlobals "range" = some none)
    (z_str : PySem.W.nsIn K mainGlobals "str" = some none)
    (z_sum : PySem.W.nsIn K mainGlobals "sum" = some none)
    (z_super : PySem.W.nsIn K mainGlobals "super" = some none)
    (z_tuple : PySem.W.nsIn K mainGlobals "tuple" = some none)
    (q_MOST_PIECES : PySem.W.nsIn K mainGlobals "MOST_PIECES" = some (some u_MOST_PIECES))
    (xm'_InvalidNumber : PySem.HandSPX.refsVE xm_InvalidNumber = true)
    (xm'_InvalidSetting : PySem.HandSPX.refsVE xm_InvalidSetting = true)
    (w_Control_GREATEST : RelV (.int 4194304) u_Control_GREATEST)
    (w_Control_KIND : RelV (.str "base") u_Control_KIND)
    (w_Fixed_KIND : RelV (.str "fixed") u_Fixed_KIND)
    (w_Climb_KIND : RelV (.str "climb") u_Climb_KIND)
    (w_Curve_KIND : RelV (.str "curve") u_Curve_KIND)
    (w_Delay_KIND : RelV (.str "delay") u_Delay_KIND)
    (w_MOST_PIECES : RelV (.int 64) u_MOST_PIECES)
    (gt_Fixed_init_ : gv_Fixed_init_[2]? = some (.str "/claim/cut.py" gk_Fixed_init_))
    (gt_Climb_on_ack : gv_Climb_on_ack[2]? = some (.str "/claim/cut.py" gk_Climb_on_ack))
    (gt_Climb_on_loss : gv_Climb_on_loss[2]? = some (.str "/claim/cut.py" gk_Climb_on_loss))
    (gt_Climb_on_expiry : gv_Climb_on_expiry[2]? = some (.str "/claim/cut.py" gk_Climb_on_expiry))
    (gt_Climb_on_sample : gv_Climb_on_sample[2]? = some (.str "/claim/cut.py" gk_Climb_on_sample))
    (gt_Curve_init_ : gv_Curve_init_[2]? = some (.str "/claim/cut.py" gk_Curve_init_))
    (gt_Curve_on_ack : gv_Curve_on_ack[2]? = some (.str "/claim/cut.py" gk_Curve_on_ack))
    (gt_Curve_grow : gv_Curve_grow[2]? = some (.str "/claim/cut.py" gk_Curve_grow))
    (gt_Curve_on_expiry : gv_Curve_on_expiry[2]? = some (.str "/claim/cut.py" gk_Curve_on_expiry))
    (gt_Curve_on_sample : gv_Curve_on_sample[2]? = some (.str "/claim/cut.py" gk_Curve_on_sample))
    (gt_Delay_init_ : gv_Delay_init_[2]? = some (.str "/claim/cut.py" gk_Delay_init_))
    (gt_Delay_on_ack : gv_Delay_on_ack[2]? = some (.str "/claim/cut.py" gk_Delay_on_ack))
    (gt_Delay_grow : gv_Delay_grow[2]? = some (.str "/claim/cut.py" gk_Delay_grow))
    (gt_Delay_on_loss : gv_Delay_on_loss[2]? = some (.str "/claim/cut.py" gk_Delay_on_loss))
    (gt_Delay_on_expiry : gv_Delay_on_expiry[2]? = some (.str "/claim/cut.py" gk_Delay_on_expiry))
    (tv_D_Fixed_init_ : L2.Vals [(.int 8)] tu_D_Fixed_init_.toList)
    (tz_D_Fixed_init_ : tu_D_Fixed_init_.size ≤ PySem.sizeLine)
    (tv_KINDS : L2.Vals [.str "fixed", .str "climb", .str "curve", .str "delay"] tu_KINDS.toList)
    (tz_KINDS : tu_KINDS.size ≤ PySem.sizeLine)
    : ∃ fd : FuncData, (∀ (s : Shared) (v : Value), BindsTo s fd ⟨[v], []⟩ [("script", v)]) ∧ ∀ base : Heap, K.In base → base.Ns mainGlobals mg → FnOk l.prog w K mg base CX0 12 fa fd ["script"] (sp_law K) := by
  have e : fa = a_law := by
    have e0 := hfa.symm.trans (PySem.W.mg_of X G a_law')
    cases e0
    rfl
  rw [e]
  have F_InvalidNumber_init_ := fun_mk (st := s_InvalidNumber_init_) l_InvalidNumber_init_ e_InvalidNumber_init_ k_InvalidNumber_init_
  have F_InvalidSetting_init_ := fun_mk (st := s_InvalidSetting_init_) l_InvalidSetting_init_ e_InvalidSetting_init_ k_InvalidSetting_init_
  have F_is_integer := fun_mk (st := s_is_integer) l_is_integer e_is_integer k_is_integer
  have F_is_between := fun_mk (st := s_is_between) l_is_between e_is_between k_is_between
  have F_require_new_bytes := fun_mk (st := s_require_new_bytes) l_require_new_bytes e_require_new_bytes k_require_new_bytes
  have F_Control_init_ := fun_mk (st := s_Control_init_) l_Control_init_ e_Control_init_ k_Control_init_
  have F_Control_starting := fun_mk (st := s_Control_starting) l_Control_starting e_Control_starting k_Control_starting
  have F_Control_on_ack := fun_mk (st := s_Control_on_ack) l_Control_on_ack e_Control_on_ack k_Control_on_ack
  have F_Control_grow := fun_mk (st := s_Control_grow) l_Control_grow e_Control_grow k_Control_grow
  have F_Control_on_loss := fun_mk (st := s_Control_on_loss) l_Control_on_loss e_Control_on_loss k_Control_on_loss
  have F_Control_on_expiry := fun_mk (st := s_Control_on_expiry) l_Control_on_expiry e_Control_on_expiry k_Control_on_expiry
  have F_Control_on_sample := fun_mk (st := s_Control_on_sample) l_Control_on_sample e_Control_on_sample k_Control_on_sample
  have F_Control_set_window := fun_mk (st := s_Control_set_window) l_Control_set_window e_Control_set_window k_Control_set_window
  have F_Fixed_init_ : FunC K "__init__" "Fixed.__init__" s_Fixed_init_ a_Fixed_init_ cda_Fixed_init_ cc_Fixed_init_ _ := ⟨⟨_, _, _, _, _, _, _, _, _, rfl, l_Fixed_init_, e_Fixed_init_⟩, k_Fixed_init_⟩
  have F_Fixed_on_ack := fun_mk (st := s_Fixed_on_ack) l_Fixed_on_ack e_Fixed_on_ack k_Fixed_on_ack
  have F_Fixed_grow := fun_mk (st := s_Fixed_grow) l_Fixed_grow e_Fixed_grow k_Fixed_grow
  have F_Fixed_on_loss := fun_mk (st := s_Fixed_on_loss) l_Fixed_on_loss e_Fixed_on_loss k_Fixed_on_loss
  have F_Fixed_on_expiry := fun_mk (st := s_Fixed_on_expiry) l_Fixed_on_expiry e_Fixed_on_expiry k_Fixed_on_expiry
  have F_Fixed_on_sample := fun_mk (st := s_Fixed_on_sample) l_Fixed_on_sample e_Fixed_on_sample k_Fixed_on_sample
  have F_Climb_on_ack : FunC K "on_ack" "Climb.on_ack" s_Climb_on_ack a_Climb_on_ack cda_Climb_on_ack cc_Climb_on_ack _ := ⟨⟨_, _, _, _, _, _, _, _, _, rfl, l_Climb_on_ack, e_Climb_on_ack⟩, k_Climb_on_ack⟩
  have F_Climb_grow := fun_mk (st := s_Climb_grow) l_Climb_grow e_Climb_grow k_Climb_grow
  have F_Climb_step := fun_mk (st := s_Climb_step) l_Climb_step e_Climb_step k_Climb_step
  have F_Climb_on_loss : FunC K "on_loss" "Climb.on_loss" s_Climb_on_loss a_Climb_on_loss cda_Climb_on_loss cc_Climb_on_loss _ := ⟨⟨_, _, _, _, _, _, _, _, _, rfl, l_Climb_on_loss, e_Climb_on_loss⟩, k_Climb_on_loss⟩
  have F_Climb_on_expiry : FunC K "on_expiry" "Climb.on_expiry" s_Climb_on_expiry a_Climb_on_expiry cda_Climb_on_expiry cc_Climb_on_expiry _ := ⟨⟨_, _, _, _, _, _, _, _, _, rfl, l_Climb_on_expiry, e_Climb_on_expiry⟩, k_Climb_on_expiry⟩
  have F_Climb_on_sample : FunC K "on_sample" "Climb.on_sample" s_Climb_on_sample a_Climb_on_sample cda_Climb_on_sample cc_Climb_on_sample _ := ⟨⟨_, _, _, _, _, _, _, _, _, rfl, l_Climb_on_sample, e_Climb_on_sample⟩, k_Climb_on_sample⟩
  have F_is_kind := fun_mk (st := s_is_kind) l_is_kind e_is_kind k_is_kind
  have F_Curve_init_ : FunC K "__init__" "Curve.__init__" s_Curve_init_ a_Curve_init_ cda_Curve_init_ cc_Curve_init_ _ := ⟨⟨_, _, _, _, _, _, _, _, _, rfl, l_Curve_init_, e_Curve_init_⟩, k_Curve_init_⟩
  have F_Curve_on_ack : FunC K "on_ack" "Curve.on_ack" s_Curve_on_ack a_Curve_on_ack cda_Curve_on_ack cc_Curve_on_ack _ := ⟨⟨_, _, _, _, _, _, _, _, _, rfl, l_Curve_on_ack, e_Curve_on_ack⟩, k_Curve_on_ack⟩
  have F_Curve_grow : FunC K "grow" "Curve.grow" s_Curve_grow a_Curve_grow cda_Curve_grow cc_Curve_grow _ := ⟨⟨_, _, _, _, _, _, _, _, _, rfl, l_Curve_grow, e_Curve_grow⟩, k_Curve_grow⟩
  have F_Curve_on_loss := fun_mk (st := s_Curve_on_loss) l_Curve_on_loss e_Curve_on_loss k_Curve_on_loss
  have F_Curve_span_to := fun_mk (st := s_Curve_span_to) l_Curve_span_to e_Curve_span_to k_Curve_span_to
  have F_Curve_on_expiry : FunC K "on_expiry" "Curve.on_expiry" s_Curve_on_expiry a_Curve_on_expiry cda_Curve_on_expiry cc_Curve_on_expiry _ := ⟨⟨_, _, _, _, _, _, _, _, _, rfl, l_Curve_on_expiry, e_Curve_on_expiry⟩, k_Curve_on_expiry⟩
  have F_Curve_on_sample : FunC K "on_sample" "Curve.on_sample" s_Curve_on_sample a_Curve_on_sample cda_Curve_on_sample cc_Curve_on_sample _ := ⟨⟨_, _, _, _, _, _, _, _, _, rfl, l_Curve_on_sample, e_Curve_on_sample⟩, k_Curve_on_sample⟩
  have F_Delay_init_ : FunC K "__init__" "Delay.__init__" s_Delay_init_ a_Delay_init_ cda_Delay_init_ cc_Delay_init_ _ := ⟨⟨_, _, _, _, _, _, _, _, _, rfl, l_Delay_init_, e_Delay_init_⟩, k_Delay_init_⟩
  have F_Delay_on_ack : FunC K "on_ack" "Delay.on_ack" s_Delay_on_ack a_Delay_on_ack cda_Delay_on_ack cc_Delay_on_ack _ := ⟨⟨_, _, _, _, _, _, _, _, _, rfl, l_Delay_on_ack, e_Delay_on_ack⟩, k_Delay_on_ack⟩
  have F_Delay_grow : FunC K "grow" "Delay.grow" s_Delay_grow a_Delay_grow cda_Delay_grow cc_Delay_grow _ := ⟨⟨_, _, _, _, _, _, _, _, _, rfl, l_Delay_grow, e_Delay_grow⟩, k_Delay_grow⟩
  have F_Delay_step := fun_mk (st := s_Delay_step) l_Delay_step e_Delay_step k_Delay_step
  have F_Delay_surplus := fun_mk (st := s_Delay_surplus) l_Delay_surplus e_Delay_surplus k_Delay_surplus
  have F_Delay_on_loss : FunC K "on_loss" "Delay.on_loss" s_Delay_on_loss a_Delay_on_loss cda_Delay_on_loss cc_Delay_on_loss _ := ⟨⟨_, _, _, _, _, _, _, _, _, rfl, l_Delay_on_loss, e_Delay_on_loss⟩, k_Delay_on_loss⟩
  have F_Delay_on_expiry : FunC K "on_expiry" "Delay.on_expiry" s_Delay_on_expiry a_Delay_on_expiry cda_Delay_on_expiry cc_Delay_on_expiry _ := ⟨⟨_, _, _, _, _, _, _, _, _, rfl, l_Delay_on_expiry, e_Delay_on_expiry⟩, k_Delay_on_expiry⟩
  have F_Delay_on_sample := fun_mk (st := s_Delay_on_sample) l_Delay_on_sample e_Delay_on_sample k_Delay_on_sample
  have F_control_of := fun_mk (st := s_control_of) l_control_of e_control_of k_control_of
  have F__law_cell := fun_mk (st := s__law_cell) l__law_cell e__law_cell k__law_cell
  have F__law_rounds := fun_mk (st := s__law_rounds) l__law_rounds e__law_rounds k__law_rounds
  have F__law_box := fun_mk (st := s__law_box) l__law_box e__law_box k__law_box
  have F__law_draw := fun_mk (st := s__law_draw) l__law_draw e__law_draw k__law_draw
  have F__law_unit := fun_mk (st := s__law_unit) l__law_unit e__law_unit k__law_unit
  have F__law_whole := fun_mk (st := s__law_whole) l__law_whole e__law_whole k__law_whole
  have F__law_truth := fun_mk (st := s__law_truth) l__law_truth e__law_truth k__law_truth
  have F__law_base := fun_mk (st := s__law_base) l__law_base e__law_base k__law_base
  have F__law_make := fun_mk (st := s__law_make) l__law_make e__law_make k__law_make
  have F__law_word := fun_mk (st := s__law_word) l__law_word e__law_word k__law_word
  have F__law_times := fun_mk (st := s__law_times) l__law_times e__law_times k__law_times
  have F__law_classed := fun_mk (st := s__law_classed) l__law_classed e__law_classed k__law_classed
  have F__law_fresh := fun_mk (st := s__law_fresh) l__law_fresh e__law_fresh k__law_fresh
  have F__law_bad := fun_mk (st := s__law_bad) l__law_bad e__law_bad k__law_bad
  have F__law_refusal := fun_mk (st := s__law_refusal) l__law_refusal e__law_refusal k__law_refusal
  have F__law_stranger := fun_mk (st := s__law_stranger) l__law_stranger e__law_stranger k__law_stranger
  have F__law_apart := fun_mk (st := s__law_apart) l__law_apart e__law_apart k__law_apart
  have F__law_units := fun_mk (st := s__law_units) l__law_units e__law_units k__law_units
  have F__law_pieces := fun_mk (st := s__law_pieces) l__law_pieces e__law_pieces k__law_pieces
  have F__law_kinds := fun_mk (st := s__law_kinds) l__law_kinds e__law_kinds k__law_kinds
  have F__law_refused := fun_mk (st := s__law_refused) l__law_refused e__law_refused k__law_refused
  have F__law_counts := fun_mk (st := s__law_counts) l__law_counts e__law_counts k__law_counts
  have F__law_names := fun_mk (st := s__law_names) l__law_names e__law_names k__law_names
  have F__law_question := fun_mk (st := s__law_question) l__law_question e__law_question k__law_question
  have F_law := fun_mk (st := s_law) l_law e_law k_law
  let T : Txt K mg := {
    c_Control := c_Control,
    g_Control := PySem.W.mg_of X G aC_Control,
    cl_Control := ⟨pg_Control, hd_Control, po_Control, sa_Control⟩,
    n_Control_unit := n_Control_unit,
    n_Control_window := n_Control_window,
    n_Control_threshold := n_Control_threshold,
    n_Control_credit := n_Control_credit,
    n_Control_stalled := n_Control_stalled,
    mc_Control := .type "type",
    R_Control := ⟨rd_Control, ga_Control⟩,
    V_Control_GREATEST := ⟨_, va_Control_GREATEST, w_Control_GREATEST⟩,
    V_Control_KIND := ⟨_, va_Control_KIND, w_Control_KIND⟩,
    I_Control_KIND := ⟨_, ia_Control_KIND, w_Control_KIND, ig_Control_KIND, by decide +kernel⟩,
    c_Fixed := c_Fixed,
    g_Fixed := PySem.W.mg_of X G aC_Fixed,
    cl_Fixed := ⟨pg_Fixed, hd_Fixed, po_Fixed, sa_Fixed⟩,
    n_Fixed_unit := n_Fixed_unit,
    n_Fixed_window := n_Fixed_window,
    n_Fixed_threshold := n_Fixed_threshold,
    n_Fixed_credit := n_Fixed_credit,
    n_Fixed_stalled := n_Fixed_stalled,
    mc_Fixed := .type "type",
    R_Fixed := ⟨rd_Fixed, ga_Fixed⟩,
    V_Fixed_KIND := ⟨_, va_Fixed_KIND, w_Fixed_KIND⟩,
    I_Fixed_KIND := ⟨_, ia_Fixed_KIND, w_Fixed_KIND, ig_Fixed_KIND, by decide +kernel⟩,
    c_Climb := c_Climb,
    g_Climb := PySem.W.mg_of X G aC_Climb,
    cl_Climb := ⟨pg_Climb, hd_Climb, po_Climb, sa_Climb⟩,
    n_Climb_unit := n_Climb_unit,
    n_Climb_window := n_Climb_window,
    n_Climb_threshold := n_Climb_threshold,
    n_Climb_credit := n_Climb_credit,
    n_Climb_stalled := n_Climb_stalled,
    mc_Climb := .type "type",
    R_Climb := ⟨rd_Climb, ga_Climb⟩,
    V_Climb_KIND := ⟨_, va_Climb_KIND, w_Climb_KIND⟩,
    I_Climb_KIND := ⟨_, ia_Climb_KIND, w_Climb_KIND, ig_Climb_KIND, by decide +kernel⟩,
    c_Curve := c_Curve,
    g_Curve := PySem.W.mg_of X G aC_Curve,
    cl_Curve := ⟨pg_Curve, hd_Curve, po_Curve, sa_Curve⟩,
    n_Curve_unit := n_Curve_unit,
    n_Curve_window := n_Curve_window,
    n_Curve_threshold := n_Curve_threshold,
    n_Curve_credit := n_Curve_credit,
    n_Curve_stalled := n_Curve_stalled,
    n_Curve_peak := n_Curve_peak,
    n_Curve_span := n_Curve_span,
    n_Curve_born := n_Curve_born,
    mc_Curve := .type "type",
    R_Curve := ⟨rd_Curve, ga_Curve⟩,
    V_Curve_KIND := ⟨_, va_Curve_KIND, w_Curve_KIND⟩,
    I_Curve_KIND := ⟨_, ia_Curve_KIND, w_Curve_KIND, ig_Curve_KIND, by decide +kernel⟩,
    c_Delay := c_Delay,
    g_Delay := PySem.W.mg_of X G aC_Delay,
    cl_Delay := ⟨pg_Delay, hd_Delay, po_Delay, sa_Delay⟩,
    n_Delay_unit := n_Delay_unit,
    n_Delay_window := n_Delay_window,
    n_Delay_threshold := n_Delay_threshold,
    n_Delay_credit := n_Delay_credit,
    n_Delay_stalled := n_Delay_stalled,
    n_Delay_least := n_Delay_least,
    n_Delay_latest := n_Delay_latest,
    n_Delay_samples := n_Delay_samples,
    mc_Delay := .type "type",
    R_Delay := ⟨rd_Delay, ga_Delay⟩,
    V_Delay_KIND := ⟨_, va_Delay_KIND, w_Delay_KIND⟩,
    I_Delay_KIND := ⟨_, ia_Delay_KIND, w_Delay_KIND, ig_Delay_KIND, by decide +kernel⟩,
    c_LossError := c_LossError,
    X_LossError := ⟨PySem.W.mg_of X G aC_LossError⟩,
    c_InvalidNumber := c_InvalidNumber,
    X_InvalidNumber := xcls_mk (PySem.W.mg_of X G aC_InvalidNumber) xl_InvalidNumber xm'_InvalidNumber sa_InvalidNumber xx_InvalidNumber xt_InvalidNumber xk_InvalidNumber xi_InvalidNumber xf_InvalidNumber_init_ xg_InvalidNumber xh_InvalidNumber xy_InvalidNumber xc_InvalidNumber x_get x_tk xr_InvalidNumber,
    nX_InvalidNumber := nX_InvalidNumber,
    c_InvalidSetting := c_InvalidSetting,
    X_InvalidSetting := xcls_mk (PySem.W.mg_of X G aC_InvalidSetting) xl_InvalidSetting xm'_InvalidSetting sa_InvalidSetting xx_InvalidSetting xt_InvalidSetting xk_InvalidSetting xi_InvalidSetting xf_InvalidSetting_init_ xg_InvalidSetting xh_InvalidSetting xy_InvalidSetting xc_InvalidSetting x_get x_tk xr_InvalidSetting,
    nX_InvalidSetting := nX_InvalidSetting,
    Me_InvalidNumber_LossError := Me_InvalidNumber_LossError,
    Me_InvalidSetting_LossError := Me_InvalidSetting_LossError,
    Me_InvalidSetting_InvalidSetting := Me_InvalidSetting_InvalidSetting,
    Kt_InvalidNumber_InvalidNumber := Kt_InvalidNumber_InvalidNumber,
    Kt_InvalidNumber_InvalidSetting := Kt_InvalidNumber_InvalidSetting,
    Kt_InvalidSetting_InvalidNumber := Kt_InvalidSetting_InvalidNumber,
    Kt_InvalidSetting_InvalidSetting := Kt_InvalidSetting_InvalidSetting,
    Kt_InvalidSetting_LossError := Kt_InvalidSetting_LossError,
    Kt_InvalidNumber_LossError := Kt_InvalidNumber_LossError,
    a_InvalidNumber_init_ := a_InvalidNumber_init_,
    fd_InvalidNumber_init_ := PySem.W.fnOf "__init__" "InvalidNumber.__init__" (defArgs s_InvalidNumber_init_) (defBody s_InvalidNumber_init_) (defScope s_InvalidNumber_init_) .none kV_InvalidNumber_init_ dc_InvalidNumber_init_ pm_InvalidNumber_init_ an_InvalidNumber_init_ cd_InvalidNumber_init_ ct_InvalidNumber_init_,
    F_InvalidNumber_init_ := F_InvalidNumber_init_,
    B_InvalidNumber_init_ := F_InvalidNumber_init_.binds (ps := ["self", "number"]) fun _ _ _ _ _ _ us hl => match us, hl with | [_, _], _ => rfl,
    a_InvalidSetting_init_ := a_InvalidSetting_init_,
    fd_InvalidSetting_init_ := PySem.W.fnOf "__init__" "InvalidSetting.__init__" (defArgs s_InvalidSetting_init_) (defBody s_InvalidSetting_init_) (defScope s_InvalidSetting_init_) .none kV_InvalidSetting_init_ dc_InvalidSetting_init_ pm_InvalidSetting_init_ an_InvalidSetting_init_ cd_InvalidSetting_init_ ct_InvalidSetting_init_,
    F_InvalidSetting_init_ := F_InvalidSetting_init_,
    B_InvalidSetting_init_ := F_InvalidSetting_init_.binds (ps := ["self", "setting"]) fun _ _ _ _ _ _ us hl => match us, hl with | [_, _], _ => rfl,
    a_is_integer := a_is_integer,
    fd_is_integer := PySem.W.fnOf "is_integer" "is_integer" (defArgs s_is_integer) (defBody s_is_integer) (defScope s_is_integer) .none kV_is_integer dc_is_integer pm_is_integer an_is_integer cd_is_integer ct_is_integer,
    F_is_integer := F_is_integer,
    B_is_integer := F_is_integer.binds (ps := ["value"]) fun _ _ _ _ _ _ us hl => match us, hl with | [_], _ => rfl,
    g_is_integer := PySem.W.mg_of X G a_is_integer',
    a_is_between := a_is_between,
    fd_is_between := PySem.W.fnOf "is_between" "is_between" (defArgs s_is_between) (defBody s_is_between) (defScope s_is_between) .none kV_is_between dc_is_between pm_is_between an_is_between cd_is_between ct_is_between,
    F_is_between := F_is_between,
    B_is_between := F_is_between.binds (ps := ["value", "low", "high"]) fun _ _ _ _ _ _ us hl => match us, hl with | [_, _, _], _ => rfl,
    g_is_between := PySem.W.mg_of X G a_is_between',
    a_require_new_bytes := a_require_new_bytes,
    fd_require_new_bytes := PySem.W.fnOf "require_new_bytes" "require_new_bytes" (defArgs s_require_new_bytes) (defBody s_require_new_bytes) (defScope s_require_new_bytes) .none kV_require_new_bytes dc_require_new_bytes pm_require_new_bytes an_require_new_bytes cd_require_new_bytes ct_require_new_bytes,
    F_require_new_bytes := F_require_new_bytes,
    B_require_new_bytes := F_require_new_bytes.binds (ps := ["count"]) fun _ _ _ _ _ _ us hl => match us, hl with | [_], _ => rfl,
    g_require_new_bytes := PySem.W.mg_of X G a_require_new_bytes',
    a_Control_init_ := a_Control_init_,
    fd_Control_init_ := PySem.W.fnOf "__init__" "Control.__init__" (defArgs s_Control_init_) (defBody s_Control_init_) (defScope s_Control_init_) .none kV_Control_init_ dc_Control_init_ pm_Control_init_ an_Control_init_ cd_Control_init_ ct_Control_init_,
    F_Control_init_ := F_Control_init_,
    B_Control_init_ := F_Control_init_.binds (ps := ["self", "unit"]) fun _ _ _ _ _ _ us hl => match us, hl with | [_, _], _ => rfl,
    M_Control := ⟨mk_Control, a_Control_init_', i_Control_init_, kc_Control⟩,
    a_Control_starting := a_Control_starting,
    fd_Control_starting := PySem.W.fnOf "starting" "Control.starting" (defArgs s_Control_starting) (defBody s_Control_starting) (defScope s_Control_starting) .none kV_Control_starting dc_Control_starting pm_Control_starting an_Control_starting cd_Control_starting ct_Control_starting,
    F_Control_starting := F_Control_starting,
    B_Control_starting := F_Control_starting.binds (ps := ["self"]) fun _ _ _ _ _ _ us hl => match us, hl with | [_], _ => rfl,
    p_Control_starting := p_Control_starting,
    PR_Control_starting := ⟨a_Control_starting', pg_Control_starting, pt_Control_starting, ⟨_, rc_Control_starting⟩⟩,
    a_Control_on_ack := a_Control_on_ack,
    fd_Control_on_ack := PySem.W.fnOf "on_ack" "Control.on_ack" (defArgs s_Control_on_ack) (defBody s_Control_on_ack) (defScope s_Control_on_ack) .none kV_Control_on_ack dc_Control_on_ack pm_Control_on_ack an_Control_on_ack cd_Control_on_ack ct_Control_on_ack,
    F_Control_on_ack := F_Control_on_ack,
    B_Control_on_ack := F_Control_on_ack.binds (ps := ["self", "count", "flight", "now"]) fun _ _ _ _ _ _ us hl => match us, hl with | [_, _, _, _], _ => rfl,
    m_Control_on_ack := ⟨a_Control_on_ack', i_Control_on_ack, k_Control_on_ack⟩,
    a_Control_grow := a_Control_grow,
    fd_Control_grow := PySem.W.fnOf "grow" "Control.grow" (defArgs s_Control_grow) (defBody s_Control_grow) (defScope s_Control_grow) .none kV_Control_grow dc_Control_grow pm_Control_grow an_Control_grow cd_Control_grow ct_Control_grow,
    F_Control_grow := F_Control_grow,
    B_Control_grow := F_Control_grow.binds (ps := ["self", "count", "now"]) fun _ _ _ _ _ _ us hl => match us, hl with | [_, _, _], _ => rfl,
    m_Control_grow := ⟨a_Control_grow', i_Control_grow, k_Control_grow⟩,
    a_Control_on_loss := a_Control_on_loss,
    fd_Control_on_loss := PySem.W.fnOf "on_loss" "Control.on_loss" (defArgs s_Control_on_loss) (defBody s_Control_on_loss) (defScope s_Control_on_loss) .none kV_Control_on_loss dc_Control_on_loss pm_Control_on_loss an_Control_on_loss cd_Control_on_loss ct_Control_on_loss,
    F_Control_on_loss := F_Control_on_loss,
    B_Control_on_loss := F_Control_on_loss.binds (ps := ["self", "flight", "now"]) fun _ _ _ _ _ _ us hl => match us, hl with | [_, _, _], _ => rfl,
    m_Control_on_loss := ⟨a_Control_on_loss', i_Control_on_loss, k_Control_on_loss⟩,
    a_Control_on_expiry := a_Control_on_expiry,
    fd_Control_on_expiry := PySem.W.fnOf "on_expiry" "Control.on_expiry" (defArgs s_Control_on_expiry) (defBody s_Control_on_expiry) (defScope s_Control_on_expiry) .none kV_Control_on_expiry dc_Control_on_expiry pm_Control_on_expiry an_Control_on_expiry cd_Control_on_expiry ct_Control_on_expiry,
    F_Control_on_expiry := F_Control_on_expiry,
    B_Control_on_expiry := F_Control_on_expiry.binds (ps := ["self", "flight", "now"]) fun _ _ _ _ _ _ us hl => match us, hl with | [_, _, _], _ => rfl,
    m_Control_on_expiry := ⟨a_Control_on_expiry', i_Control_on_expiry, k_Control_on_expiry⟩,
    a_Control_on_sample := a_Control_on_sample,
    fd_Control_on_sample := PySem.W.fnOf "on_sample" "Control.on_sample" (defArgs s_Control_on_sample) (defBody s_Control_on_sample) (defScope s_Control_on_sample) .none kV_Control_on_sample dc_Control_on_sample pm_Control_on_sample an_Control_on_sample cd_Control_on_sample ct_Control_on_sample,
    F_Control_on_sample := F_Control_on_sample,
    B_Control_on_sample := F_Control_on_sample.binds (ps := ["self", "ticks"]) fun _ _ _ _ _ _ us hl => match us, hl with | [_, _], _ => rfl,
    m_Control_on_sample := ⟨a_Control_on_sample', i_Control_on_sample, k_Control_on_sample⟩,
    a_Control_set_window := a_Control_set_window,
    fd_Control_set_window := PySem.W.fnOf "_set_window" "Control._set_window" (defArgs s_Control_set_window) (defBody s_Control_set_window) (defScope s_Control_set_window) .none kV_Control_set_window dc_Control_set_window pm_Control_set_window an_Control_set_window cd_Control_set_window ct_Control_set_window,
    F_Control_set_window := F_Control_set_window,
    B_Control_set_window := F_Control_set_window.binds (ps := ["self", "window"]) fun _ _ _ _ _ _ us hl => match us, hl with | [_, _], _ => rfl,
    m_Control_set_window := ⟨a_Control_set_window', i_Control_set_window, k_Control_set_window⟩,
    a_Fixed_init_ := a_Fixed_init_,
    fd_Fixed_init_ := _,
    cda_Fixed_init_ := cda_Fixed_init_,
    cc_Fixed_init_ := cc_Fixed_init_,
    F_Fixed_init_ := F_Fixed_init_,
    SK_Fixed_init_ := ⟨⟨_, _, _, _, _, l_Fixed_init_, rfl, rfl⟩, ⟨_, _, _, _, _, lk_Fixed_init_, gt_Fixed_init_⟩, ⟨_, _, _, lx_Fixed_init_⟩, ⟨_, ci_Fixed⟩⟩,
    M_Fixed := ⟨mk_Fixed, a_Fixed_init_', i_Fixed_init_, kc_Fixed⟩,
    ds_Fixed_init_ := tu_D_Fixed_init_.toList,
    VD_Fixed_init_ := tv_D_Fixed_init_,
    BD_Fixed_init_ := bindsX lt_D_Fixed_init_ rfl tv_D_Fixed_init_ rfl fun us its h1 h2 => match us, its, h1, h2 with | [_, _], [_], _, _ => ⟨_, rfl, rfl⟩,
    B_Fixed_init_ := bindsX0 lt_D_Fixed_init_ rfl tv_D_Fixed_init_ fun us its h1 h2 => match us, its, h1, h2 with | [_, _, _], [_], _, _ => ⟨_, rfl, rfl⟩,
    BK_Fixed_init_ := bindsXK lt_D_Fixed_init_ rfl tv_D_Fixed_init_ fun us ws its h1 h2 h3 => match us, ws, its, h1, h2, h3 with | [_, _], [_], [_], _, _, _ => ⟨_, rfl, rfl⟩,
    a_Fixed_on_ack := a_Fixed_on_ack,
    fd_Fixed_on_ack := PySem.W.fnOf "on_ack" "Fixed.on_ack" (defArgs s_Fixed_on_ack) (defBody s_Fixed_on_ack) (defScope s_Fixed_on_ack) .none kV_Fixed_on_ack dc_Fixed_on_ack pm_Fixed_on_ack an_Fixed_on_ack cd_Fixed_on_ack ct_Fixed_on_ack,
    F_Fixed_on_ack := F_Fixed_on_ack,
    B_Fixed_on_ack := F_Fixed_on_ack.binds (ps := ["self", "count", "flight", "now"]) fun _ _ _ _ _ _ us hl => match us, hl with | [_, _, _, _], _ => rfl,
    m_Fixed_on_ack := ⟨a_Fixed_on_ack', i_Fixed_on_ack, k_Fixed_on_ack⟩,
    a_Fixed_grow := a_Fixed_grow,
    fd_Fixed_grow := PySem.W.fnOf "grow" "Fixed.grow" (defArgs s_Fixed_grow) (defBody s_Fixed_grow) (defScope s_Fixed_grow) .none kV_Fixed_grow dc_Fixed_grow pm_Fixed_grow an_Fixed_grow cd_Fixed_grow ct_Fixed_grow,
    F_Fixed_grow := F_Fixed_grow,
    B_Fixed_grow := F_Fixed_grow.binds (ps := ["self", "count", "now"]) fun _ _ _ _ _ _ us hl => match us, hl with | [_, _, _], _ => rfl,
    m_Fixed_grow := ⟨a_Fixed_grow', i_Fixed_grow, k_Fixed_grow⟩,
    a_Fixed_on_loss := a_Fixed_on_loss,
    fd_Fixed_on_loss := PySem.W.fnOf "on_loss" "Fixed.on_loss" (defArgs s_Fixed_on_loss) (defBody s_Fixed_on_loss) (defScope s_Fixed_on_loss) .none kV_Fixed_on_loss dc_Fixed_on_loss pm_Fixed_on_loss an_Fixed_on_loss cd_Fixed_on_loss ct_Fixed_on_loss,
    F_Fixed_on_loss := F_Fixed_on_loss,
    B_Fixed_on_loss := F_Fixed_on_loss.binds (ps := ["self", "flight", "now"]) fun _ _ _ _ _ _ us hl => match us, hl with | [_, _, _], _ => rfl,
    m_Fixed_on_loss := ⟨a_Fixed_on_loss', i_Fixed_on_loss, k_Fixed_on_loss⟩,
    a_Fixed_on_expiry := a_Fixed_on_expiry,
    fd_Fixed_on_expiry := PySem.W.fnOf "on_expiry" "Fixed.on_expiry" (defArgs s_Fixed_on_expiry) (defBody s_Fixed_on_expiry) (defScope s_Fixed_on_expiry) .none kV_Fixed_on_expiry dc_Fixed_on_expiry pm_Fixed_on_expiry an_Fixed_on_expiry cd_Fixed_on_expiry ct_Fixed_on_expiry,
    F_Fixed_on_expiry := F_Fixed_on_expiry,
    B_Fixed_on_expiry := F_Fixed_on_expiry.binds (ps := ["self", "flight", "now"]) fun _ _ _ _ _ _ us hl => match us, hl with | [_, _, _], _ => rfl,
    m_Fixed_on_expiry := ⟨a_Fixed_on_expiry', i_Fixed_on_expiry, k_Fixed_on_expiry⟩,
    a_Fixed_on_sample := a_Fixed_on_sample,
    fd_Fixed_on_sample := PySem.W.fnOf "on_sample" "Fixed.on_sample" (defArgs s_Fixed_on_sample) (defBody s_Fixed_on_sample) (defScope s_Fixed_on_sample) .none kV_Fixed_on_sample dc_Fixed_on_sample pm_Fixed_on_sample an_Fixed_on_sample cd_Fixed_on_sample ct_Fixed_on_sample,
    F_Fixed_on_sample := F_Fixed_on_sample,
    B_Fixed_on_sample := F_Fixed_on_sample.binds (ps := ["self", "ticks"]) fun _ _ _ _ _ _ us hl => match us, hl with | [_, _], _ => rfl,
    m_Fixed_on_sample := ⟨a_Fixed_on_sample', i_Fixed_on_sample, k_Fixed_on_sample⟩,
    a_Climb_on_ack := a_Climb_on_ack,
    fd_Climb_on_ack := _,
    cda_Climb_on_ack := cda_Climb_on_ack,
    cc_Climb_on_ack := cc_Climb_on_ack,
    F_Climb_on_ack := F_Climb_on_ack,
    SK_Climb_on_ack := ⟨⟨_, _, _, _, _, l_Climb_on_ack, rfl, rfl⟩, ⟨_, _, _, _, _, lk_Climb_on_ack, gt_Climb_on_ack⟩, ⟨_, _, _, lx_Climb_on_ack⟩, ⟨_, ci_Climb⟩⟩,
    m_Climb_on_ack := ⟨a_Climb_on_ack', i_Climb_on_ack, k_Climb_on_ack⟩,
    B_Climb_on_ack := Binds.all fun us hl => match us, hl with | [_, _, _, _], _ => rfl,
    a_Climb_grow := a_Climb_grow,
    fd_Climb_grow := PySem.W.fnOf "grow" "Climb.grow" (defArgs s_Climb_grow) (defBody s_Climb_grow) (defScope s_Climb_grow) .none kV_Climb_grow dc_Climb_grow pm_Climb_grow an_Climb_grow cd_Climb_grow ct_Climb_grow,
    F_Climb_grow := F_Climb_grow,
    B_Climb_grow := F_Climb_grow.binds (ps := ["self", "count", "now"]) fun _ _ _ _ _ _ us hl => match us, hl with | [_, _, _], _ => rfl,
    m_Climb_grow := ⟨a_Climb_grow', i_Climb_grow, k_Climb_grow⟩,
    a_Climb_step := a_Climb_step,
    fd_Climb_step := PySem.W.fnOf "_step" "Climb._step" (defArgs s_Climb_step) (defBody s_Climb_step) (defScope s_Climb_step) .none kV_Climb_step dc_Climb_step pm_Climb_step an_Climb_step cd_Climb_step ct_Climb_step,
    F_Climb_step := F_Climb_step,
    B_Climb_step := F_Climb_step.binds (ps := ["self"]) fun _ _ _ _ _ _ us hl => match us, hl with | [_], _ => rfl,
    m_Climb_step := ⟨a_Climb_step', i_Climb_step, k_Climb_step⟩,
    a_Climb_on_loss := a_Climb_on_loss,
    fd_Climb_on_loss := _,
    cda_Climb_on_loss := cda_Climb_on_loss,
    cc_Climb_on_loss := cc_Climb_on_loss,
    F_Climb_on_loss := F_Climb_on_loss,
    SK_Climb_on_loss := ⟨⟨_, _, _, _, _, l_Climb_on_loss, rfl, rfl⟩, ⟨_, _, _, _, _, lk_Climb_on_loss, gt_Climb_on_loss⟩, ⟨_, _, _, lx_Climb_on_loss⟩, ⟨_, ci_Climb⟩⟩,
    m_Climb_on_loss := ⟨a_Climb_on_loss', i_Climb_on_loss, k_Climb_on_loss⟩,
    B_Climb_on_loss := Binds.all fun us hl => match us, hl with | [_, _, _], _ => rfl,
    a_Climb_on_expiry := a_Climb_on_expiry,
    fd_Climb_on_expiry := _,
    cda_Climb_on_expiry := cda_Climb_on_expiry,
    cc_Climb_on_expiry := cc_Climb_on_expiry,
    F_Climb_on_expiry := F_Climb_on_expiry,
    SK_Climb_on_expiry := ⟨⟨_, _, _, _, _, l_Climb_on_expiry, rfl, rfl⟩, ⟨_, _, _, _, _, lk_Climb_on_expiry, gt_Climb_on_expiry⟩, ⟨_, _, _, lx_Climb_on_expiry⟩, ⟨_, ci_Climb⟩⟩,
    m_Climb_on_expiry := ⟨a_Climb_on_expiry', i_Climb_on_expiry, k_Climb_on_expiry⟩,
    B_Climb_on_expiry := Binds.all fun us hl => match us, hl with | [_, _, _], _ => rfl,
    a_Climb_on_sample := a_Climb_on_sample,
    fd_Climb_on_sample := _,
    cda_Climb_on_sample := cda_Climb_on_sample,
    cc_Climb_on_sample := cc_Climb_on_sample,
    F_Climb_on_sample := F_Climb_on_sample,
    SK_Climb_on_sample := ⟨⟨_, _, _, _, _, l_Climb_on_sample, rfl, rfl⟩, ⟨_, _, _, _, _, lk_Climb_on_sample, gt_Climb_on_sample⟩, ⟨_, _, _, lx_Climb_on_sample⟩, ⟨_, ci_Climb⟩⟩,
    m_Climb_on_sample := ⟨a_Climb_on_sample', i_Climb_on_sample, k_Climb_on_sample⟩,
    B_Climb_on_sample := Binds.all fun us hl => match us, hl with | [_, _], _ => rfl,
    a_is_kind := a_is_kind,
    fd_is_kind := PySem.W.fnOf "is_kind" "is_kind" (defArgs s_is_kind) (defBody s_is_kind) (defScope s_is_kind) .none kV_is_kind dc_is_kind pm_is_kind an_is_kind cd_is_kind ct_is_kind,
    F_is_kind := F_is_kind,
    B_is_kind := F_is_kind.binds (ps := ["value"]) fun _ _ _ _ _ _ us hl => match us, hl with | [_], _ => rfl,
    g_is_kind := PySem.W.mg_of X G a_is_kind',
    a_Curve_init_ := a_Curve_init_,
    fd_Curve_init_ := _,
    cda_Curve_init_ := cda_Curve_init_,
    cc_Curve_init_ := cc_Curve_init_,
    F_Curve_init_ := F_Curve_init_,
    SK_Curve_init_ := ⟨⟨_, _, _, _, _, l_Curve_init_, rfl, rfl⟩, ⟨_, _, _, _, _, lk_Curve_init_, gt_Curve_init_⟩, ⟨_, _, _, lx_Curve_init_⟩, ⟨_, ci_Curve⟩⟩,
    M_Curve := ⟨mk_Curve, a_Curve_init_', i_Curve_init_, kc_Curve⟩,
    B_Curve_init_ := Binds.all fun us hl => match us, hl with | [_, _], _ => rfl,
    a_Curve_on_ack := a_Curve_on_ack,
    fd_Curve_on_ack := _,
    cda_Curve_on_ack := cda_Curve_on_ack,
    cc_Curve_on_ack := cc_Curve_on_ack,
    F_Curve_on_ack := F_Curve_on_ack,
    SK_Curve_on_ack := ⟨⟨_, _, _, _, _, l_Curve_on_ack, rfl, rfl⟩, ⟨_, _, _, _, _, lk_Curve_on_ack, gt_Curve_on_ack⟩, ⟨_, _, _, lx_Curve_on_ack⟩, ⟨_, ci_Curve⟩⟩,
    m_Curve_on_ack := ⟨a_Curve_on_ack', i_Curve_on_ack, k_Curve_on_ack⟩,
    B_Curve_on_ack := Binds.all fun us hl => match us, hl with | [_, _, _, _], _ => rfl,
    a_Curve_grow := a_Curve_grow,
    fd_Curve_grow := _,
    cda_Curve_grow := cda_Curve_grow,
    cc_Curve_grow := cc_Curve_grow,
    F_Curve_grow := F_Curve_grow,
    SK_Curve_grow := ⟨⟨_, _, _, _, _, l_Curve_grow, rfl, rfl⟩, ⟨_, _, _, _, _, lk_Curve_grow, gt_Curve_grow⟩, ⟨_, _, _, lx_Curve_grow⟩, ⟨_, ci_Curve⟩⟩,
    m_Curve_grow := ⟨a_Curve_grow', i_Curve_grow, k_Curve_grow⟩,
    B_Curve_grow := Binds.all fun us hl => match us, hl with | [_, _, _], _ => rfl,
    a_Curve_on_loss := a_Curve_on_loss,
    fd_Curve_on_loss := PySem.W.fnOf "on_loss" "Curve.on_loss" (defArgs s_Curve_on_loss) (defBody s_Curve_on_loss) (defScope s_Curve_on_loss) .none kV_Curve_on_loss dc_Curve_on_loss pm_Curve_on_loss an_Curve_on_loss cd_Curve_on_loss ct_Curve_on_loss,
    F_Curve_on_loss := F_Curve_on_loss,
    B_Curve_on_loss := F_Curve_on_loss.binds (ps := ["self", "flight", "now"]) fun _ _ _ _ _ _ us hl => match us, hl with | [_, _, _], _ => rfl,
    m_Curve_on_loss := ⟨a_Curve_on_loss', i_Curve_on_loss, k_Curve_on_loss⟩,
    a_Curve_span_to := a_Curve_span_to,
    fd_Curve_span_to := PySem.W.fnOf "_span_to" "Curve._span_to" (defArgs s_Curve_span_to) (defBody s_Curve_span_to) (defScope s_Curve_span_to) .none kV_Curve_span_to dc_Curve_span_to pm_Curve_span_to an_Curve_span_to cd_Curve_span_to ct_Curve_span_to,
    F_Curve_span_to := F_Curve_span_to,
    B_Curve_span_to := F_Curve_span_to.binds (ps := ["self", "peak"]) fun _ _ _ _ _ _ us hl => match us, hl with | [_, _], _ => rfl,
    m_Curve_span_to := ⟨a_Curve_span_to', i_Curve_span_to, k_Curve_span_to⟩,
    a_Curve_on_expiry := a_Curve_on_expiry,
    fd_Curve_on_expiry := _,
    cda_Curve_on_expiry := cda_Curve_on_expiry,
    cc_Curve_on_expiry := cc_Curve_on_expiry,
    F_Curve_on_expiry := F_Curve_on_expiry,
    SK_Curve_on_expiry := ⟨⟨_, _, _, _, _, l_Curve_on_expiry, rfl, rfl⟩, ⟨_, _, _, _, _, lk_Curve_on_expiry, gt_Curve_on_expiry⟩, ⟨_, _, _, lx_Curve_on_expiry⟩, ⟨_, ci_Curve⟩⟩,
    m_Curve_on_expiry := ⟨a_Curve_on_expiry', i_Curve_on_expiry, k_Curve_on_expiry⟩,
    B_Curve_on_expiry := Binds.all fun us hl => match us, hl with | [_, _, _], _ => rfl,
    a_Curve_on_sample := a_Curve_on_sample,
    fd_Curve_on_sample := _,
    cda_Curve_on_sample := cda_Curve_on_sample,
    cc_Curve_on_sample := cc_Curve_on_sample,
    F_Curve_on_sample := F_Curve_on_sample,
    SK_Curve_on_sample := ⟨⟨_, _, _, _, _, l_Curve_on_sample, rfl, rfl⟩, ⟨_, _, _, _, _, lk_Curve_on_sample, gt_Curve_on_sample⟩, ⟨_, _, _, lx_Curve_on_sample⟩, ⟨_, ci_Curve⟩⟩,
    m_Curve_on_sample := ⟨a_Curve_on_sample', i_Curve_on_sample, k_Curve_on_sample⟩,
    B_Curve_on_sample := Binds.all fun us hl => match us, hl with | [_, _], _ => rfl,
    a_Delay_init_ := a_Delay_init_,
    fd_Delay_init_ := _,
    cda_Delay_init_ := cda_Delay_init_,
    cc_Delay_init_ := cc_Delay_init_,
    F_Delay_init_ := F_Delay_init_,
    SK_Delay_init_ := ⟨⟨_, _, _, _, _, l_Delay_init_, rfl, rfl⟩, ⟨_, _, _, _, _, lk_Delay_init_, gt_Delay_init_⟩, ⟨_, _, _, lx_Delay_init_⟩, ⟨_, ci_Delay⟩⟩,
    M_Delay := ⟨mk_Delay, a_Delay_init_', i_Delay_init_, kc_Delay⟩,
    B_Delay_init_ := Binds.all fun us hl => match us, hl with | [_, _], _ => rfl,
    a_Delay_on_ack := a_Delay_on_ack,
    fd_Delay_on_ack := _,
    cda_Delay_on_ack := cda_Delay_on_ack,
    cc_Delay_on_ack := cc_Delay_on_ack,
    F_Delay_on_ack := F_Delay_on_ack,
    SK_Delay_on_ack := ⟨⟨_, _, _, _, _, l_Delay_on_ack, rfl, rfl⟩, ⟨_, _, _, _, _, lk_Delay_on_ack, gt_Delay_on_ack⟩, ⟨_, _, _, lx_Delay_on_ack⟩, ⟨_, ci_Delay⟩⟩,
    m_Delay_on_ack := ⟨a_Delay_on_ack', i_Delay_on_ack, k_Delay_on_ack⟩,
    B_Delay_on_ack := Binds.all fun us hl => match us, hl with | [_, _, _, _], _ => rfl,
    a_Delay_grow := a_Delay_grow,
    fd_Delay_grow := _,
    cda_Delay_grow := cda_Delay_grow,
    cc_Delay_grow := cc_Delay_grow,
    F_Delay_grow := F_Delay_grow,
    SK_Delay_grow := ⟨⟨_, _, _, _, _, l_Delay_grow, rfl, rfl⟩, ⟨_, _, _, _, _, lk_Delay_grow, gt_Delay_grow⟩, ⟨_, _, _, lx_Delay_grow⟩, ⟨_, ci_Delay⟩⟩,
    m_Delay_grow := ⟨a_Delay_grow', i_Delay_grow, k_Delay_grow⟩,
    B_Delay_grow := Binds.all fun us hl => match us, hl with | [_, _, _], _ => rfl,
    a_Delay_step := a_Delay_step,
    fd_Delay_step := PySem.W.fnOf "_step" "Delay._step" (defArgs s_Delay_step) (defBody s_Delay_step) (defScope s_Delay_step) .none kV_Delay_step dc_Delay_step pm_Delay_step an_Delay_step cd_Delay_step ct_Delay_step,
    F_Delay_step := F_Delay_step,
    B_Delay_step := F_Delay_step.binds (ps := ["self"]) fun _ _ _ _ _ _ us hl => match us, hl with | [_], _ => rfl,
    m_Delay_step := ⟨a_Delay_step', i_Delay_step, k_Delay_step⟩,
    a_Delay_surplus := a_Delay_surplus,
    fd_Delay_surplus := PySem.W.fnOf "_surplus" "Delay._surplus" (defArgs s_Delay_surplus) (defBody s_Delay_surplus) (defScope s_Delay_surplus) .none kV_Delay_surplus dc_Delay_surplus pm_Delay_surplus an_Delay_surplus cd_Delay_surplus ct_Delay_surplus,
    F_Delay_surplus := F_Delay_surplus,
    B_Delay_surplus := F_Delay_surplus.binds (ps := ["self"]) fun _ _ _ _ _ _ us hl => match us, hl with | [_], _ => rfl,
    m_Delay_surplus := ⟨a_Delay_surplus', i_Delay_surplus, k_Delay_surplus⟩,
    a_Delay_on_loss := a_Delay_on_loss,
    fd_Delay_on_loss := _,
    cda_Delay_on_loss := cda_Delay_on_loss,
    cc_Delay_on_loss := cc_Delay_on_loss,
    F_Delay_on_loss := F_Delay_on_loss,
    SK_Delay_on_loss := ⟨⟨_, _, _, _, _, l_Delay_on_loss, rfl, rfl⟩, ⟨_, _, _, _, _, lk_Delay_on_loss, gt_Delay_on_loss⟩, ⟨_, _, _, lx_Delay_on_loss⟩, ⟨_, ci_Delay⟩⟩,
    m_Delay_on_loss := ⟨a_Delay_on_loss', i_Delay_on_loss, k_Delay_on_loss⟩,
    B_Delay_on_loss := Binds.all fun us hl => match us, hl with | [_, _, _], _ => rfl,
    a_Delay_on_expiry := a_Delay_on_expiry,
    fd_Delay_on_expiry := _,
    cda_Delay_on_expiry := cda_Delay_on_expiry,
    cc_Delay_on_expiry := cc_Delay_on_expiry,
    F_Delay_on_expiry := F_Delay_on_expiry,
    SK_Delay_on_expiry := ⟨⟨_, _, _, _, _, l_Delay_on_expiry, rfl, rfl⟩, ⟨_, _, _, _, _, lk_Delay_on_expiry, gt_Delay_on_expiry⟩, ⟨_, _, _, lx_Delay_on_expiry⟩, ⟨_, ci_Delay⟩⟩,
    m_Delay_on_expiry := ⟨a_Delay_on_expiry', i_Delay_on_expiry, k_Delay_on_expiry⟩,
    B_Delay_on_expiry := Binds.all fun us hl => match us, hl with | [_, _, _], _ => rfl,
    a_Delay_on_sample := a_Delay_on_sample,
    fd_Delay_on_sample := PySem.W.fnOf "on_sample" "Delay.on_sample" (defArgs s_Delay_on_sample) (defBody s_Delay_on_sample) (defScope s_Delay_on_sample) .none kV_Delay_on_sample dc_Delay_on_sample pm_Delay_on_sample an_Delay_on_sample cd_Delay_on_sample ct_Delay_on_sample,
    F_Delay_on_sample := F_Delay_on_sample,
    B_Delay_on_sample := F_Delay_on_sample.binds (ps := ["self", "ticks"]) fun _ _ _ _ _ _ us hl => match us, hl with | [_, _], _ => rfl,
    m_Delay_on_sample := ⟨a_Delay_on_sample', i_Delay_on_sample, k_Delay_on_sample⟩,
    a_control_of := a_control_of,
    fd_control_of := PySem.W.fnOf "control_of" "control_of" (defArgs s_control_of) (defBody s_control_of) (defScope s_control_of) .none kV_control_of dc_control_of pm_control_of an_control_of cd_control_of ct_control_of,
    F_control_of := F_control_of,
    B_control_of := F_control_of.binds (ps := ["kind", "unit"]) fun _ _ _ _ _ _ us hl => match us, hl with | [_, _], _ => rfl,
    g_control_of := PySem.W.mg_of X G a_control_of',
    a__law_cell := a__law_cell,
    fd__law_cell := PySem.W.fnOf "_law_cell" "_law_cell" (defArgs s__law_cell) (defBody s__law_cell) (defScope s__law_cell) .none kV__law_cell dc__law_cell pm__law_cell an__law_cell cd__law_cell ct__law_cell,
    F__law_cell := F__law_cell,
    B__law_cell := F__law_cell.binds (ps := ["script", "k"]) fun _ _ _ _ _ _ us hl => match us, hl with | [_, _], _ => rfl,
    g__law_cell := PySem.W.mg_of X G a__law_cell',
    a__law_rounds := a__law_rounds,
    fd__law_rounds := PySem.W.fnOf "_law_rounds" "_law_rounds" (defArgs s__law_rounds) (defBody s__law_rounds) (defScope s__law_rounds) .none kV__law_rounds dc__law_rounds pm__law_rounds an__law_rounds cd__law_rounds ct__law_rounds,
    F__law_rounds := F__law_rounds,
    B__law_rounds := F__law_rounds.binds (ps := ["script"]) fun _ _ _ _ _ _ us hl => match us, hl with | [_], _ => rfl,
    g__law_rounds := PySem.W.mg_of X G a__law_rounds',
    a__law_box := a__law_box,
    fd__law_box := PySem.W.fnOf "_law_box" "_law_box" (defArgs s__law_box) (defBody s__law_box) (defScope s__law_box) .none kV__law_box dc__law_box pm__law_box an__law_box cd__law_box ct__law_box,
    F__law_box := F__law_box,
    B__law_box := F__law_box.binds (ps := ["cell"]) fun _ _ _ _ _ _ us hl => match us, hl with | [_], _ => rfl,
    g__law_box := PySem.W.mg_of X G a__law_box',
    a__law_draw := a__law_draw,
    fd__law_draw := PySem.W.fnOf "_law_draw" "_law_draw" (defArgs s__law_draw) (defBody s__law_draw) (defScope s__law_draw) .none kV__law_draw dc__law_draw pm__law_draw an__law_draw cd__law_draw ct__law_draw,
    F__law_draw := F__law_draw,
    B__law_draw := F__law_draw.binds (ps := ["box", "size"]) fun _ _ _ _ _ _ us hl => match us, hl with | [_, _], _ => rfl,
    g__law_draw := PySem.W.mg_of X G a__law_draw',
    a__law_unit := a__law_unit,
    fd__law_unit := PySem.W.fnOf "_law_unit" "_law_unit" (defArgs s__law_unit) (defBody s__law_unit) (defScope s__law_unit) .none kV__law_unit dc__law_unit pm__law_unit an__law_unit cd__law_unit ct__law_unit,
    F__law_unit := F__law_unit,
    B__law_unit := F__law_unit.binds (ps := ["box"]) fun _ _ _ _ _ _ us hl => match us, hl with | [_], _ => rfl,
    g__law_unit := PySem.W.mg_of X G a__law_unit',
    a__law_whole := a__law_whole,
    fd__law_whole := PySem.W.fnOf "_law_whole" "_law_whole" (defArgs s__law_whole) (defBody s__law_whole) (defScope s__law_whole) .none kV__law_whole dc__law_whole pm__law_whole an__law_whole cd__law_whole ct__law_whole,
    F__law_whole := F__law_whole,
    B__law_whole := F__law_whole.binds (ps := ["value", "wanted"]) fun _ _ _ _ _ _ us hl => match us, hl with | [_, _], _ => rfl,
    g__law_whole := PySem.W.mg_of X G a__law_whole',
    a__law_truth := a__law_truth,
    fd__law_truth := PySem.W.fnOf "_law_truth" "_law_truth" (defArgs s__law_truth) (defBody s__law_truth) (defScope s__law_truth) .none kV__law_truth dc__law_truth pm__law_truth an__law_truth cd__law_truth ct__law_truth,
    F__law_truth := F__law_truth,
    B__law_truth := F__law_truth.binds (ps := ["value", "wanted"]) fun _ _ _ _ _ _ us hl => match us, hl with | [_, _], _ => rfl,
    g__law_truth := PySem.W.mg_of X G a__law_truth',
    a__law_base := a__law_base,
    fd__law_base := PySem.W.fnOf "_law_base" "_law_base" (defArgs s__law_base) (defBody s__law_base) (defScope s__law_base) .none kV__law_base dc__law_base pm__law_base an__law_base cd__law_base ct__law_base,
    F__law_base := F__law_base,
    B__law_base := F__law_base.binds (ps := ["control", "state"]) fun _ _ _ _ _ _ us hl => match us, hl with | [_, _], _ => rfl,
    g__law_base := PySem.W.mg_of X G a__law_base',
    a__law_make := a__law_make,
    fd__law_make := PySem.W.fnOf "_law_make" "_law_make" (defArgs s__law_make) (defBody s__law_make) (defScope s__law_make) .none kV__law_make dc__law_make pm__law_make an__law_make cd__law_make ct__law_make,
    F__law_make := F__law_make,
    B__law_make := F__law_make.binds (ps := ["which", "unit", "pieces"]) fun _ _ _ _ _ _ us hl => match us, hl with | [_, _, _], _ => rfl,
    g__law_make := PySem.W.mg_of X G a__law_make',
    a__law_word := a__law_word,
    fd__law_word := PySem.W.fnOf "_law_word" "_law_word" (defArgs s__law_word) (defBody s__law_word) (defScope s__law_word) .none kV__law_word dc__law_word pm__law_word an__law_word cd__law_word ct__law_word,
    F__law_word := F__law_word,
    B__law_word := F__law_word.binds (ps := ["which"]) fun _ _ _ _ _ _ us hl => match us, hl with | [_], _ => rfl,
    g__law_word := PySem.W.mg_of X G a__law_word',
    a__law_times := a__law_times,
    fd__law_times := PySem.W.fnOf "_law_times" "_law_times" (defArgs s__law_times) (defBody s__law_times) (defScope s__law_times) .none kV__law_times dc__law_times pm__law_times an__law_times cd__law_times ct__law_times,
    F__law_times := F__law_times,
    B__law_times := F__law_times.binds (ps := ["which", "pieces"]) fun _ _ _ _ _ _ us hl => match us, hl with | [_, _], _ => rfl,
    g__law_times := PySem.W.mg_of X G a__law_times',
    a__law_classed := a__law_classed,
    fd__law_classed := PySem.W.fnOf "_law_classed" "_law_classed" (defArgs s__law_classed) (defBody s__law_classed) (defScope s__law_classed) .none kV__law_classed dc__law_classed pm__law_classed an__law_classed cd__law_classed ct__law_classed,
    F__law_classed := F__law_classed,
    B__law_classed := F__law_classed.binds (ps := ["control", "word"]) fun _ _ _ _ _ _ us hl => match us, hl with | [_, _], _ => rfl,
    g__law_classed := PySem.W.mg_of X G a__law_classed',
    a__law_fresh := a__law_fresh,
    fd__law_fresh := PySem.W.fnOf "_law_fresh" "_law_fresh" (defArgs s__law_fresh) (defBody s__law_fresh) (defScope s__law_fresh) .none kV__law_fresh dc__law_fresh pm__law_fresh an__law_fresh cd__law_fresh ct__law_fresh,
    F__law_fresh := F__law_fresh,
    B__law_fresh := F__law_fresh.binds (ps := ["control", "which", "unit", "pieces"]) fun _ _ _ _ _ _ us hl => match us, hl with | [_, _, _, _], _ => rfl,
    g__law_fresh := PySem.W.mg_of X G a__law_fresh',
    a__law_bad := a__law_bad,
    fd__law_bad := PySem.W.fnOf "_law_bad" "_law_bad" (defArgs s__law_bad) (defBody s__law_bad) (defScope s__law_bad) .none kV__law_bad dc__law_bad pm__law_bad an__law_bad cd__law_bad ct__law_bad,
    F__law_bad := F__law_bad,
    B__law_bad := F__law_bad.binds (ps := ["box", "most"]) fun _ _ _ _ _ _ us hl => match us, hl with | [_, _], _ => rfl,
    g__law_bad := PySem.W.mg_of X G a__law_bad',
    a__law_refusal := a__law_refusal,
    fd__law_refusal := PySem.W.fnOf "_law_refusal" "_law_refusal" (defArgs s__law_refusal) (defBody s__law_refusal) (defScope s__law_refusal) .none kV__law_refusal dc__law_refusal pm__law_refusal an__law_refusal cd__law_refusal ct__law_refusal,
    F__law_refusal := F__law_refusal,
    B__law_refusal := F__law_refusal.binds (ps := ["which", "unit", "pieces"]) fun _ _ _ _ _ _ us hl => match us, hl with | [_, _, _], _ => rfl,
    g__law_refusal := PySem.W.mg_of X G a__law_refusal',
    a__law_stranger := a__law_stranger,
    fd__law_stranger := PySem.W.fnOf "_law_stranger" "_law_stranger" (defArgs s__law_stranger) (defBody s__law_stranger) (defScope s__law_stranger) .none kV__law_stranger dc__law_stranger pm__law_stranger an__law_stranger cd__law_stranger ct__law_stranger,
    F__law_stranger := F__law_stranger,
    B__law_stranger := F__law_stranger.binds (ps := ["kind", "unit"]) fun _ _ _ _ _ _ us hl => match us, hl with | [_, _], _ => rfl,
    g__law_stranger := PySem.W.mg_of X G a__law_stranger',
    a__law_apart := a__law_apart,
    fd__law_apart := PySem.W.fnOf "_law_apart" "_law_apart" (defArgs s__law_apart) (defBody s__law_apart) (defScope s__law_apart) .none kV__law_apart dc__law_apart pm__law_apart an__law_apart cd__law_apart ct__law_apart,
    F__law_apart := F__law_apart,
    B__law_apart := F__law_apart.binds (ps := ["which", "unit", "pieces", "box"]) fun _ _ _ _ _ _ us hl => match us, hl with | [_, _, _, _], _ => rfl,
    g__law_apart := PySem.W.mg_of X G a__law_apart',
    a__law_units := a__law_units,
    fd__law_units := PySem.W.fnOf "_law_units" "_law_units" (defArgs s__law_units) (defBody s__law_units) (defScope s__law_units) .none kV__law_units dc__law_units pm__law_units an__law_units cd__law_units ct__law_units,
    F__law_units := F__law_units,
    B__law_units := F__law_units.binds (ps := ["which", "pieces", "box"]) fun _ _ _ _ _ _ us hl => match us, hl with | [_, _, _], _ => rfl,
    g__law_units := PySem.W.mg_of X G a__law_units',
    a__law_pieces := a__law_pieces,
    fd__law_pieces := PySem.W.fnOf "_law_pieces" "_law_pieces" (defArgs s__law_pieces) (defBody s__law_pieces) (defScope s__law_pieces) .none kV__law_pieces dc__law_pieces pm__law_pieces an__law_pieces cd__law_pieces ct__law_pieces,
    F__law_pieces := F__law_pieces,
    B__law_pieces := F__law_pieces.binds (ps := ["unit", "pieces", "box"]) fun _ _ _ _ _ _ us hl => match us, hl with | [_, _, _], _ => rfl,
    g__law_pieces := PySem.W.mg_of X G a__law_pieces',
    a__law_kinds := a__law_kinds,
    fd__law_kinds := PySem.W.fnOf "_law_kinds" "_law_kinds" (defArgs s__law_kinds) (defBody s__law_kinds) (defScope s__law_kinds) .none kV__law_kinds dc__law_kinds pm__law_kinds an__law_kinds cd__law_kinds ct__law_kinds,
    F__law_kinds := F__law_kinds,
    B__law_kinds := F__law_kinds.binds (ps := ["unit", "pieces", "box"]) fun _ _ _ _ _ _ us hl => match us, hl with | [_, _, _], _ => rfl,
    g__law_kinds := PySem.W.mg_of X G a__law_kinds',
    a__law_refused := a__law_refused,
    fd__law_refused := PySem.W.fnOf "_law_refused" "_law_refused" (defArgs s__law_refused) (defBody s__law_refused) (defScope s__law_refused) .none kV__law_refused dc__law_refused pm__law_refused an__law_refused cd__law_refused ct__law_refused,
    F__law_refused := F__law_refused,
    B__law_refused := F__law_refused.binds (ps := ["control", "bad", "grows", "now"]) fun _ _ _ _ _ _ us hl => match us, hl with | [_, _, _, _], _ => rfl,
    g__law_refused := PySem.W.mg_of X G a__law_refused',
    a__law_counts := a__law_counts,
    fd__law_counts := PySem.W.fnOf "_law_counts" "_law_counts" (defArgs s__law_counts) (defBody s__law_counts) (defScope s__law_counts) .none kV__law_counts dc__law_counts pm__law_counts an__law_counts cd__law_counts ct__law_counts,
    F__law_counts := F__law_counts,
    B__law_counts := F__law_counts.binds (ps := ["which", "unit", "pieces", "box"]) fun _ _ _ _ _ _ us hl => match us, hl with | [_, _, _, _], _ => rfl,
    g__law_counts := PySem.W.mg_of X G a__law_counts',
    a__law_names := a__law_names,
    fd__law_names := PySem.W.fnOf "_law_names" "_law_names" (defArgs s__law_names) (defBody s__law_names) (defScope s__law_names) .none kV__law_names dc__law_names pm__law_names an__law_names cd__law_names ct__law_names,
    F__law_names := F__law_names,
    B__law_names := F__law_names.binds (ps := []) fun _ _ _ _ _ _ us hl => match us, hl with | [], _ => rfl,
    g__law_names := PySem.W.mg_of X G a__law_names',
    a__law_question := a__law_question,
    fd__law_question := PySem.W.fnOf "_law_question" "_law_question" (defArgs s__law_question) (defBody s__law_question) (defScope s__law_question) .none kV__law_question dc__law_question pm__law_question an__law_question cd__law_question ct__law_question,
    F__law_question := F__law_question,
    B__law_question := F__law_question.binds (ps := ["box"]) fun _ _ _ _ _ _ us hl => match us, hl with | [_], _ => rfl,
    g__law_question := PySem.W.mg_of X G a__law_question',
    a_law := a_law,
    fd_law := PySem.W.fnOf "law" "law" (defArgs s_law) (defBody s_law) (defScope s_law) .none kV_law dc_law pm_law an_law cd_law ct_law,
    F_law := F_law,
    B_law := F_law.binds (ps := ["script"]) fun _ _ _ _ _ _ us hl => match us, hl with | [_], _ => rfl,
    g_law := PySem.W.mg_of X G a_law',
    PR_Fixed_starting := ⟨ih_Fixed_starting, pg_Control_starting, pt_Control_starting, ⟨_, rc_Control_starting⟩⟩,
    M_Climb := ⟨mk_Climb, ih_Climb_init_, i_Control_init_, kc_Climb⟩,
    PR_Climb_starting := ⟨ih_Climb_starting, pg_Control_starting, pt_Control_starting, ⟨_, rc_Control_starting⟩⟩,
    m_Climb_set_window := ⟨ih_Climb_set_window, i_Control_set_window, k_Control_set_window⟩,
    PR_Curve_starting := ⟨ih_Curve_starting, pg_Control_starting, pt_Control_starting, ⟨_, rc_Control_starting⟩⟩,
    m_Curve_set_window := ⟨ih_Curve_set_window, i_Control_set_window, k_Control_set_window⟩,
    m_Curve_step := ⟨ih_Curve_step, i_Climb_step, k_Climb_step⟩,
    PR_Delay_starting := ⟨ih_Delay_starting, pg_Control_starting, pt_Control_starting, ⟨_, rc_Control_starting⟩⟩,
    m_Delay_set_window := ⟨ih_Delay_set_window, i_Control_set_window, k_Control_set_window⟩,
    SC_Fixed_Fixed_init_ := ⟨⟨_, ci_Fixed⟩, sm_SC_Fixed_Fixed_init_, sw_SC_Fixed_Fixed_init_, st_SC_Fixed_Fixed_init_, sf_SC_Fixed_Fixed_init_, sy_⟩,
    SC_Climb_Climb_on_ack := ⟨⟨_, ci_Climb⟩, sm_SC_Climb_Climb_on_ack, sw_SC_Climb_Climb_on_ack, st_SC_Climb_Climb_on_ack, sf_SC_Climb_Climb_on_ack, sy_⟩,
    SC_Curve_Climb_on_ack := ⟨⟨_, ci_Curve⟩, sm_SC_Curve_Climb_on_ack, sw_SC_Curve_Climb_on_ack, st_SC_Curve_Climb_on_ack, sf_SC_Curve_Climb_on_ack, sy_⟩,
    SC_Delay_Climb_on_ack := ⟨⟨_, ci_Delay⟩, sm_SC_Delay_Climb_on_ack, sw_SC_Delay_Climb_on_ack, st_SC_Delay_Climb_on_ack, sf_SC_Delay_Climb_on_ack, sy_⟩,
    SC_Climb_Climb_on_loss := ⟨⟨_, ci_Climb⟩, sm_SC_Climb_Climb_on_loss, sw_SC_Climb_Climb_on_loss, st_SC_Climb_Climb_on_loss, sf_SC_Climb_Climb_on_loss, sy_⟩,
    SC_Curve_Climb_on_loss := ⟨⟨_, ci_Curve⟩, sm_SC_Curve_Climb_on_loss, sw_SC_Curve_Climb_on_loss, st_SC_Curve_Climb_on_loss, sf_SC_Curve_Climb_on_loss, sy_⟩,
    SC_Delay_Climb_on_loss := ⟨⟨_, ci_Delay⟩, sm_SC_Delay_Climb_on_loss, sw_SC_Delay_Climb_on_loss, st_SC_Delay_Climb_on_loss, sf_SC_Delay_Climb_on_loss, sy_⟩,
    SC_Climb_Climb_on_expiry := ⟨⟨_, ci_Climb⟩, sm_SC_Climb_Climb_on_expiry, sw_SC_Climb_Climb_on_expiry, st_SC_Climb_Climb_on_expiry, sf_SC_Climb_Climb_on_expiry, sy_⟩,
    SC_Curve_Climb_on_expiry := ⟨⟨_, ci_Curve⟩, sm_SC_Curve_Climb_on_expiry, sw_SC_Curve_Climb_on_expiry, st_SC_Curve_Climb_on_expiry, sf_SC_Curve_Climb_on_expiry, sy_⟩,
    SC_Delay_Climb_on_expiry := ⟨⟨_, ci_Delay⟩, sm_SC_Delay_Climb_on_expiry, sw_SC_Delay_Climb_on_expiry, st_SC_Delay_Climb_on_expiry, sf_SC_Delay_Climb_on_expiry, sy_⟩,
    SC_Climb_Climb_on_sample := ⟨⟨_, ci_Climb⟩, sm_SC_Climb_Climb_on_sample, sw_SC_Climb_Climb_on_sample, st_SC_Climb_Climb_on_sample, sf_SC_Climb_Climb_on_sample, sy_⟩,
    SC_Curve_Climb_on_sample := ⟨⟨_, ci_Curve⟩, sm_SC_Curve_Climb_on_sample, sw_SC_Curve_Climb_on_sample, st_SC_Curve_Climb_on_sample, sf_SC_Curve_Climb_on_sample, sy_⟩,
    SC_Delay_Climb_on_sample := ⟨⟨_, ci_Delay⟩, sm_SC_Delay_Climb_on_sample, sw_SC_Delay_Climb_on_sample, st_SC_Delay_Climb_on_sample, sf_SC_Delay_Climb_on_sample, sy_⟩,
    SC_Curve_Curve_init_ := ⟨⟨_, ci_Curve⟩, sm_SC_Curve_Curve_init_, sw_SC_Curve_Curve_init_, st_SC_Curve_Curve_init_, sf_SC_Curve_Curve_init_, sy_⟩,
    SC_Curve_Curve_on_ack := ⟨⟨_, ci_Curve⟩, sm_SC_Curve_Curve_on_ack, sw_SC_Curve_Curve_on_ack, st_SC_Curve_Curve_on_ack, sf_SC_Curve_Curve_on_ack, sy_⟩,
    SC_Curve_Curve_grow := ⟨⟨_, ci_Curve⟩, sm_SC_Curve_Curve_grow, sw_SC_Curve_Curve_grow, st_SC_Curve_Curve_grow, sf_SC_Curve_Curve_grow, sy_⟩,
    SC_Curve_Curve_on_expiry := ⟨⟨_, ci_Curve⟩, sm_SC_Curve_Curve_on_expiry, sw_SC_Curve_Curve_on_expiry, st_SC_Curve_Curve_on_expiry, sf_SC_Curve_Curve_on_expiry, sy_⟩,
    SC_Curve_Curve_on_sample := ⟨⟨_, ci_Curve⟩, sm_SC_Curve_Curve_on_sample, sw_SC_Curve_Curve_on_sample, st_SC_Curve_Curve_on_sample, sf_SC_Curve_Curve_on_sample, sy_⟩,
    SC_Delay_Delay_init_ := ⟨⟨_, ci_Delay⟩, sm_SC_Delay_Delay_init_, sw_SC_Delay_Delay_init_, st_SC_Delay_Delay_init_, sf_SC_Delay_Delay_init_, sy_⟩,
    SC_Delay_Delay_on_ack := ⟨⟨_, ci_Delay⟩, sm_SC_Delay_Delay_on_ack, sw_SC_Delay_Delay_on_ack, st_SC_Delay_Delay_on_ack, sf_SC_Delay_Delay_on_ack, sy_⟩,
    SC_Delay_Delay_grow := ⟨⟨_, ci_Delay⟩, sm_SC_Delay_Delay_grow, sw_SC_Delay_Delay_grow, st_SC_Delay_Delay_grow, sf_SC_Delay_Delay_grow, sy_⟩,
    SC_Delay_Delay_on_loss := ⟨⟨_, ci_Delay⟩, sm_SC_Delay_Delay_on_loss, sw_SC_Delay_Delay_on_loss, st_SC_Delay_Delay_on_loss, sf_SC_Delay_Delay_on_loss, sy_⟩,
    SC_Delay_Delay_on_expiry := ⟨⟨_, ci_Delay⟩, sm_SC_Delay_Delay_on_expiry, sw_SC_Delay_Delay_on_expiry, st_SC_Delay_Delay_on_expiry, sf_SC_Delay_Delay_on_expiry, sy_⟩,
    Kv_InvalidNumber := Kv_InvalidNumber,
    Kv_InvalidSetting := Kv_InvalidSetting,
    rc_Control := rc_Control,
    rc_Fixed := rc_Fixed,
    rc_Climb := rc_Climb,
    rc_Curve := rc_Curve,
    rc_Delay := rc_Delay,
    rm_Control := rm_Control,
    rm_Fixed := rm_Fixed,
    rm_Climb := rm_Climb,
    rm_Curve := rm_Curve,
    rm_Delay := rm_Delay,
    ri_get := ri_get,
    ri_tk := ri_tk,
    ki_Control_Control := ki_Control_Control,
    ki_Control_Fixed := ki_Control_Fixed,
    ki_Control_Climb := ki_Control_Climb,
    ki_Control_Curve := ki_Control_Curve,
    ki_Control_Delay := ki_Control_Delay,
    ki_Fixed_Control := ki_Fixed_Control,
    ki_Fixed_Fixed := ki_Fixed_Fixed,
    ki_Fixed_Climb := ki_Fixed_Climb,
    ki_Fixed_Curve := ki_Fixed_Curve,
    ki_Fixed_Delay := ki_Fixed_Delay,
    ki_Climb_Control := ki_Climb_Control,
    ki_Climb_Fixed := ki_Climb_Fixed,
    ki_Climb_Climb := ki_Climb_Climb,
    ki_Climb_Curve := ki_Climb_Curve,
    ki_Climb_Delay := ki_Climb_Delay,
    ki_Curve_Control := ki_Curve_Control,
    ki_Curve_Fixed := ki_Curve_Fixed,
    ki_Curve_Climb := ki_Curve_Climb,
    ki_Curve_Curve := ki_Curve_Curve,
    ki_Curve_Delay := ki_Curve_Delay,
    ki_Delay_Control := ki_Delay_Control,
    ki_Delay_Fixed := ki_Delay_Fixed,
    ki_Delay_Climb := ki_Delay_Climb,
    ki_Delay_Curve := ki_Delay_Curve,
    ki_Delay_Delay := ki_Delay_Delay,
    b_ValueError := PySem.W.mg_none_of X G z_ValueError,
    b_bool := PySem.W.mg_none_of X G z_bool,
    b_int := PySem.W.mg_none_of X G z_int,
    b_isinstance := PySem.W.mg_none_of X G z_isinstance,
    b_len := PySem.W.mg_none_of X G z_len,
    b_list := PySem.W.mg_none_of X G z_list,
    b_max := PySem.W.mg_none_of X G z_max,
    b_min := PySem.W.mg_none_of X G z_min,
    b_property := PySem.W.mg_none_of X G z_property,
    b_range := PySem.W.mg_none_of X G z_range,
    b_str := PySem.W.mg_none_of X G z_str,
    b_sum := PySem.W.mg_none_of X G z_sum,
    b_super := PySem.W.mg_none_of X G z_super,
    b_tuple := PySem.W.mg_none_of X G z_tuple,
    t_KINDS := t_KINDS,
    g_KINDS := PySem.W.mg_of X G q_KINDS,
    T_KINDS := fun _ => .inr ⟨_, _, _, lt_KINDS, rfl, rfl, tz_KINDS, tv_KINDS⟩,
    u_MOST_PIECES := u_MOST_PIECES,
    g_MOST_PIECES := PySem.W.mg_of X G q_MOST_PIECES,
    r_MOST_PIECES := w_MOST_PIECES }
  exact ⟨T.fd_law, fun s v => .of_eq rfl, fun base _ _ => ok_law (P := l.prog) (w := w) (base := base) T⟩
theorem walk {l : PySem.W.OpenLaw} {q : Program} {loose : List Str} {XP : (Str → Option Value) → Heap → Prop} {YP : World → Heap → Prop} {d : DefRec} {K : Params → PySem.W.Frag} (hn : l.most = some 63) (hdf : d.params.defaults = [])
    (hY : ∀ (w : World) (h : Heap), YP w h → (K w.params).In h)
    (F : ∀ (w : World) (mg : Str → Option Value) (fa : Addr) (h : Heap), (K w.params).In h → h.Ns mainGlobals mg → mg d.name = some (.ref fa) →
      ∃ fd : FuncData, (∀ (s : Shared) (u : Value), BindsTo s fd ⟨[u], []⟩ [("script", u)]) ∧ ∀ base : Heap, (K w.params).In base → base.Ns mainGlobals mg → FnOk l.prog w (K w.params) mg base CX0 12 fa fd ["script"] (sp_law (K w.params))) :
    PySem.W.WalkO q loose XP YP l.row.toRowW d [] (fun f vs => PySem.call f vs) :=
  L2.walk_of (CX := fun _ => CX0) (n := 63) (k := 12) (x := "script") (sp := fun w => sp_law (K w.params)) hn (by decide) hdf ⟨rfl, by decide, by decide⟩ hY F (fun _ _ a ns hl _ hS => ⟨a, ns, rfl, hS, hl, fun _ => rfl⟩) fun _ _ _ _ _ z => z
end My

instance : My.SupP PySem.Challenge.rw_lossway_k24_controls_made.prog := ⟨by decide +kernel, by decide +kernel⟩
open PySem PySem.W PyProof.Rows in
set_option maxRecDepth 100000 in
set_option maxHeartbeats 0 in
theorem PySem.Challenge.cw_lossway_k24_controls_made_holds : PySem.Challenge.rw_lossway_k24_controls_made.Holds := by
  w_on; o_law; k_head; (case hw => w_witness2)
  k_fill
  refine My.walk (l := PySem.Challenge.rw_lossway_k24_controls_made) rfl rfl (fun w h Y => PySem.W.kIn_of Y) ?F
  case F =>
    intro w mg fa h KX G hmg
    refine' My.all_mk KX G hmg ?aC_Control ?pg_Control ?hd_Control ?po_Control ?sa_Control ?mk_Control ?kc_Control ?n_Control_unit ?n_Control_window ?n_Control_threshold ?n_Control_credit ?n_Control_stalled ?rd_Control ?ga_Control ?va_Control_GREATEST ?va_Control_KIND ?ia_Control_KIND ?ig_Control_KIND ?aC_Fixed ?pg_Fixed ?hd_Fixed ?po_Fixed ?sa_Fixed ?mk_Fixed ?kc_Fixed ?n_Fixed_unit ?n_Fixed_window ?n_Fixed_threshold ?n_Fixed_credit ?n_Fixed_stalled ?rd_Fixed ?ga_Fixed ?va_Fixed_KIND ?ia_Fixed_KIND ?ig_Fixed_KIND ?aC_Climb ?pg_Climb ?hd_Climb ?po_Climb ?sa_Climb ?n_Climb_unit ?n_Climb_window ?n_Climb_threshold ?n_Climb_credit ?n_Climb_stalled ?rd_Climb ?ga_Climb ?va_Climb_KIND ?ia_Climb_KIND ?ig_Climb_KIND ?aC_Curve ?pg_Curve ?hd_Curve ?po_Curve ?sa_Curve ?mk_Curve ?kc_Curve ?n_Curve_unit ?n_Curve_window ?n_Curve_threshold ?n_Curve_credit ?n_Curve_stalled ?n_Curve_peak ?n_Curve_span ?n_Curve_born ?rd_Curve ?ga_Curve ?va_Curve_KIND ?ia_Curve_KIND ?ig_Curve_KIND ?aC_Delay ?pg_Delay ?hd_Delay ?po_Delay ?sa_Delay ?mk_Delay ?kc_Delay ?n_Delay_unit ?n_Delay_window ?n_Delay_threshold ?n_Delay_credit ?n_Delay_stalled ?n_Delay_least ?n_Delay_latest ?n_Delay_samples ?rd_Delay ?ga_Delay ?va_Delay_KIND ?ia_Delay_KIND ?ig_Delay_KIND ?aC_LossError ?aC_InvalidNumber ?xl_InvalidNumber ?sa_InvalidNumber ?xx_InvalidNumber ?xt_InvalidNumber ?xk_InvalidNumber ?xi_InvalidNumber ?xg_InvalidNumber ?xh_InvalidNumber ?xy_InvalidNumber ?xc_InvalidNumber ?xr_InvalidNumber ?nX_InvalidNumber ?aC_InvalidSetting ?xl_InvalidSetting ?sa_InvalidSetting ?xx_InvalidSetting ?xt_InvalidSetting ?xk_InvalidSetting ?xi_InvalidSetting ?xg_InvalidSetting ?xh_InvalidSetting ?xy_InvalidSetting ?xc_InvalidSetting ?xr_InvalidSetting ?nX_InvalidSetting ?x_get ?x_tk ?Me_InvalidNumber_LossError ?Me_InvalidSetting_LossError ?Me_InvalidSetting_InvalidSetting ?Kt_InvalidNumber_InvalidNumber ?Kt_InvalidNumber_InvalidSetting ?Kt_InvalidSetting_InvalidNumber ?Kt_InvalidSetting_InvalidSetting ?Kt_InvalidSetting_LossError ?Kt_InvalidNumber_LossError ?xf_InvalidNumber_init_ ?l_InvalidNumber_init_ ?e_InvalidNumber_init_ ?k_InvalidNumber_init_ ?xf_InvalidSetting_init_ ?l_InvalidSetting_init_ ?e_InvalidSetting_init_ ?k_InvalidSetting_init_ ?a_is_integer_ ?l_is_integer ?e_is_integer ?k_is_integer ?a_is_between_ ?l_is_between ?e_is_between ?k_is_between ?a_require_new_bytes_ ?l_require_new_bytes ?e_require_new_bytes ?k_require_new_bytes ?a_Control_init__ ?i_Control_init_ ?l_Control_init_ ?e_Control_init_ ?k_Control_init_ ?a_Control_starting_ ?pg_Control_starting ?pt_Control_starting ?rc_Control_starting ?l_Control_starting ?e_Control_starting ?k_Control_starting ?a_Control_on_ack_ ?i_Control_on_ack ?l_Control_on_ack ?e_Control_on_ack ?k_Control_on_ack ?a_Control_grow_ ?i_Control_grow ?l_Control_grow ?e_Control_grow ?k_Control_grow ?a_Control_on_loss_ ?i_Control_on_loss ?l_Control_on_loss ?e_Control_on_loss ?k_Control_on_loss ?a_Control_on_expiry_ ?i_Control_on_expiry ?l_Control_on_expiry ?e_Control_on_expiry ?k_Control_on_expiry ?a_Control_on_sample_ ?i_Control_on_sample ?l_Control_on_sample ?e_Control_on_sample ?k_Control_on_sample ?a_Control_set_window_ ?i_Control_set_window ?l_Control_set_window ?e_Control_set_window ?k_Control_set_window ?a_Fixed_init__ ?i_Fixed_init_ ?l_Fixed_init_ ?e_Fixed_init_ ?k_Fixed_init_ ?lk_Fixed_init_ ?lx_Fixed_init_ ?a_Fixed_on_ack_ ?i_Fixed_on_ack ?l_Fixed_on_ack ?e_Fixed_on_ack ?k_Fixed_on_ack ?a_Fixed_grow_ ?i_Fixed_grow ?l_Fixed_grow ?e_Fixed_grow ?k_Fixed_grow ?a_Fixed_on_loss_ ?i_Fixed_on_loss ?l_Fixed_on_loss ?e_Fixed_on_loss ?k_Fixed_on_loss ?a_Fixed_on_expiry_ ?i_Fixed_on_expiry ?l_Fixed_on_expiry ?e_Fixed_on_expiry ?k_Fixed_on_expiry ?a_Fixed_on_sample_ ?i_Fixed_on_sample ?l_Fixed_on_sample ?e_Fixed_on_sample ?k_Fixed_on_sample ?a_Climb_on_ack_ ?i_Climb_on_ack ?l_Climb_on_ack ?e_Climb_on_ack ?k_Climb_on_ack ?lk_Climb_on_ack ?lx_Climb_on_ack ?a_Climb_grow_ ?i_Climb_grow ?l_Climb_grow ?e_Climb_grow ?k_Climb_grow ?a_Climb_step_ ?i_Climb_step ?l_Climb_step ?e_Climb_step ?k_Climb_step ?a_Climb_on_loss_ ?i_Climb_on_loss ?l_Climb_on_loss ?e_Climb_on_loss ?k_Climb_on_loss ?lk_Climb_on_loss ?lx_Climb_on_loss ?a_Climb_on_expiry_ ?i_Climb_on_expiry ?l_Climb_on_expiry ?e_Climb_on_expiry ?k_Climb_on_expiry ?lk_Climb_on_expiry ?lx_Climb_on_expiry ?a_Climb_on_sample_ ?i_Climb_on_sample ?l_Climb_on_sample ?e_Climb_on_sample ?k_Climb_on_sample ?lk_Climb_on_sample ?lx_Climb_on_sample ?a_is_kind_ ?l_is_kind ?e_is_kind ?k_is_kind ?a_Curve_init__ ?i_Curve_init_ ?l_Curve_init_ ?e_Curve_init_ ?k_Curve_init_ ?lk_Curve_init_ ?lx_Curve_init_ ?a_Curve_on_ack_ ?i_Curve_on_ack ?l_Curve_on_ack ?e_Curve_on_ack ?k_Curve_on_ack ?lk_Curve_on_ack ?lx_Curve_on_ack ?a_Curve_grow_ ?i_Curve_grow ?l_Curve_grow ?e_Curve_grow ?k_Curve_grow ?lk_Curve_grow ?lx_Curve_grow ?a_Curve_on_loss_ ?i_Curve_on_loss ?l_Curve_on_loss ?e_Curve_on_loss ?k_Curve_on_loss ?a_Curve_span_to_ ?i_Curve_span_to ?l_Curve_span_to ?e_Curve_span_to ?k_Curve_span_to ?a_Curve_on_expiry_ ?i_Curve_on_expiry ?l_Curve_on_expiry ?e_Curve_on_expiry ?k_Curve_on_expiry ?lk_Curve_on_expiry ?lx_Curve_on_expiry ?a_Curve_on_sample_ ?i_Curve_on_sample ?l_Curve_on_sample ?e_Curve_on_sample ?k_Curve_on_sample ?lk_Curve_on_sample ?lx_Curve_on_sample ?a_Delay_init__ ?i_Delay_init_ ?l_Delay_init_ ?e_Delay_init_ ?k_Delay_init_ ?lk_Delay_init_ ?lx_Delay_init_ ?a_Delay_on_ack_ ?i_Delay_on_ack ?l_Delay_on_ack ?e_Delay_on_ack ?k_Delay_on_ack ?lk_Delay_on_ack ?lx_Delay_on_ack ?a_Delay_grow_ ?i_Delay_grow ?l_Delay_grow ?e_Delay_grow ?k_Delay_grow ?lk_Delay_grow ?lx_Delay_grow ?a_Delay_step_ ?i_Delay_step ?l_Delay_step ?e_Delay_step ?k_Delay_step ?a_Delay_surplus_ ?i_Delay_surplus ?l_Delay_surplus ?e_Delay_surplus ?k_Delay_surplus ?a_Delay_on_loss_ ?i_Delay_on_loss ?l_Delay_on_loss ?e_Delay_on_loss ?k_Delay_on_loss ?lk_Delay_on_loss ?lx_Delay_on_loss ?a_Delay_on_expiry_ ?i_Delay_on_expiry ?l_Delay_on_expiry ?e_Delay_on_expiry ?k_Delay_on_expiry ?lk_Delay_on_expiry ?lx_Delay_on_expiry ?a_Delay_on_sample_ ?i_Delay_on_sample ?l_Delay_on_sample ?e_Delay_on_sample ?k_Delay_on_sample ?a_control_of_ ?l_control_of ?e_control_of ?k_control_of ?a__law_cell_ ?l__law_cell ?e__law_cell ?k__law_cell ?a__law_rounds_ ?l__law_rounds ?e__law_rounds ?k__law_rounds ?a__law_box_ ?l__law_box ?e__law_box ?k__law_box ?a__law_draw_ ?l__law_draw ?e__law_draw ?k__law_draw ?a__law_unit_ ?l__law_unit ?e__law_unit ?k__law_unit ?a__law_whole_ ?l__law_whole ?e__law_whole ?k__law_whole ?a__law_truth_ ?l__law_truth ?e__law_truth ?k__law_truth ?a__law_base_ ?l__law_base ?e__law_base ?k__law_base ?a__law_make_ ?l__law_make ?e__law_make ?k__law_make ?a__law_word_ ?l__law_word ?e__law_word ?k__law_word ?a__law_times_ ?l__law_times ?e__law_times ?k__law_times ?a__law_classed_ ?l__law_classed ?e__law_classed ?k__law_classed ?a__law_fresh_ ?l__law_fresh ?e__law_fresh ?k__law_fresh ?a__law_bad_ ?l__law_bad ?e__law_bad ?k__law_bad ?a__law_refusal_ ?l__law_refusal ?e__law_refusal ?k__law_refusal ?a__law_stranger_ ?l__law_stranger ?e__law_stranger ?k__law_stranger ?a__law_apart_ ?l__law_apart ?e__law_apart ?k__law_apart ?a__law_units_ ?l__law_units ?e__law_units ?k__law_units ?a__law_pieces_ ?l__law_pieces ?e__law_pieces ?k__law_pieces ?a__law_kinds_ ?l__law_kinds ?e__law_kinds ?k__law_kinds ?a__law_refused_ ?l__law_refused ?e__law_refused ?k__law_refused ?a__law_counts_ ?l__law_counts ?e__law_counts ?k__law_counts ?a__law_names_ ?l__law_names ?e__law_names ?k__law_names ?a__law_question_ ?l__law_question ?e__law_question ?k__law_question ?a_law_ ?l_law ?e_law ?k_law ?ih_Fixed_starting ?ih_Climb_init_ ?mk_Climb ?kc_Climb ?ih_Climb_starting ?ih_Climb_set_window ?ih_Curve_starting ?ih_Curve_set_window ?ih_Curve_step ?ih_Delay_starting ?ih_Delay_set_window ?ci_Climb ?ci_Curve ?ci_Delay ?ci_Fixed ?sm_SC_Fixed_Fixed_init_ ?sw_SC_Fixed_Fixed_init_ ?st_SC_Fixed_Fixed_init_ ?sf_SC_Fixed_Fixed_init_ ?sm_SC_Climb_Climb_on_ack ?sw_SC_Climb_Climb_on_ack ?st_SC_Climb_Climb_on_ack ?sf_SC_Climb_Climb_on_ack ?sm_SC_Curve_Climb_on_ack ?sw_SC_Curve_Climb_on_ack ?st_SC_Curve_Climb_on_ack ?sf_SC_Curve_Climb_on_ack ?sm_SC_Delay_Climb_on_ack ?sw_SC_Delay_Climb_on_ack ?st_SC_Delay_Climb_on_ack ?sf_SC_Delay_Climb_on_ack ?sm_SC_Climb_Climb_on_loss ?sw_SC_Climb_Climb_on_loss ?st_SC_Climb_Climb_on_loss ?sf_SC_Climb_Climb_on_loss ?sm_SC_Curve_Climb_on_loss ?sw_SC_Curve_Climb_on_loss ?st_SC_Curve_Climb_on_loss ?sf_SC_Curve_Climb_on_loss ?sm_SC_Delay_Climb_on_loss ?sw_SC_Delay_Climb_on_loss ?st_SC_Delay_Climb_on_loss ?sf_SC_Delay_Climb_on_loss ?sm_SC_Climb_Climb_on_expiry ?sw_SC_Climb_Climb_on_expiry ?st_SC_Climb_Climb_on_expiry ?sf_SC_Climb_Climb_on_expiry ?sm_SC_Curve_Climb_on_expiry ?sw_SC_Curve_Climb_on_expiry ?st_SC_Curve_Climb_on_expiry ?sf_SC_Curve_Climb_on_expiry ?sm_SC_Delay_Climb_on_expiry ?sw_SC_Delay_Climb_on_expiry ?st_SC_Delay_Climb_on_expiry ?sf_SC_Delay_Climb_on_expiry ?sm_SC_Climb_Climb_on_sample ?sw_SC_Climb_Climb_on_sample ?st_SC_Climb_Climb_on_sample ?sf_SC_Climb_Climb_on_sample ?sm_SC_Curve_Climb_on_sample ?sw_SC_Curve_Climb_on_sample ?st_SC_Curve_Climb_on_sample ?sf_SC_Curve_Climb_on_sample ?sm_SC_Delay_Climb_on_sample ?sw_SC_Delay_Climb_on_sample ?st_SC_Delay_Climb_on_sample ?sf_SC_Delay_Climb_on_sample ?sm_SC_Curve_Curve_init_ ?sw_SC_Curve_Curve_init_ ?st_SC_Curve_Curve_init_ ?sf_SC_Curve_Curve_init_ ?sm_SC_Curve_Curve_on_ack ?sw_SC_Curve_Curve_on_ack ?st_SC_Curve_Curve_on_ack ?sf_SC_Curve_Curve_on_ack ?sm_SC_Curve_Curve_grow ?sw_SC_Curve_Curve_grow ?st_SC_Curve_Curve_grow ?sf_SC_Curve_Curve_grow ?sm_SC_Curve_Curve_on_expiry ?sw_SC_Curve_Curve_on_expiry ?st_SC_Curve_Curve_on_expiry ?sf_SC_Curve_Curve_on_expiry ?sm_SC_Curve_Curve_on_sample ?sw_SC_Curve_Curve_on_sample ?st_SC_Curve_Curve_on_sample ?sf_SC_Curve_Curve_on_sample ?sm_SC_Delay_Delay_init_ ?sw_SC_Delay_Delay_init_ ?st_SC_Delay_Delay_init_ ?sf_SC_Delay_Delay_init_ ?sm_SC_Delay_Delay_on_ack ?sw_SC_Delay_Delay_on_ack ?st_SC_Delay_Delay_on_ack ?sf_SC_Delay_Delay_on_ack ?sm_SC_Delay_Delay_grow ?sw_SC_Delay_Delay_grow ?st_SC_Delay_Delay_grow ?sf_SC_Delay_Delay_grow ?sm_SC_Delay_Delay_on_loss ?sw_SC_Delay_Delay_on_loss ?st_SC_Delay_Delay_on_loss ?sf_SC_Delay_Delay_on_loss ?sm_SC_Delay_Delay_on_expiry ?sw_SC_Delay_Delay_on_expiry ?st_SC_Delay_Delay_on_expiry ?sf_SC_Delay_Delay_on_expiry ?sy_ ?lt_D_Fixed_init_ ?q_KINDS ?lt_KINDS ?Kv_InvalidNumber ?Kv_InvalidSetting ?rc_Control ?rc_Fixed ?rc_Climb ?rc_Curve ?rc_Delay ?rm_Control ?rm_Fixed ?rm_Climb ?rm_Curve ?rm_Delay ?ri_get ?ri_tk ?ki_Control_Control ?ki_Control_Fixed ?ki_Control_Climb ?ki_Control_Curve ?ki_Control_Delay ?ki_Fixed_Control ?ki_Fixed_Fixed ?ki_Fixed_Climb ?ki_Fixed_Curve ?ki_Fixed_Delay ?ki_Climb_Control ?ki_Climb_Fixed ?ki_Climb_Climb ?ki_Climb_Curve ?ki_Climb_Delay ?ki_Curve_Control ?ki_Curve_Fixed ?ki_Curve_Climb ?ki_Curve_Curve ?ki_Curve_Delay ?ki_Delay_Control ?ki_Delay_Fixed ?ki_Delay_Climb ?ki_Delay_Curve ?ki_Delay_Delay ?z_ValueError ?z_bool ?z_int ?z_isinstance ?z_len ?z_list ?z_max ?z_min ?z_property ?z_range ?z_str ?z_sum ?z_super ?z_tuple ?q_MOST_PIECES ?xm__InvalidNumber ?xm__InvalidSetting ?w_Control_GREATEST ?w_Control_KIND ?w_Fixed_KIND ?w_Climb_KIND ?w_Curve_KIND ?w_Delay_KIND ?w_MOST_PIECES ?gt_Fixed_init_ ?gt_Climb_on_ack ?gt_Climb_on_loss ?gt_Climb_on_expiry ?gt_Climb_on_sample ?gt_Curve_init_ ?gt_Curve_on_ack ?gt_Curve_grow ?gt_Curve_on_expiry ?gt_Curve_on_sample ?gt_Delay_init_ ?gt_Delay_on_ack ?gt_Delay_grow ?gt_Delay_on_loss ?gt_Delay_on_expiry ?tv_D_Fixed_init_ ?tz_D_Fixed_init_ ?tv_KINDS ?tz_KINDS
    (case aC_Control => k_is)
    (case pg_Control => k_is)
    (case hd_Control => k_is)
    (case po_Control => k_is)
    (case sa_Control => k_is)
    (case mk_Control => k_is)
    (case kc_Control => k_is)
    (case n_Control_unit => k_is)
    (case n_Control_window => k_is)
    (case n_Control_threshold => k_is)
    (case n_Control_credit => k_is)
    (case n_Control_stalled => k_is)
    (case rd_Control => k_is)
    (case ga_Control => k_is)
    (case va_Control_GREATEST => k_is)
    (case va_Control_KIND => k_is)
    (case ia_Control_KIND => k_is)
    (case ig_Control_KIND => k_is)
    (case aC_Fixed => k_is)
    (case pg_Fixed => k_is)
    (case hd_Fixed => k_is)
    (case po_Fixed => k_is)
    (case sa_Fixed => k_is)
    (case mk_Fixed => k_is)
    (case kc_Fixed => k_is)
    (case n_Fixed_unit => k_is)
    (case n_Fixed_window => k_is)
    (case n_Fixed_threshold => k_is)
    (case n_Fixed_credit => k_is)
    (case n_Fixed_stalled => k_is)
    (case rd_Fixed => k_is)
    (case ga_Fixed => k_is)
    (case va_Fixed_KIND => k_is)
    (case ia_Fixed_KIND => k_is)
    (case ig_Fixed_KIND => k_is)
    (case aC_Climb => k_is)
    (case pg_Climb => k_is)
    (case hd_Climb => k_is)
    (case po_Climb => k_is)
    (case sa_Climb => k_is)
    (case n_Climb_unit => k_is)
    (case n_Climb_window => k_is)
    (case n_Climb_threshold => k_is)
    (case n_Climb_credit => k_is)
    (case n_Climb_stalled => k_is)
    (case rd_Climb => k_is)
    (case ga_Climb => k_is)
    (case va_Climb_KIND => k_is)
    (case ia_Climb_KIND => k_is)
    (case ig_Climb_KIND => k_is)
    (case aC_Curve => k_is)
    (case pg_Curve => k_is)
    (case hd_Curve => k_is)
    (case po_Curve => k_is)
    (case sa_Curve => k_is)
    (case mk_Curve => k_is)
    (case kc_Curve => k_is)
    (case n_Curve_unit => k_is)
    (case n_Curve_window => k_is)
    (case n_Curve_threshold => k_is)
    (case n_Curve_credit => k_is)
    (case n_Curve_stalled => k_is)
    (case n_Curve_peak => k_is)
    (case n_Curve_span => k_is)
    (case n_Curve_born => k_is)
    (case rd_Curve => k_is)
    (case ga_Curve => k_is)
    (case va_Curve_KIND => k_is)
    (case ia_Curve_KIND => k_is)
    (case ig_Curve_KIND => k_is)
    (case aC_Delay => k_is)
    (case pg_Delay => k_is)
    (case hd_Delay => k_is)
    (case po_Delay => k_is)
    (case sa_Delay => k_is)
    (case mk_Delay => k_is)
    (case kc_Delay => k_is)
    (case n_Delay_unit => k_is)
    (case n_Delay_window => k_is)
    (case n_Delay_threshold => k_is)
    (case n_Delay_credit => k_is)
    (case n_Delay_stalled => k_is)
    (case n_Delay_least => k_is)
    (case n_Delay_latest => k_is)
    (case n_Delay_samples => k_is)
    (case rd_Delay => k_is)
    (case ga_Delay => k_is)
    (case va_Delay_KIND => k_is)
    (case ia_Delay_KIND => k_is)
    (case ig_Delay_KIND => k_is)
    (case aC_LossError => k_is)
    (case aC_InvalidNumber => k_is)
    (case xl_InvalidNumber => k_is)
    (case sa_InvalidNumber => k_is)
    (case xx_InvalidNumber => k_is)
    (case xt_InvalidNumber => k_is)
    (case xk_InvalidNumber => k_is)
    (case xi_InvalidNumber => k_is)
    (case xg_InvalidNumber => k_is)
    (case xh_InvalidNumber => k_is)
    (case xy_InvalidNumber => k_is)
    (case xc_InvalidNumber => k_is)
    (case xr_InvalidNumber => k_is)
    (case nX_InvalidNumber => k_is)
    (case aC_InvalidSetting => k_is)
    (case xl_InvalidSetting => k_is)
    (case sa_InvalidSetting => k_is)
    (case xx_InvalidSetting => k_is)
    (case xt_InvalidSetting => k_is)
    (case xk_InvalidSetting => k_is)
    (case xi_InvalidSetting => k_is)
    (case xg_InvalidSetting => k_is)
    (case xh_InvalidSetting => k_is)
    (case xy_InvalidSetting => k_is)
    (case xc_InvalidSetting => k_is)
    (case xr_InvalidSetting => k_is)
    (case nX_InvalidSetting => k_is)
    (case x_get => k_is)
    (case x_tk => k_is)
    (case Me_InvalidNumber_LossError => kts_exm)
    (case Me_InvalidSetting_LossError => kts_exm)
    (case Me_InvalidSetting_InvalidSetting => kts_exm)
    (case Kt_InvalidNumber_InvalidNumber => kit_is)
    (case Kt_InvalidNumber_InvalidSetting => kit_is)
    (case Kt_InvalidSetting_InvalidNumber => kit_is)
    (case Kt_InvalidSetting_InvalidSetting => kit_is)
    (case Kt_InvalidSetting_LossError => kit_is)
    (case Kt_InvalidNumber_LossError => kit_is)
    (case xf_InvalidNumber_init_ => k_is)
    (case l_InvalidNumber_init_ => k_is)
    (case e_InvalidNumber_init_ => k_is)
    (case k_InvalidNumber_init_ => k_is)
    (case xf_InvalidSetting_init_ => k_is)
    (case l_InvalidSetting_init_ => k_is)
    (case e_InvalidSetting_init_ => k_is)
    (case k_InvalidSetting_init_ => k_is)
    (case a_is_integer_ => k_is)
    (case l_is_integer => k_is)
    (case e_is_integer => k_is)
    (case k_is_integer => k_is)
    (case a_is_between_ => k_is)
    (case l_is_between => k_is)
    (case e_is_between => k_is)
    (case k_is_between => k_is)
    (case a_require_new_bytes_ => k_is)
    (case l_require_new_bytes => k_is)
    (case e_require_new_bytes => k_is)
    (case k_require_new_bytes => k_is)
    (case a_Control_init__ => k_is)
    (case i_Control_init_ => k_is)
    (case l_Control_init_ => k_is)
    (case e_Control_init_ => k_is)
    (case k_Control_init_ => k_is)
    (case a_Control_starting_ => k_is)
    (case pg_Control_starting => k_is)
    (case pt_Control_starting => k_is)
    (case rc_Control_starting => k_is)
    (case l_Control_starting => k_is)
    (case e_Control_starting => k_is)
    (case k_Control_starting => k_is)
    (case a_Control_on_ack_ => k_is)
    (case i_Control_on_ack => k_is)
    (case l_Control_on_ack => k_is)
    (case e_Control_on_ack => k_is)
    (case k_Control_on_ack => k_is)
    (case a_Control_grow_ => k_is)
    (case i_Control_grow => k_is)
    (case l_Control_grow => k_is)
    (case e_Control_grow => k_is)
    (case k_Control_grow => k_is)
    (case a_Control_on_loss_ => k_is)
    (case i_Control_on_loss => k_is)
    (case l_Control_on_loss => k_is)
    (case e_Control_on_loss => k_is)
    (case k_Control_on_loss => k_is)
    (case a_Control_on_expiry_ => k_is)
    (case i_Control_on_expiry => k_is)
    (case l_Control_on_expiry => k_is)
    (case e_Control_on_expiry => k_is)
    (case k_Control_on_expiry => k_is)
    (case a_Control_on_sample_ => k_is)
    (case i_Control_on_sample => k_is)
    (case l_Control_on_sample => k_is)
    (case e_Control_on_sample => k_is)
    (case k_Control_on_sample => k_is)
    (case a_Control_set_window_ => k_is)
    (case i_Control_set_window => k_is)
    (case l_Control_set_window => k_is)
    (case e_Control_set_window => k_is)
    (case k_Control_set_window => k_is)
    (case a_Fixed_init__ => k_is)
    (case i_Fixed_init_ => k_is)
    (case l_Fixed_init_ => k_is)
    (case e_Fixed_init_ => k_is)
    (case k_Fixed_init_ => k_is)
    (case lk_Fixed_init_ => k_is)
    (case lx_Fixed_init_ => k_is)
    (case a_Fixed_on_ack_ => k_is)
    (case i_Fixed_on_ack => k_is)
    (case l_Fixed_on_ack => k_is)
    (case e_Fixed_on_ack => k_is)
    (case k_Fixed_on_ack => k_is)
    (case a_Fixed_grow_ => k_is)
    (case i_Fixed_grow => k_is)
    (case l_Fixed_grow => k_is)
    (case e_Fixed_grow => k_is)
    (case k_Fixed_grow => k_is)
    (case a_Fixed_on_loss_ => k_is)
    (case i_Fixed_on_loss => k_is)
    (case l_Fixed_on_loss => k_is)
    (case e_Fixed_on_loss => k_is)
    (case k_Fixed_on_loss => k_is)
    (case a_Fixed_on_expiry_ => k_is)
    (case i_Fixed_on_expiry => k_is)
    (case l_Fixed_on_expiry => k_is)
    (case e_Fixed_on_expiry => k_is)
    (case k_Fixed_on_expiry => k_is)
    (case a_Fixed_on_sample_ => k_is)
    (case i_Fixed_on_sample => k_is)
    (case l_Fixed_on_sample => k_is)
    (case e_Fixed_on_sample => k_is)
    (case k_Fixed_on_sample => k_is)
    (case a_Climb_on_ack_ => k_is)
    (case i_Climb_on_ack => k_is)
    (case l_Climb_on_ack => k_is)
    (case e_Climb_on_ack => k_is)
    (case k_Climb_on_ack => k_is)
    (case lk_Climb_on_ack => k_is)
    (case lx_Climb_on_ack => k_is)
    (case a_Climb_grow_ => k_is)
    (case i_Climb_grow => k_is)
    (case l_Climb_grow => k_is)
    (case e_Climb_grow => k_is)
    (case k_Climb_grow => k_is)
    (case a_Climb_step_ => k_is)
    (case i_Climb_step => k_is)
    (case l_Climb_step => k_is)
    (case e_Climb_step => k_is)
    (case k_Climb_step => k_is)
    (case a_Climb_on_loss_ => k_is)
    (case i_Climb_on_loss => k_is)
    (case l_Climb_on_loss => k_is)
    (case e_Climb_on_loss => k_is)
    (case k_Climb_on_loss => k_is)
    (case lk_Climb_on_loss => k_is)
    (case lx_Climb_on_loss => k_is)
    (case a_Climb_on_expiry_ => k_is)
    (case i_Climb_on_expiry => k_is)
    (case l_Climb_on_expiry => k_is)
    (case e_Climb_on_expiry => k_is)
    (case k_Climb_on_expiry => k_is)
    (case lk_Climb_on_expiry => k_is)
    (case lx_Climb_on_expiry => k_is)
    (case a_Climb_on_sample_ => k_is)
    (case i_Climb_on_sample => k_is)
    (case l_Climb_on_sample => k_is)
    (case e_Climb_on_sample => k_is)
    (case k_Climb_on_sample => k_is)
    (case lk_Climb_on_sample => k_is)
    (case lx_Climb_on_sample => k_is)
    (case a_is_kind_ => k_is)
    (case l_is_kind => k_is)
    (case e_is_kind => k_is)
    (case k_is_kind => k_is)
    (case a_Curve_init__ => k_is)
    (case i_Curve_init_ => k_is)
    (case l_Curve_init_ => k_is)
    (case e_Curve_init_ => k_is)
    (case k_Curve_init_ => k_is)
    (case lk_Curve_init_ => k_is)
    (case lx_Curve_init_ => k_is)
    (case a_Curve_on_ack_ => k_is)
    (case i_Curve_on_ack => k_is)
    (case l_Curve_on_ack => k_is)
    (case e_Curve_on_ack => k_is)
    (case k_Curve_on_ack => k_is)
    (case lk_Curve_on_ack => k_is)
    (case lx_Curve_on_ack => k_is)
    (case a_Curve_grow_ => k_is)
    (case i_Curve_grow => k_is)
    (case l_Curve_grow => k_is)
    (case e_Curve_grow => k_is)
    (case k_Curve_grow => k_is)
    (case lk_Curve_grow => k_is)
    (case lx_Curve_grow => k_is)
    (case a_Curve_on_loss_ => k_is)
    (case i_Curve_on_loss => k_is)
    (case l_Curve_on_loss => k_is)
    (case e_Curve_on_loss => k_is)
    (case k_Curve_on_loss => k_is)
    (case a_Curve_span_to_ => k_is)
    (case i_Curve_span_to => k_is)
    (case l_Curve_span_to => k_is)
    (case e_Curve_span_to => k_is)
    (case k_Curve_span_to => k_is)
    (case a_Curve_on_expiry_ => k_is)
    (case i_Curve_on_expiry => k_is)
    (case l_Curve_on_expiry => k_is)
    (case e_Curve_on_expiry => k_is)
    (case k_Curve_on_expiry => k_is)
    (case lk_Curve_on_expiry => k_is)
    (case lx_Curve_on_expiry => k_is)
    (case a_Curve_on_sample_ => k_is)
    (case i_Curve_on_sample => k_is)
    (case l_Curve_on_sample => k_is)
    (case e_Curve_on_sample => k_is)
    (case k_Curve_on_sample => k_is)
    (case lk_Curve_on_sample => k_is)
    (case lx_Curve_on_sample => k_is)
    (case a_Delay_init__ => k_is)
    (case i_Delay_init_ => k_is)
    (case l_Delay_init_ => k_is)
    (case e_Delay_init_ => k_is)
    (case k_Delay_init_ => k_is)
    (case lk_Delay_init_ => k_is)
    (case lx_Delay_init_ => k_is)
    (case a_Delay_on_ack_ => k_is)
    (case i_Delay_on_ack => k_is)
    (case l_Delay_on_ack => k_is)
    (case e_Delay_on_ack => k_is)
    (case k_Delay_on_ack => k_is)
    (case lk_Delay_on_ack => k_is)
    (case lx_Delay_on_ack => k_is)
    (case a_Delay_grow_ => k_is)
    (case i_Delay_grow => k_is)
    (case l_Delay_grow => k_is)
    (case e_Delay_grow => k_is)
    (case k_Delay_grow => k_is)
    (case lk_Delay_grow => k_is)
    (case lx_Delay_grow => k_is)
    (case a_Delay_step_ => k_is)
    (case i_Delay_step => k_is)
    (case l_Delay_step => k_is)
    (case e_Delay_step => k_is)
    (case k_Delay_step => k_is)
    (case a_Delay_surplus_ => k_is)
    (case i_Delay_surplus => k_is)
    (case l_Delay_surplus => k_is)
    (case e_Delay_surplus => k_is)
    (case k_Delay_surplus => k_is)
    (case a_Delay_on_loss_ => k_is)
    (case i_Delay_on_loss => k_is)
    (case l_Delay_on_loss => k_is)
    (case e_Delay_on_loss => k_is)
    (case k_Delay_on_loss => k_is)
    (case lk_Delay_on_loss => k_is)
    (case lx_Delay_on_loss => k_is)
    (case a_Delay_on_expiry_ => k_is)
    (case i_Delay_on_expiry => k_is)
    (case l_Delay_on_expiry => k_is)
    (case e_Delay_on_expiry => k_is)
    (case k_Delay_on_expiry => k_is)
    (case lk_Delay_on_expiry => k_is)
    (case lx_Delay_on_expiry => k_is)
    (case a_Delay_on_sample_ => k_is)
    (case i_Delay_on_sample => k_is)
    (case l_Delay_on_sample => k_is)
    (case e_Delay_on_sample => k_is)
    (case k_Delay_on_sample => k_is)
    (case a_control_of_ => k_is)
    (case l_control_of => k_is)
    (case e_control_of => k_is)
    (case k_control_of => k_is)
    (case a__law_cell_ => k_is)
    (case l__law_cell => k_is)
    (case e__law_cell => k_is)
    (case k__law_cell => k_is)
    (case a__law_rounds_ => k_is)
    (case l__law_rounds => k_is)
    (case e__law_rounds => k_is)
    (case k__law_rounds => k_is)
    (case a__law_box_ => k_is)
    (case l__law_box => k_is)
    (case e__law_box => k_is)
    (case k__law_box => k_is)
    (case a__law_draw_ => k_is)
    (case l__law_draw => k_is)
    (case e__law_draw => k_is)
    (case k__law_draw => k_is)
    (case a__law_unit_ => k_is)
    (case l__law_unit => k_is)
    (case e__law_unit => k_is)
    (case k__law_unit => k_is)
    (case a__law_whole_ => k_is)
    (case l__law_whole => k_is)
    (case e__law_whole => k_is)
    (case k__law_whole => k_is)
    (case a__law_truth_ => k_is)
    (case l__law_truth => k_is)
    (case e__law_truth => k_is)
    (case k__law_truth => k_is)
    (case a__law_base_ => k_is)
    (case l__law_base => k_is)
    (case e__law_base => k_is)
    (case k__law_base => k_is)
    (case a__law_make_ => k_is)
    (case l__law_make => k_is)
    (case e__law_make => k_is)
    (case k__law_make => k_is)
    (case a__law_word_ => k_is)
    (case l__law_word => k_is)
    (case e__law_word => k_is)
    (case k__law_word => k_is)
    (case a__law_times_ => k_is)
    (case l__law_times => k_is)
    (case e__law_times => k_is)
    (case k__law_times => k_is)
    (case a__law_classed_ => k_is)
    (case l__law_classed => k_is)
    (case e__law_classed => k_is)
    (case k__law_classed => k_is)
    (case a__law_fresh_ => k_is)
    (case l__law_fresh => k_is)
    (case e__law_fresh => k_is)
    (case k__law_fresh => k_is)
    (case a__law_bad_ => k_is)
    (case l__law_bad => k_is)
    (case e__law_bad => k_is)
    (case k__law_bad => k_is)
    (case a__law_refusal_ => k_is)
    (case l__law_refusal => k_is)
    (case e__law_refusal => k_is)
    (case k__law_refusal => k_is)
    (case a__law_stranger_ => k_is)
    (case l__law_stranger => k_is)
    (case e__law_stranger => k_is)
    (case k__law_stranger => k_is)
    (case a__law_apart_ => k_is)
    (case l__law_apart => k_is)
    (case e__law_apart => k_is)
    (case k__law_apart => k_is)
    (case a__law_units_ => k_is)
    (case l__law_units => k_is)
    (case e__law_units => k_is)
    (case k__law_units => k_is)
    (case a__law_pieces_ => k_is)
    (case l__law_pieces => k_is)
    (case e__law_pieces => k_is)
    (case k__law_pieces => k_is)
    (case a__law_kinds_ => k_is)
    (case l__law_kinds => k_is)
    (case e__law_kinds => k_is)
    (case k__law_kinds => k_is)
    (case a__law_refused_ => k_is)
    (case l__law_refused => k_is)
    (case e__law_refused => k_is)
    (case k__law_refused => k_is)
    (case a__law_counts_ => k_is)
    (case l__law_counts => k_is)
    (case e__law_counts => k_is)
    (case k__law_counts => k_is)
    (case a__law_names_ => k_is)
    (case l__law_names => k_is)
    (case e__law_names => k_is)
    (case k__law_names => k_is)
    (case a__law_question_ => k_is)
    (case l__law_question => k_is)
    (case e__law_question => k_is)
    (case k__law_question => k_is)
    (case a_law_ => k_is)
    (case l_law => k_is)
    (case e_law => k_is)
    (case k_law => k_is)
    (case ih_Fixed_starting => k_is)
    (case ih_Climb_init_ => k_is)
    (case mk_Climb => k_is)
    (case kc_Climb => k_is)
    (case ih_Climb_starting => k_is)
    (case ih_Climb_set_window => k_is)
    (case ih_Curve_starting => k_is)
    (case ih_Curve_set_window => k_is)
    (case ih_Curve_step => k_is)
    (case ih_Delay_starting => k_is)
    (case ih_Delay_set_window => k_is)
    (case ci_Climb => k_is)
    (case ci_Curve => k_is)
    (case ci_Delay => k_is)
    (case ci_Fixed => k_is)
    (case sm_SC_Fixed_Fixed_init_ => k_is)
    (case sw_SC_Fixed_Fixed_init_ => ks_is)
    (case st_SC_Fixed_Fixed_init_ => k_is)
    (case sf_SC_Fixed_Fixed_init_ => k_is)
    (case sm_SC_Climb_Climb_on_ack => k_is)
    (case sw_SC_Climb_Climb_on_ack => ks_is)
    (case st_SC_Climb_Climb_on_ack => k_is)
    (case sf_SC_Climb_Climb_on_ack => k_is)
    (case sm_SC_Curve_Climb_on_ack => k_is)
    (case sw_SC_Curve_Climb_on_ack => ks_is)
    (case st_SC_Curve_Climb_on_ack => k_is)
    (case sf_SC_Curve_Climb_on_ack => k_is)
    (case sm_SC_Delay_Climb_on_ack => k_is)
    (case sw_SC_Delay_Climb_on_ack => ks_is)
    (case st_SC_Delay_Climb_on_ack => k_is)
    (case sf_SC_Delay_Climb_on_ack => k_is)
    (case sm_SC_Climb_Climb_on_loss => k_is)
    (case sw_SC_Climb_Climb_on_loss => ks_is)
    (case st_SC_Climb_Climb_on_loss => k_is)
    (case sf_SC_Climb_Climb_on_loss => k_is)
    (case sm_SC_Curve_Climb_on_loss => k_is)
    (case sw_SC_Curve_Climb_on_loss => ks_is)
    (case st_SC_Curve_Climb_on_loss => k_is)
    (case sf_SC_Curve_Climb_on_loss => k_is)
    (case sm_SC_Delay_Climb_on_loss => k_is)
    (case sw_SC_Delay_Climb_on_loss => ks_is)
    (case st_SC_Delay_Climb_on_loss => k_is)
    (case sf_SC_Delay_Climb_on_loss => k_is)
    (case sm_SC_Climb_Climb_on_expiry => k_is)
    (case sw_SC_Climb_Climb_on_expiry => ks_is)
    (case st_SC_Climb_Climb_on_expiry => k_is)
    (case sf_SC_Climb_Climb_on_expiry => k_is)
    (case sm_SC_Curve_Climb_on_expiry => k_is)
    (case sw_SC_Curve_Climb_on_expiry => ks_is)
    (case st_SC_Curve_Climb_on_expiry => k_is)
    (case sf_SC_Curve_Climb_on_expiry => k_is)
    (case sm_SC_Delay_Climb_on_expiry => k_is)
    (case sw_SC_Delay_Climb_on_expiry => ks_is)
    (case st_SC_Delay_Climb_on_expiry => k_is)
    (case sf_SC_Delay_Climb_on_expiry => k_is)
    (case sm_SC_Climb_Climb_on_sample => k_is)
    (case sw_SC_Climb_Climb_on_sample => ks_is)
    (case st_SC_Climb_Climb_on_sample => k_is)
    (case sf_SC_Climb_Climb_on_sample => k_is)
    (case sm_SC_Curve_Climb_on_sample => k_is)
    (case sw_SC_Curve_Climb_on_sample => ks_is)
    (case st_SC_Curve_Climb_on_sample => k_is)
    (case sf_SC_Curve_Climb_on_sample => k_is)
    (case sm_SC_Delay_Climb_on_sample => k_is)
    (case sw_SC_Delay_Climb_on_sample => ks_is)
    (case st_SC_Delay_Climb_on_sample => k_is)
    (case sf_SC_Delay_Climb_on_sample => k_is)
    (case sm_SC_Curve_Curve_init_ => k_is)
    (case sw_SC_Curve_Curve_init_ => ks_is)
    (case st_SC_Curve_Curve_init_ => k_is)
    (case sf_SC_Curve_Curve_init_ => k_is)
    (case sm_SC_Curve_Curve_on_ack => k_is)
    (case sw_SC_Curve_Curve_on_ack => ks_is)
    (case st_SC_Curve_Curve_on_ack => k_is)
    (case sf_SC_Curve_Curve_on_ack => k_is)
    (case sm_SC_Curve_Curve_grow => k_is)
    (case sw_SC_Curve_Curve_grow => ks_is)
    (case st_SC_Curve_Curve_grow => k_is)
    (case sf_SC_Curve_Curve_grow => k_is)
    (case sm_SC_Curve_Curve_on_expiry => k_is)
    (case sw_SC_Curve_Curve_on_expiry => ks_is)
    (case st_SC_Curve_Curve_on_expiry => k_is)
    (case sf_SC_Curve_Curve_on_expiry => k_is)
    (case sm_SC_Curve_Curve_on_sample => k_is)
    (case sw_SC_Curve_Curve_on_sample => ks_is)
    (case st_SC_Curve_Curve_on_sample => k_is)
    (case sf_SC_Curve_Curve_on_sample => k_is)
    (case sm_SC_Delay_Delay_init_ => k_is)
    (case sw_SC_Delay_Delay_init_ => ks_is)
    (case st_SC_Delay_Delay_init_ => k_is)
    (case sf_SC_Delay_Delay_init_ => k_is)
    (case sm_SC_Delay_Delay_on_ack => k_is)
    (case sw_SC_Delay_Delay_on_ack => ks_is)
    (case st_SC_Delay_Delay_on_ack => k_is)
    (case sf_SC_Delay_Delay_on_ack => k_is)
    (case sm_SC_Delay_Delay_grow => k_is)
    (case sw_SC_Delay_Delay_grow => ks_is)
    (case st_SC_Delay_Delay_grow => k_is)
    (case sf_SC_Delay_Delay_grow => k_is)
    (case sm_SC_Delay_Delay_on_loss => k_is)
    (case sw_SC_Delay_Delay_on_loss => ks_is)
    (case st_SC_Delay_Delay_on_loss => k_is)
    (case sf_SC_Delay_Delay_on_loss => k_is)
    (case sm_SC_Delay_Delay_on_expiry => k_is)
    (case sw_SC_Delay_Delay_on_expiry => ks_is)
    (case st_SC_Delay_Delay_on_expiry => k_is)
    (case sf_SC_Delay_Delay_on_expiry => k_is)
    (case sy_ => k_is)
    (case lt_D_Fixed_init_ => k_is)
    (case q_KINDS => k_is)
    (case lt_KINDS => k_is)
    (case Kv_InvalidNumber => kit_is)
    (case Kv_InvalidSetting => kit_is)
    (case rc_Control => k_is)
    (case rc_Fixed => k_is)
    (case rc_Climb => k_is)
    (case rc_Curve => k_is)
    (case rc_Delay => k_is)
    (case rm_Control => k_is)
    (case rm_Fixed => k_is)
    (case rm_Climb => k_is)
    (case rm_Curve => k_is)
    (case rm_Delay => k_is)
    (case ri_get => k_is)
    (case ri_tk => k_is)
    (case ki_Control_Control => kit_is)
    (case ki_Control_Fixed => kit_is)
    (case ki_Control_Climb => kit_is)
    (case ki_Control_Curve => kit_is)
    (case ki_Control_Delay => kit_is)
    (case ki_Fixed_Control => kit_is)
    (case ki_Fixed_Fixed => kit_is)
    (case ki_Fixed_Climb => kit_is)
    (case ki_Fixed_Curve => kit_is)
    (case ki_Fixed_Delay => kit_is)
    (case ki_Climb_Control => kit_is)
    (case ki_Climb_Fixed => kit_is)
    (case ki_Climb_Climb => kit_is)
    (case ki_Climb_Curve => kit_is)
    (case ki_Climb_Delay => kit_is)
    (case ki_Curve_Control => kit_is)
    (case ki_Curve_Fixed => kit_is)
    (case ki_Curve_Climb => kit_is)
    (case ki_Curve_Curve => kit_is)
    (case ki_Curve_Delay => kit_is)
    (case ki_Delay_Control => kit_is)
    (case ki_Delay_Fixed => kit_is)
    (case ki_Delay_Climb => kit_is)
    (case ki_Delay_Curve => kit_is)
    (case ki_Delay_Delay => kit_is)
    (case z_ValueError => k_is)
    (case z_bool => k_is)
    (case z_int => k_is)
    (case z_isinstance => k_is)
    (case z_len => k_is)
    (case z_list => k_is)
    (case z_max => k_is)
    (case z_min => k_is)
    (case z_property => k_is)
    (case z_range => k_is)
    (case z_str => k_is)
    (case z_sum => k_is)
    (case z_super => k_is)
    (case z_tuple => k_is)
    (case q_MOST_PIECES => k_is)
    (case xm__InvalidNumber => decide +kernel)
    (case xm__InvalidSetting => decide +kernel)
    (case w_Control_GREATEST => exact ⟨_, rfl⟩)
    (case w_Control_KIND => exact ⟨_, rfl⟩)
    (case w_Fixed_KIND => exact ⟨_, rfl⟩)
    (case w_Climb_KIND => exact ⟨_, rfl⟩)
    (case w_Curve_KIND => exact ⟨_, rfl⟩)
    (case w_Delay_KIND => exact ⟨_, rfl⟩)
    (case w_MOST_PIECES => exact ⟨_, rfl⟩)
    (case gt_Fixed_init_ => rfl)
    (case gt_Climb_on_ack => rfl)
    (case gt_Climb_on_loss => rfl)
    (case gt_Climb_on_expiry => rfl)
    (case gt_Climb_on_sample => rfl)
    (case gt_Curve_init_ => rfl)
    (case gt_Curve_on_ack => rfl)
    (case gt_Curve_grow => rfl)
    (case gt_Curve_on_expiry => rfl)
    (case gt_Curve_on_sample => rfl)
    (case gt_Delay_init_ => rfl)
    (case gt_Delay_on_ack => rfl)
    (case gt_Delay_grow => rfl)
    (case gt_Delay_on_loss => rfl)
    (case gt_Delay_on_expiry => rfl)
    (case tv_D_Fixed_init_ => (repeat (first | exact .nil | refine .cons ⟨_, rfl⟩ ?_)))
    (case tz_D_Fixed_init_ => exact Nat.le_of_ble_eq_true rfl)
    (case tv_KINDS => (repeat (first | exact .nil | refine .cons ⟨_, rfl⟩ ?_)))
    (case tz_KINDS => exact Nat.le_of_ble_eq_true rfl)
