import PyProof.Rows.All
import Wide.All
import OpenK.AllK
import Wide.FinOn
import HandS.ForMost
import HandS.IsInst
import HandS.ClsMeth
import HandS.Codes
import HandS.Exc
import HandS.ExcOwn
import HandS.ExcInit
import HandS.ExcField
import HandS.ExcIs
import HandS.TryMany
import HandS.WordsExc
import HandS.CallSlots
import HandS.More
import KE.KExcIs
import KE.GoesEnum
import KE.GoesMore
import HandS.Defaults
import HandS.Property
import HandS.Zip
import HandS.Text
import HandS.Wide
import KE.KSuper
import KE.RegKSuper
import HandS.Nested
import PySem.Challenge.RW_lossway_k20_base_and_fixed
set_option Elab.async false
set_option maxRecDepth 100000
namespace My
open PySem L2
set_option linter.all false

/-! ### an own `in` -/
section
variable {X : Cx} {CX : CXT} {k : Nat} {C g : Addr} {fd : FuncData} {ps : List Str} {sp : Sp} {E : XK}
def rOwnIn (C : Addr) (m : Bool → Bool) (sp : Sp) (E : XK) : R2 := fun x y H Q => ∃ a dx fs, y = .ref a ∧ H a = some (.ins C dx fs) ∧ sp [.ref a, x] H (fun v H' => ∃ b, v = .bl b ∧ Q (.bl (m b)) H') E
theorem op_notInOwn (mm : Meth X.K C "__contains__" g) (F : FnOk X.prog X.w X.K X.mg X.base CX k g fd ps sp) (hr : Room k X.A) (hb : Binds X.K fd ps []) (hx : Passes CX X E) : OpR X (compareOp .NotIn) (rOwnIn C not sp E) := by
  intro pins s σ H x y v u Q I rx ry h
  obtain ⟨a, dx, fs, rfl, ha, q⟩ := h
  cases (show u = Value.ref a from ry)
  obtain ⟨mA, O, _⟩ := ins_get I.hok ha
  obtain ⟨od, J, _⟩ := O.look
  obtain ⟨m, hF⟩ := I.fr
  refine PySem.W.notIn_K hF I.ok.mod.kin J mm.at_ mm.fn ?_
  refine wpAny_mono (run_fn (us := [.ref a, v]) (vs := [.ref a, x]) (ds := []) (dvs := []) F hr hb .nil hx I (.cons rfl (.cons rx .nil)) q) (fun w s' z => ?_) fun _ _ x => x
  obtain ⟨z', H', I', rz, b, eb, qz⟩ := z
  subst eb
  cases (show w = Value.bool b from rz)
  exact wpAny_truthy_bool ⟨.bl (!b), H', I', rfl, qz⟩
theorem op_inOwn (mm : Meth X.K C "__contains__" g) (F : FnOk X.prog X.w X.K X.mg X.base CX k g fd ps sp) (hr : Room k X.A) (hb : Binds X.K fd ps []) (hx : Passes CX X E) : OpR X (compareOp .In) (rOwnIn C id sp E) := by
  intro pins s σ H x y v u Q I rx ry h
  obtain ⟨a, dx, fs, rfl, ha, q⟩ := h
  cases (show u = Value.ref a from ry)
  obtain ⟨mA, O, _⟩ := ins_get I.hok ha
  obtain ⟨od, J, _⟩ := O.look
  obtain ⟨m, hF⟩ := I.fr
  refine PySem.W.in_K hF I.ok.mod.kin J mm.at_ mm.fn ?_
  refine wpAny_mono (run_fn (us := [.ref a, v]) (vs := [.ref a, x]) (ds := []) (dvs := []) F hr hb .nil hx I (.cons rfl (.cons rx .nil)) q) (fun w s' z => ?_) fun _ _ x => x
  obtain ⟨z', H', I', rz, b, eb, qz⟩ := z
  subst eb
  cases (show w = Value.bool b from rz)
  exact wpAny_truthy_bool ⟨.bl b, H', I', rfl, qz⟩
end

/-! ### heaps -/
/-- all that was tracked stands, but what is at a -/
def SameX (a : Addr) (H H' : Hp) : Prop := ∀ b o, b ≠ a → H b = some o → H' b = some o
theorem SameX.refl {a : Addr} {H : Hp} : SameX a H H := fun _ _ _ h => h
theorem SameX.trans {a : Addr} {H H1 H2 : Hp} (x : SameX a H H1) (y : SameX a H1 H2) : SameX a H H2 := fun b o n h => y b o n (x b o n h)
theorem SameX.upd {a : Addr} {H : Hp} {o : HO} : SameX a H (L2.upd H a o) := fun b _ n h => by
  rw [upd_ne n]
  exact h
theorem SameX.upd' {a : Addr} {H H1 : Hp} {o : HO} (x : SameX a H H1) : SameX a H (L2.upd H1 a o) := x.trans .upd
theorem SameX.of {a : Addr} {H H1 : Hp} (x : Same H H1) : SameX a H H1 := fun b o _ h => x b o h
theorem Same.new {H : Hp} {p : Addr} {o : HO} (h : H p = none) : Same H (upd H p o) := fun b u e => by
  rw [upd_ne (ne_of_none e h)]
  exact e
theorem SqL.now {K : PySem.W.Frag} {H : Hp} {a : Addr} {xs : List V} (h : H a = some (.lst xs)) : SqL K H a xs := SqL.of h

/-! ### the purse -/
/-- a purse's rows -/
def pur (c : Addr) (p r n s : Int) : List V := [.ref c, .int p, .int r, .int n, .int s]
structure Purse (a c : Addr) (H : Hp) : Prop where
  ex : ∃ (cs : List Int) (p : Nat) (r n s : Int), H a = some (.lst (pur c p r n s)) ∧ H c = some (.lst (cs.map V.int)) ∧ (∀ x ∈ cs, 0 ≤ x) ∧ p ≤ cs.length ∧ cs.length ≤ 63 ∧ 0 ≤ r ∧ 0 ≤ s ∧ s < 2147483647
theorem pur_ne {H : Hp} {a c c' : Addr} {p r n s : Int} {cs : List Int} (h : H a = some (.lst (pur c p r n s))) (h' : H c' = some (.lst (cs.map V.int))) : c' ≠ a := ne_of h' h (by
  intro e
  injection e with e
  cases cs with
  | nil => cases e
  | cons x r => injection e with e1 _; cases e1)
theorem lk1 {m f : Str} {v : V} (h : (m == f) = false) : List.lookup m [(f, v)] = none := by
  simp only [List.lookup, h]
theorem bl_t {p : Prop} [Decidable p] (h : p) : V.bl (decide p) = V.bl true := congrArg V.bl (decide_eq_true h)
theorem bl_f {p : Prop} [Decidable p] (h : ¬ p) : V.bl (decide p) = V.bl false := congrArg V.bl (decide_eq_false h)
theorem bln_t {p : Prop} [Decidable p] (h : p) : V.bl (!decide p) = V.bl false := by rw [decide_eq_true h]; rfl
theorem bln_f {p : Prop} [Decidable p] (h : ¬ p) : V.bl (!decide p) = V.bl true := by rw [decide_eq_false h]; rfl
theorem int_ne {a b : Int} (h : ¬ a = b) : ¬ V.int a = V.int b := fun e => h (V.int.inj e)
theorem int_eq {a b : Int} (h : a = b) : V.int a = V.int b := congrArg V.int h

theorem Purse.there {a c : Addr} {H : Hp} (P : Purse a c H) : (∃ xs, H a = some (.lst xs)) ∧ ∃ ys, H c = some (.lst ys) := by
  obtain ⟨cs, p, r, n, s, h1, h2, _⟩ := P.ex
  exact ⟨⟨_, h1⟩, _, h2⟩
/-- a purse stands where both of its lists stand -/
theorem Purse.keep {a c : Addr} {H H' : Hp} (P : Purse a c H) (h : H' a = H a) (h' : H' c = H c) : Purse a c H' := by
  obtain ⟨cs, p, r, n, s, h1, h2, q⟩ := P.ex
  exact ⟨cs, p, r, n, s, h.trans h1, h'.trans h2, q⟩
theorem Purse.same {a c : Addr} {H H' : Hp} (P : Purse a c H) (s : Same H H') : Purse a c H' := by
  obtain ⟨cs, p, r, n, z, h1, h2, q⟩ := P.ex
  exact ⟨cs, p, r, n, z, s _ _ h1, s _ _ h2, q⟩
theorem Purse.on {a c b : Addr} {H H' : Hp} (P : Purse a c H) (s : SameX b H H') (na : a ≠ b) (nc : c ≠ b) : Purse a c H' := by
  obtain ⟨cs, p, r, n, z, h1, h2, q⟩ := P.ex
  exact ⟨cs, p, r, n, z, s _ _ na h1, s _ _ nc h2, q⟩
theorem small1000' {n : Nat} (h : n < 100000) : n < sizeLine := Nat.lt_of_lt_of_le h (by decide)
theorem sqT_sm {K : PySem.W.Frag} {H H' : Hp} {a : Addr} {xs : List V} (h : SqT K H a xs) (s : Same H H') : SqT K H' a xs := by
  rcases h with (h | ⟨o, h⟩) | h
  · exact .inl (.inl (s _ _ h))
  · exact .inl (.inr ⟨o, s _ _ h⟩)
  · exact .inr h
/-! ### several except clauses, each with or without a name -/
section
open PySem.Spec PyProof.Rows
variable {X : Cx}
/-- a clause: its class, the slot of its name, its suite -/
abbrev Cl := Value × Option Nat × (Addr → Value → Option Addr → TS)
def unN (D : Ends) (i : Nat) : Ends := { nx := fun σ H => D.nx (σ.set i none) H, rt := D.rt, bk := fun σ H => D.bk (σ.set i none) H, ct := fun σ H => D.ct (σ.set i none) H }
def clGo (D : Ends) (o : Option Nat) (t : TS) (a : Addr) (σ : L2.St) (H : Hp) : Prop := match o with
  | none => t D σ H
  | some i => t (unN D i) (σ.set i (some (.ref a))) H
def wCl (K : PySem.W.Frag) (Wout : WX) (D : Ends) : List Cl → WX
  | [] => Wout
  | (c, o, ts) :: r => fun cls d σ H => ∃ b, PySem.W.exmOne K cls c = some b ∧ (b = true → ∀ a, H a = none → clGo D o (ts a cls d) a σ H) ∧ (b = false → wCl K Wout D r cls d σ H)
inductive ClOk (X : Cx) : List ExceptHandler → List Cl → Prop
  | nil : ClOk X [] []
  | bare {x : Str} {c : Value} {ts : Addr → Value → Option Addr → TS} {b0 : Stmt} {su : List Stmt} {np ps : Pos} {hs : List ExceptHandler} {l : List Cl} (nm : Names X x c)
      (ok : ∀ (a : Addr) (oe : Obj) (cls : Value) (d : Option Addr) (pn : List (Addr × Obj)), Zc cls d oe → (∃ vs, oe.data = .fields vs) → PSs (X.suite a ((a, oe) :: pn)) (b0 :: su) (ts a cls d)) (rest : ClOk X hs l) :
      ClOk X (.ExceptHandler (some (.Name x np)) none (b0 :: su) ps :: hs) ((c, none, ts) :: l)
  | named {x n : Str} {i : Nat} {c : Value} {ts : Addr → Value → Option Addr → TS} {b0 : Stmt} {su : List Stmt} {np ps : Pos} {hs : List ExceptHandler} {l : List Cl} (nd : X.N.Nodup) (hi : X.N[i]? = some n) (lc : X.env.kindOf n = some .local) (nm : Names X x c)
      (ok : ∀ (a : Addr) (oe : Obj) (cls : Value) (d : Option Addr) (pn : List (Addr × Obj)), Zc cls d oe → (∃ vs, oe.data = .fields vs) → PSs (X.suite a ((a, oe) :: pn)) (b0 :: su) (ts a cls d)) (rest : ClOk X hs l) :
      ClOk X (.ExceptHandler (some (.Name x np)) (some n) (b0 :: su) ps :: hs) ((c, some i, ts) :: l)
theorem ps_try_cl {body : List Stmt} {h0 : ExceptHandler} {hs : List ExceptHandler} {l : List Cl} {pos : Pos} {tb : WX → TS} {Wout : WX} (st : X.stack = X.env :: X.outer) (fr : X.env.frame = some X.env.locals) (tk : Takes X Wout)
    (hb : ∀ (W : WX) (pn : List (Addr × Obj)) (xe : Value → Shared → Prop), Takes (X.tr pn xe) W → PassesOwn (model X.prog X.w) X.A X.env xe → PSs (X.tr pn xe) body (tb W))
    (hh : ClOk X (h0 :: hs) l) : PS X (.Try body (h0 :: hs) [] [] pos) (fun D σ H => tb (wCl X.K Wout D l) D σ H) := by
  refine ⟨fun pins s σ H D I h => ?_⟩
  have ok := I.ok
  have frs0 : X.A.frames = some (X.env :: X.outer) := by
    rw [ok.frames, st]
  refine wpAny_Try_except (wpAny_mono ((hb (wCl X.K Wout D l) (X.pn ++ pins) (fun e t1 => wpAny (model X.prog X.w) X.A (noteFrame e X.env) (fun _ t2 =>
    wpAny (model X.prog X.w) X.A (setFlight e none) (fun _ t3 => wpAny (model X.prog X.w) X.A (handleBy e X.env (h0 :: hs)) (SP X pins D) X.xe t3) X.xe t2) X.xe t1)
      (fun u s' xx => ?_) PassesOwn.looking).run [] s σ H D (I.toTry _) h) (fun f s1 hsp => ?_) (fun _ _ z => z))
  · obtain ⟨a, B, sI, pins', σ', H', cls, d, rfl, J', nb, up, sky, na, os, ag, w⟩ := xx
    have J := J'.ofTry ok
    have sky2 : Sky B (X.env :: X.outer) a (Zc cls d) X.env.locals s'.heap := by
      rw [← st]
      exact sky
    refine Sky.land Zc.steady frs0 fr sky2 fun g1 fl1 up1 => ?_
    have J1 : Inv X pins σ' H' { s' with heap := g1 } := J.landed nb fl1.1 (up.trans up1) os ag
    obtain ⟨o1, vs1, at1, z1, dt1⟩ := fl1.there
    have off : a ∉ frs (X.env :: X.outer) := fun hm => by
      obtain ⟨_, o', e', hnf⟩ := fl1.2.2.1.mem hm
      rw [at1] at e'
      cases e'
      exact hnf _ dt1
    have offL : a ≠ X.env.locals := fun z => off (List.mem_filterMap.mpr ⟨X.env, List.mem_cons_self, by rw [fr, z]⟩)
    have offF : a ∉ X.fs := fun hm => by
      obtain ⟨e, he, q⟩ := List.mem_filterMap.mp hm
      exact off (List.mem_filterMap.mpr ⟨e, List.mem_cons_of_mem _ he, q⟩)
    have S1 := J1.suite at1 dt1 na offL offF
    have LT : PySem.W.Looks (model X.prog X.w) g1 (typeOf (.ref a)) cls := fun A Q E s k q => wpAny_typeOf_ref (k _ _ at1) (by rw [z1.1]; exact q)
    have ask : ∀ {x : Str} {np : Pos} {c : Value}, Names X x c → ∀ {Q : Value → Shared → Prop} {E : Value → Shared → Prop}, Q c { s' with heap := g1 } →
        wpAny (model X.prog X.w) (X.A.mark (some (.ref a))) (eval (.Name x np) X.env) Q E { s' with heap := g1 } := fun {x np c} nm {Q E} q => by
      obtain ⟨hg, hdb, h1 | ⟨h1, h2, h3⟩⟩ := nm
      · exact ld_glob (X := X.suite a ((a, o1) :: (X.pn ++ pins))) S1 hg h1 q hdb
      · exact ld_blt (X := X.suite a ((a, o1) :: (X.pn ++ pins))) S1 hg h1 h2 q h3 hdb
    have go : ∀ {hs' : List ExceptHandler} {l' : List Cl}, ClOk X hs' l' → wCl X.K Wout D l' cls d σ' H' → wpAny (model X.prog X.w) X.A (handleBy (.ref a) X.env hs') (SP X pins D) X.xe { s' with heap := g1 } := by
      intro hs' l' hk
      induction hk with
      | nil =>
        intro w
        refine wpAny_handleBy_nil ?_
        obtain ⟨_, _, _, oe, vs, Tr, _, _, he, hz, hd, h1, _⟩ := id fl1
        unfold PySem.passOn
        refine wpAny_bind (wpAny_field he hd h1 ?_)
        rw [if_neg (show ¬ ((Value.ref Tr == Value.none) = true) from by simp)]
        have last : wpAny (model X.prog X.w) X.A (setFlight (.ref a) X.env.frame) (fun _ t => wpAny (model X.prog X.w) X.A (throw (.ref a) : Sem Flow) (SP X pins D) X.xe t) X.xe { s' with heap := g1 } := by
          rw [fr]
          refine HandSPX.setFlight_upZ fl1 fun g2 hh2 up2 => wpAny_throw (tk _ _ ?_)
          exact ⟨a, B, sI, pins, σ', H', cls, d, rfl, J, nb, (up.trans up1).trans up2, .inr (.inr (by rw [st]; exact hh2)), na, os, ag, w⟩
        first
          | exact wpAny_bind (wpAny_pure (wpAny_bind last))
          | exact wpAny_bind last
      | bare nm su rest ih =>
        intro w
        obtain ⟨b, hb1, yes, no⟩ := w
        have LM := PySem.W.exm_one (M := model X.prog X.w) J1.kIn LT hb1
        refine wpAny_handleBy_cons (codeAny_handlers_test (ask nm (LM.here ?_))) (fun q => by cases q)
        cases b with
        | false => exact ih (no rfl)
        | true =>
          refine codeAny_handlers_suite (HandSPX.lands_againZ fl1 fun g2 fl2 up2 => ?_)
          have J2 : Inv X pins σ' H' { s' with heap := g2 } := J.landed nb fl2.1 ((up.trans up1).trans up2) os ag
          obtain ⟨o2, vs2, at2, z2, dt2⟩ := fl2.there
          refine wpAny_mono ((su a o2 cls d (X.pn ++ pins) z2 ⟨_, dt2⟩).run [] _ _ H' _ (J2.suite at2 dt2 na offL offF) (yes rfl a na)) (fun f t hsp => ?_) (fun _ _ z => z.elim)
          cases f with
          | ret u =>
            obtain ⟨v6, σ6, H6, S6, r6, q6⟩ := hsp
            exact ⟨_, _, _, S6.unsuite ok, r6, q6⟩
          | next => exact let ⟨_, _, S6, q6⟩ := hsp; ⟨_, _, S6.unsuite ok, q6⟩
          | brk => exact let ⟨_, _, S6, q6⟩ := hsp; ⟨_, _, S6.unsuite ok, q6⟩
          | cont => exact let ⟨_, _, S6, q6⟩ := hsp; ⟨_, _, S6.unsuite ok, q6⟩
      | named nd hi lc nm su rest ih =>
        intro w
        obtain ⟨b, hb1, yes, no⟩ := w
        have LM := PySem.W.exm_one (M := model X.prog X.w) J1.kIn LT hb1
        refine wpAny_handleBy_cons (codeAny_handlers_test (ask nm (LM.here ?_))) (fun q => by cases q)
        cases b with
        | false => exact ih (no rfl)
        | true =>
          refine codeAny_handlers_suite_as (HandSPX.lands_againZ fl1 fun g2 fl2 up2 => ?_)
          have J2 : Inv X pins σ' H' { s' with heap := g2 } := J.landed nb fl2.1 ((up.trans up1).trans up2) os ag
          obtain ⟨o2, vs2, at2, z2, dt2⟩ := fl2.there
          refine store_ok (X := X.suite a ((a, o2) :: (X.pn ++ pins))) (v := .ref a) (J2.suite at2 dt2 na offL offF) nd hi (.inl lc) rfl (fun t S5 => ?_) (.inr lc)
          refine wpAny_mono ((su a o2 cls d (X.pn ++ pins) z2 ⟨_, dt2⟩).run [] t _ H' _ S5 (yes rfl a na)) (fun f t6 hsp => ?_) (fun _ _ z => z.elim)
          cases f with
          | next =>
            obtain ⟨σ6, H6, S6, q6⟩ := hsp
            exact gone_ok (S6.unsuite ok) nd hi lc fun s7 J7 => ⟨_, _, J7, q6⟩
          | brk =>
            obtain ⟨σ6, H6, S6, q6⟩ := hsp
            exact gone_ok (S6.unsuite ok) nd hi lc fun s7 J7 => ⟨_, _, J7, q6⟩
          | cont =>
            obtain ⟨σ6, H6, S6, q6⟩ := hsp
            exact gone_ok (S6.unsuite ok) nd hi lc fun s7 J7 => ⟨_, _, J7, q6⟩
          | ret u =>
            obtain ⟨v6, σ6, H6, S6, r6, q6⟩ := hsp
            exact gone_ok (S6.unsuite ok) nd hi lc fun s7 J7 => ⟨_, _, _, J7, r6, q6⟩
    exact go hh w
  · cases f with
    | ret u => exact let ⟨v, σ', H', J', r, q⟩ := hsp; ⟨v, σ', H', J'.ofTry ok, r, q⟩
    | next =>
      obtain ⟨σ', H', J', q⟩ := hsp
      exact wpAny_execs_nil ⟨σ', H', J'.ofTry ok, q⟩
    | brk => exact let ⟨σ', H', J', q⟩ := hsp; ⟨σ', H', J'.ofTry ok, q⟩
    | cont => exact let ⟨σ', H', J', q⟩ := hsp; ⟨σ', H', J'.ofTry ok, q⟩
end
/-! ### own exceptions -/
/-- what the written part says of an own exception class: the class at C, its __init__ at f -/
structure XCls (K : PySem.W.Frag) (mg : Str → Option Value) (nm : Str) (C f : Addr) : Prop where
  g : mg nm = some (.ref C)
  o : OexC K C
  i : PySem.W.findIn K (.ref C) "__init__" = some (some (.ref f))
  t : PySem.W.typeIn K (.ref f) = some (.type "function")
  x : XfC K C
  e : ExcC K C
theorem xcls_mk {K : PySem.W.Frag} {mg : Str → Option Value} {nm : Str} {C f : Addr} {n q : Str} {N : Addr} {bs bm : List Value} {sn : List Str} {sub : List Value} {ab : Bool} {col : _} {dd : Option Addr} {k0 k1 k2 k3 k5 : Option Value}
    (g : mg nm = some (.ref C)) (l : K.lookup C = some (excClassObj n q C N bs bm true sn sub ab col dd k0 k1 k2 k3 k5 "ValueError.__new__")) (bm' : PySem.HandSPX.refsVE bm = true) (sa : PySem.W.findIn K (.ref C) "__setattr__" = some (some (.builtin "object.__setattr__")))
    (ex : PySem.W.subIn K (.ref C) (.type "BaseException") = some true) (ty : PySem.W.typeIn K (.ref C) = some (.type "type")) (kp : PySem.W.keepIn K (.ref C) = true) (i : PySem.W.findIn K (.ref C) "__init__" = some (some (.ref f)))
    (t : PySem.W.typeIn K (.ref f) = some (.type "function")) (ga : PySem.W.findIn K (.ref C) "__getattribute__" = some (some (.builtin "BaseException.__getattribute__"))) (gg : PySem.W.findIn K (.ref C) "__getattr__" = some none) (hd : PySem.W.hasDictIn K C = true)
    (ha : PySem.W.findIn K (.ref C) "__class__" = some (some (.builtin "object.__class__"))) (hn : PySem.W.specialIn K (.builtin "object.__class__") "__get__" = some (some (.builtin "getset_descriptor.__get__")))
    (ht : PySem.W.takesIn K (.builtin "object.__class__") = some true) (hm : PySem.W.mroIn K C (.type "object") = some true) : XCls K mg nm C f :=
  ⟨g, ⟨⟨n, q, N, bs, bm, sn, sub, ab, col, dd, k0, k1, k2, k3, k5, l, bm'⟩, sa, ex, ty, kp⟩, i, t, ⟨ga, gg, ex, hd⟩, ⟨ga, gg, ex, hd, ha, hn, ht, hm⟩⟩
/-- __init__ of such a class: one field is stored -/
def sp_xinit (K : PySem.W.Frag) (f : Str) : Sp := fun vs H Q _ => ∃ (a C : Addr) (v : V), vs = [.ref a, v] ∧ OexC K C ∧ PySem.W.findIn K (.ref C) f = some none ∧ H a = some (exo a C none) ∧
  ∀ dx, H dx = none → dx ≠ a → Q .non (upd (upd H dx (exd dx [(f, v)])) a (exo a C (some dx)))
/-- raise C(v): what follows holds wherever the new error's dict is told, all else standing -/
theorem mkO_of {K : PySem.W.Frag} {f : Str} {C : Addr} {v : V} {H : Hp} {E : XK} (O : OexC K C) (hn : PySem.W.findIn K (.ref C) f = some none) (k : ∀ d H', H d = none → Same H H' → H' d = some (.xd [(f, v)]) → E (.ref C) (some d) H') :
    [v].length ≤ 1000 ∧ ∀ a, H a = none → sp_xinit K f (.ref a :: ([v] ++ [])) (upd H a (exo a C none))
      (fun w H2 => w = .non ∧ ∃ (d : Addr) (fs : List (Str × V)), H2 a = some (exo a C (some d)) ∧ H2 d = some (exd d fs) ∧ H d = none ∧ E (.ref C) (some d) (upd (del H2 a) d (.xd fs))) (fun _ _ _ => False) := by
  refine ⟨Nat.succ_le_succ (Nat.zero_le _), fun a ha => ⟨a, C, v, rfl, O, hn, upd_same, fun dx hdx ne => ⟨rfl, dx, [(f, v)], upd_same, ?_, ?_, ?_⟩⟩⟩
  · rw [upd_ne ne]
    exact upd_same
  · rw [upd_ne ne] at hdx
    exact hdx
  · have hdx0 : H dx = none := by
      rw [upd_ne ne] at hdx
      exact hdx
    refine k dx _ hdx0 (fun b o e => ?_) upd_same
    have nb : b ≠ dx := ne_of_none e hdx0
    have na : b ≠ a := ne_of_none e ha
    rw [upd_ne nb, del_ne na, upd_ne na, upd_ne nb, upd_ne na]
    exact e
section
variable {X : Cx} {a : Addr} {oe : Obj} {cls : Value} {d : Option Addr} {pn : List (Addr × Obj)} {n : Str}
/-- e.n in a suite, e of whichever class it is -/
def tXg (K : PySem.W.Frag) (a : Addr) (cls : Value) (d : Option Addr) (f : Str) (te : TE) : TE := fun σ H Q => te σ H fun x H1 => x = .ref a ∧ ∃ (C dd : Addr) (fs : List (Str × V)) (v : V), cls = .ref C ∧ XfC K C ∧ PySem.W.findIn K (.ref C) f = some none ∧ d = some dd ∧ H1 dd = some (.xd fs) ∧ fs.lookup f = some v ∧ Q v H1
theorem pe_xg {e : Expr} {te : TE} {pos : Pos} (hz : Zc cls d oe) (hf : ∃ vs, oe.data = .fields vs) (he : PE (X.suite a ((a, oe) :: pn)) e te)
    (hb : attributeBase e n X.env (eval e X.env) = eval e X.env := by rfl) : PE (X.suite a ((a, oe) :: pn)) (.Attribute e n pos) (tXg X.K a cls d n te) := by
  refine ⟨fun pins s σ H Q I h => ?_⟩
  refine attr_of hb (thn (he.run pins s σ H _ I h) fun u s1 hh => ?_)
  obtain ⟨x, H1, I1, rx, ex, C, dd, fs, v, ec, T, hno, ed, ea, l, q⟩ := hh
  subst ex ec ed
  obtain rfl : u = Value.ref a := rx
  obtain ⟨mA, hns, hr⟩ := (show ObjOk X.prog X.w H1 s1.heap dd (.xd fs) from I1.hok dd _ ea)
  obtain ⟨od, ho, hl⟩ := lookIn_ns hns
  obtain ⟨u, hu, ru⟩ := RelO.some_of (v := v) (o := mA n) (by rw [← l]; exact hr n)
  obtain ⟨vs, hv⟩ := hf
  have J : PySem.W.InstAt s1.heap a oe C (some od) := ⟨(I1.pin (a, oe) (List.mem_append_left _ List.mem_cons_self)).1, hz.1, by unfold PySem.W.notCls; rw [hv] <;> rfl, by rw [hz.2]; exact ho⟩
  exact PySem.HandSPX.exc_get I1.kIn J T.ga T.gg T.exC (PySem.W.findObj_own T.hdC hno rfl (by rw [hl, hu])) (handed_of ru) ⟨v, H1, I1.tok _, ru, q⟩
/-- isinstance(e, c) in a suite -/
def rIsX (K : PySem.W.Frag) (a : Addr) (cls : Value) (d : Option Addr) : List V → Hp → VK → Prop := fun xs H Q => ∃ (c : V) (cv : Value) (b : Bool) (D dd : Addr) (fs : List (Str × V)), xs = [.ref a, c] ∧ (∀ u, RelV c u → u = cv) ∧ cls = .ref D ∧ ExcC K D ∧ d = some dd ∧ H dd = some (.xd fs) ∧
  PySem.W.kitOne K (.ref D) cv = some b ∧ Q (.bl b) H
theorem call_isX (hz : Zc cls d oe) (hf : ∃ vs, oe.data = .fields vs) : CallR (X.suite a ((a, oe) :: pn)) (.builtin "isinstance") (rIsX X.K a cls d) := by
  intro pins s σ H xs us Q I r h
  obtain ⟨c, cv, b, D, dd, fs, rfl, hcv, ec, C, ed, ea, e, q⟩ := h
  subst ec ed
  obtain ⟨u1, u2, rfl, r1, r2⟩ := vals2 r
  cases (show u1 = Value.ref a from r1)
  cases (hcv _ r2)
  obtain ⟨mA, hns, hr⟩ := (show ObjOk X.prog X.w H s.heap dd (.xd fs) from I.hok dd _ ea)
  obtain ⟨od, ho, hl⟩ := lookIn_ns hns
  obtain ⟨vs, hv⟩ := hf
  have J : PySem.W.InstAt s.heap a oe D (some od) := ⟨(I.pin (a, oe) (List.mem_append_left _ List.mem_cons_self)).1, hz.1, by unfold PySem.W.notCls; rw [hv] <;> rfl, by rw [hz.2]; exact ho⟩
  obtain ⟨cd, hc, _⟩ := PySem.W.any_some C.hd
  exact PySem.W.kia_one (PySem.W.kitx_exc (by rw [hc]; rfl) C.hg C.hk C.hs C.ha C.hn C.ht C.hm) I.kIn J e (fun z => nomatch z) fun tk => ⟨.bl b, H, I.tok tk, rfl, q⟩
end
section
variable {X : Cx} {CX' : CXT} {k : Nat} {f C : Addr} {fd : FuncData} {ps : List Str} {sp : Sp} {E : St → XK} {x m : Str} {p pos apos : Pos} {e o : Expr} {es : List Expr} {ta : TE} {t : TA}
/-- o.m(..), what it lets out wished for at the caller's slots -/
def tMethX (C : Addr) (m : Str) (sp : Sp) (E : St → XK) (ta : TE) (t : TA) : TE := fun σ H Q => ta σ H fun x H1 => ∃ a dx fs, x = .ref a ∧ H1 a = some (.ins C dx fs) ∧ fs.lookup m = none ∧ t σ H1 fun vs H2 => sp (x :: vs) H2 Q (E σ)
theorem pe_methX {pl : Sem Bool} (he : PE X o ta) (c : Cls X.K C) (hm : Meth X.K C m f) (F : FnOk X.prog X.w X.K X.mg X.base CX' k f fd ps sp) (hr : Room k X.A) (hb : Binds X.K fd ps []) (hx : ∀ σ, PassesAt CX' X σ (E σ)) (ha : PA X (e :: es) t)
    (hst : starEach (e :: es) X.env = (false, eval e X.env) :: starEach es X.env := by rfl) (hpl : (PySem.backTo pos (starEach es X.env)).any (·.1) = false := by rfl)
    (ht : eval (.Call (.Attribute o m apos) (e :: es) [] pos) X.env = (eval o X.env >>= fun ov => standAt apos.atName >>= fun _ => holding [ov] (getMethod ov m pl) >>= fun fr => callWith pos fr.1 fr.2 (PySem.backTo pos (starEach (e :: es) X.env)) (backToKw pos (keywordEach [] X.env))) := by rfl) :
    PE X (.Call (.Attribute o m apos) (e :: es) [] pos) (tMethX C m sp E ta t) := by
  refine ⟨fun pins s σ H Q I h => ?_⟩
  refine PySem.W.methodCall_KW (pl := pl) (thn (he.run pins s σ H _ I h) fun u s1 ⟨x, H1, I1, rx, a, dx, fs, ex, ea, l, q⟩ => ?_) ht
  subst ex
  obtain rfl : u = Value.ref a := rx
  refine getmeth_ok I1 ea c hm l ?_
  refine PySem.W.callWith_K (h₀ := X.base) I1.ok.mod.kin hm.kp (thn (ha.run pos pins s1 σ H1 _ I1 q) fun us s2 ⟨vs, H2, I2, r, q2⟩ => ⟨I2.kIn, ?_⟩) hst hpl
  exact run_fnS (us := .ref a :: us) (vs := .ref a :: vs) F hr hb (hx σ) I2 (.cons rfl r) q2
end
/-- a class that is only named -/
structure GCls (mg : Str → Option Value) (nm : Str) (C : Addr) : Prop where
  g : mg nm = some (.ref C)
/-- what a callee lets out, whatever the slots hold -/
def anyW (n : Nat) (W : WX) : XK := fun cls d H => ∀ σ : L2.St, σ.length = n → W cls d σ H
theorem passes_any {X : Cx} {W : WX} (n : Nat) (tk : Takes X W) (hn : X.N.length = n := by rfl) : Passes (L2.CX X.prog X.w) X (anyW n W) :=
  fun _ σ _ _ e s' I c => tk e s' (XE.of_call I (fun cls d H' h => h σ (I.len.trans hn)) c)
/-! ### super() -/
section
open PySem.Spec PyProof.Rows
/-- the text's own file -/
class SupP (prog : Program) : Prop where
  file : ((prog.main.file : Str) == ("/claim/cut.py" : Str)) = true
  top : (prog.main.scope.names.lookup ("super" : Str)).isSome = false
instance {CX : CXT} {P : Program} {w : World} {K : PySem.W.Frag} {mg : Str → Option Value} {base : Heap} {N : List Str} {qual : Str} {scope : Scope} {f : Addr} {cd : Value} {A : Around} {outer : List Env} {s : Shared} {H : Hp} {E : XK} [h : SupP P] : SupP (cxOf CX P w K mg base N qual scope f cd A outer s H E).prog := h
instance {CX : CXT} {P : Program} {w : World} {K : PySem.W.Frag} {mg : Str → Option Value} {base : Heap} {N : List Str} {F : NdefX.NF} {f : Addr} {A : Around} {outer : List Env} {s : Shared} {H : Hp} {E : XK} [h : SupP P] : SupP (NdefX.ncx CX P w K mg base N F f A outer s H E).prog := h
/-- what the written part says of a def that says super(): its own record, its code, the cell of its class -/
structure SupK (K : PySem.W.Frag) (f cda cc D : Addr) (me : Str) : Prop where
  fn : ∃ (oc : Value) (od : Option Addr) (fd : FuncData) (osl : Array (Option Value)) (ar : Arg), K.lookup f = some ⟨oc, od, .func fd, osl⟩ ∧ (fd.params.posonlyargs ++ fd.params.args).head? = some ar ∧ ar.arg = me
  code : ∃ (ccl : Value) (cdd : Option Addr) (vs : Array Value) (ccs : Array (Option Value)) (tf : Tok), K.lookup cda = some ⟨ccl, cdd, .fields vs, ccs⟩ ∧ vs[2]? = some (.str "/claim/cut.py" tf)
  cell : ∃ (cl : Value) (cld : Option Addr) (csl : Array (Option Value)), K.lookup cc = some ⟨cl, cld, .cell (some (.ref D)), csl⟩
  cls : ∃ cd, PySem.W.clsIn K D = some cd
/-- .. of the class C whose object asks for m above D -/
structure SupC (K : PySem.W.Frag) (C D : Addr) (m : Str) (g : Addr) : Prop where
  cls : ∃ cd, PySem.W.clsIn K C = some cd
  sub : PySem.W.mroIn K C (.ref D) = some true
  at_ : PySem.W.ks_superIn K C D m = some (some (.ref g))
  ty : PySem.W.typeIn K (.ref g) = some (.type "function")
  fn : PySem.W.fnIn K g = true
  any : PySem.W.nsIn K PySem.cStatics "thirdparty.any" = some none
/-- .. and of the def's frame -/
structure SupE (X : Cx) (f cda cc : Addr) (me : Str) : Prop where
  fu : X.env.func = some f
  co : X.env.code = .ref cda
  ce : X.env.cells.lookup ("__class__" : Str) = some cc
  ks : X.env.scope.names.lookup ("super" : Str) = some .globalImplicit
  kc : X.env.scope.names.lookup ("__class__" : Str) = some .free
  ka : X.env.scope.names.lookup me = some .local
  n0 : X.N[0]? = some me
  mg : X.mg "super" = none
variable {X : Cx} {f cda cc D : Addr} {me : Str} {pins : List (Addr × Obj)} {σ : L2.St} {H : Hp} {s : Shared}
theorem super_get {body : List Stmt} {p0 p1 : Pos} {m : Str} {whole : Sem Value} {A : Around} {E : Value → Shared → Prop} {Q : Value → Shared → Prop} {a C : Addr} {ox : Obj} {odx : Option Obj}
    [SP0 : SupP X.prog] (S : SupK X.K f cda cc D me) (V : SupE X f cda cc me) (I : Inv X pins σ H s) (h0 : σ[0]? = some (some (.ref a))) (J : PySem.W.InstAt s.heap a ox C odx) (hsub : PySem.W.mroIn X.K C (.ref D) = some true) (hat : (m == ("__class__" : Str)) = false)
    (h : ∀ so h', (∀ b o, s.heap.get? b = some o → h'.get? b = some o) → so = s.heap.objs.size → h'.get? so = some (PySem.W.ks_superObj D a C) → Q (.ref so) { s with heap := h' }) :
    _root_.PySem.wpAt (model X.prog X.w) A (.func body X.env) (attributeBase (.Call (.Name "super" p0) [] [] p1) m X.env whole) Q E s := by
  obtain ⟨oc, od, fd, osl, ar, hf, hp, rfl⟩ := S.fn
  obtain ⟨ccl, cdd, vs, ccs, tf, hcode, hvs⟩ := S.code
  obtain ⟨cl, cld, csl, hcell⟩ := S.cell
  obtain ⟨cdD, hD⟩ := S.cls
  have KI : X.K.In s.heap := I.kIn
  obtain ⟨oD, hD1, hD2⟩ : ∃ oD, s.heap.get? D = some oD ∧ oD.data = .cls cdD := by
    unfold PySem.W.clsIn at hD
    split at hD
    · rename_i c d cd' sl ho
      cases hD
      exact ⟨_, KI _ _ ho, rfl⟩
    · cases hD
  obtain ⟨mL, hns, hl⟩ := I.loc
  obtain ⟨u, ru, lk⟩ := hl 0 ar.arg (.ref a) V.n0 h0 (.inl V.ka)
  cases (show u = Value.ref a from ru)
  have hv : mL ar.arg = some (.ref a) := by
    rcases lk with ⟨_, e⟩ | ⟨e, _⟩
    · exact e
    · rcases e with e | e <;> (rw [show X.env.kindOf ar.arg = some .local from V.ka] at e; cases e)
  obtain ⟨mb, h1, h2⟩ := I.mod.blt
  refine PySem.ks_wpAt_super_base (env := X.env) V.ks V.kc hat V.fu (KI _ _ hf) rfl hp V.co (KI _ _ hcode) rfl hvs SP0.file SP0.top ?_
  refine PySem.W.ks_loadName_global I.ok.kind V.ks (PySem.Calls.loadGlobal_builtin (by rw [I.ok.glob]; exact I.mod.glob.keeps I.bk) V.mg (by rw [I.ok.blt]; exact h1.keeps I.bk) ((h2 "super" (by decide)).trans (show bootBuiltins "super" = some (.type "super") by decide +kernel)) ⟨rfl, ?_⟩)
  refine wpAny_loadName_free I.ok.kind V.kc V.ce ⟨_, KI _ _ hcell, rfl⟩ ?_
  refine wpAny_loadName_local I.ok.kind V.ka hns hv ?_
  obtain ⟨hh, g, d, t, os⟩ := s
  refine PySem.ks_wpAny_isType_cls hD1 hD2 ⟨rfl, ?_⟩
  refine PySem.ks_wpAny_call_super hD1 hD2 J.at_ J.cls (fun c e => ?_) (PySem.W.looks_mroIn KI hsub) (fun h' e k => ?_)
  · have := J.no
    unfold PySem.W.notCls at this
    rw [e] at this
    exact Bool.noConfusion this
  · exact h _ _ k rfl e
/-- a statement, statements, run in the code of a def's body -/
structure PSA (X : Cx) (body : List Stmt) (st : Stmt) (t : TS) : Prop where
  run : ∀ (pins : List (Addr × Obj)) (s : Shared) (σ : L2.St) (H : Hp) (D : Ends), Inv X pins σ H s → t D σ H → _root_.PySem.wpAt (model X.prog X.w) X.A (.func body X.env) (exec st X.env) (SP X pins D) X.xe s
structure PSsA (X : Cx) (body : List Stmt) (ss : List Stmt) (t : TS) : Prop where
  run : ∀ (pins : List (Addr × Obj)) (s : Shared) (σ : L2.St) (H : Hp) (D : Ends), Inv X pins σ H s → t D σ H → _root_.PySem.wpAt (model X.prog X.w) X.A (.func body X.env) (execs ss X.env) (SP X pins D) X.xe s
variable {body : List Stmt} {st : Stmt} {ss : List Stmt} {t u : TS}
theorem psa_of (h : PS X st t) : PSA X body st t := ⟨fun pins s σ H D I q => wpAt_of_wpAny (h.run pins s σ H D I q)⟩
theorem pssa_of (h : PSs X ss t) : PSsA X body ss t := ⟨fun pins s σ H D I q => wpAt_of_wpAny (h.run pins s σ H D I q)⟩
theorem pssa_cons (h : PSA X body st t) (r : PSsA X body ss u) : PSsA X body (st :: ss) (tSeq t u) := by
  refine ⟨fun pins s σ H D I q => PySem.ks_wpAt_execs_cons (PySem.ks_wpAt_mono (h.run pins s σ H _ I q) (fun f s' hs => ?_) fun _ _ z => z)⟩
  cases f with
  | next =>
    obtain ⟨σ', H', I', q'⟩ := hs
    exact r.run pins s' σ' H' D I' q'
  | ret v => exact hs
  | brk => exact hs
  | cont => exact hs
theorem pssa_one (h : PSA X body st t) : PSsA X body [st] t := by
  refine ⟨fun pins s σ H D I q => PySem.ks_wpAt_execs_cons (PySem.ks_wpAt_mono (h.run pins s σ H _ I q) (fun f s' hs => ?_) fun _ _ z => z)⟩
  cases f with
  | next =>
    obtain ⟨σ', H', I', q'⟩ := hs
    exact wpAt_of_wpAny (pss_nil.run pins s' σ' H' D I' q')
  | ret v => exact hs
  | brk => exact hs
  | cont => exact hs
theorem psa_if {c : Expr} {a b : List Stmt} {tc : TT} {pos : Pos} (hc : PT X c tc) (ha : PSsA X body a t) (hb : PSsA X body b u) : PSA X body (.If c a b pos) (tIfS tc t u) := by
  refine ⟨fun pins s σ H D I h => ?_⟩
  refine PySem.ks_wpAt_If (PySem.ks_wpAt_mono (wpAt_of_wpAny (hc.run pins s σ H _ I h)) (fun d s1 ⟨H1, I1, q1⟩ => ?_) fun _ _ z => z)
  cases d with
  | true => exact ha.run pins s1 σ H1 D I1 q1
  | false => exact hb.run pins s1 σ H1 D I1 q1
/-- super().m(e, ..), its answer let go -/
def tSup (K : PySem.W.Frag) (D : Addr) (m : Str) (g : Addr) (sp : Sp) (E : XK) (t : TA) : TS := fun Dn σ H => ∃ a C dx fs, σ[0]? = some (some (.ref a)) ∧ H a = some (.ins C dx fs) ∧ SupC K C D m g ∧ t σ H fun vs H1 => sp (.ref a :: vs) H1 (fun _ H2 => Dn.nx σ H2) E
theorem psa_super {p0 p1 apos pos pos' : Pos} {m : Str} {g : Addr} {CX : CXT} {k : Nat} {sp : Sp} {E : XK} {e : Expr} {es : List Expr} {ta : TA} [SP0 : SupP X.prog] (S : SupK X.K f cda cc D me) (V : SupE X f cda cc me) (F : FnR X.prog X.w X.K X.mg X.base CX k g sp) (hr : Room k X.A) (hx : Passes CX X E) (ha : PA X (e :: es) ta)
    (hat : (m == ("__class__" : Str)) = false := by decide)
    (he : eval (.Call (.Attribute (.Call (.Name "super" p0) [] [] p1) m apos) (e :: es) [] pos) X.env = (do
      let ov ← attributeBase (.Call (.Name "super" p0) [] [] p1) m X.env (eval (.Call (.Name "super" p0) [] [] p1) X.env)
      standAt apos.atName
      let (f, first) ← holding [ov] (getMethod ov m (pure false))
      callWith pos f first (backTo pos (starEach (e :: es) X.env)) []) := by rfl)
    (hst : starEach (e :: es) X.env = (false, eval e X.env) :: starEach es X.env := by rfl) (hpl : (backTo pos (starEach es X.env)).any (·.1) = false := by rfl) (hi : interactive X.env = false := by rfl)
    (hs : swapsWith (.Call (.Attribute (.Call (.Name "super" p0) [] [] p1) m apos) (e :: es) [] pos) none pos'.line X.env = pure false := by rfl) :
    PSA X body (.Expr (.Call (.Attribute (.Call (.Name "super" p0) [] [] p1) m apos) (e :: es) [] pos) pos') (tSup X.K D m g sp E ta) := by
  refine ⟨fun pins s σ H Dn I h => ?_⟩
  obtain ⟨a, C, dx, fs, h0, hA, SC, q⟩ := h
  obtain ⟨mA, O, _⟩ := ins_get I.hok hA
  obtain ⟨od, J, _⟩ := O.look
  obtain ⟨cd, hcd⟩ := SC.cls
  refine PySem.ks_wpAt_Expr_any ?_ hi hs
  refine PySem.ks_wpAt_MethodCall ?_ he
  refine super_get S V I h0 J SC.sub hat fun so h' kp hso hobj => ?_
  have I1 : Inv X pins σ H { s with heap := h' } := I.kept (t' := s.toks) kp
  have KI : X.K.In h' := I1.kIn
  obtain ⟨mA', O', _⟩ := ins_get I1.hok hA
  obtain ⟨od', J1, _⟩ := O'.look
  obtain ⟨of, hof, hofc⟩ : ∃ of, h'.get? g = some of ∧ of.cls = .type "function" := by
    have ht' : (X.K.lookup g).map (·.cls) = some (.type "function") := SC.ty
    cases z : X.K.lookup g with
    | none => rw [z] at ht'; cases ht'
    | some of => rw [z] at ht'; exact ⟨of, KI _ _ z, Option.some.inj ht'⟩
  have hal : PySem.W.alongIn X.K m ((cd.mro.dropWhile (· != .ref D)).drop 1) = some (some (.ref g)) := by
    have := SC.at_
    unfold PySem.W.ks_superIn at this
    rw [hcd] at this
    exact this
  obtain ⟨hh, gg, dd, tt, os⟩ := s
  refine PySem.ks_wpAny_getMethod_super hobj (PySem.W.looks_opaque KI SC.any) (l₀ := cd.mro) (fun A Q E s k q => wpAny_bind ((PySem.W.looks_clsIn KI hcd) A _ E s k (wpAny_pure q))) rfl KI hal hof hofc (PySem.W.ks_ne KI J1 hcd) hat ?_
  have I2 := ClX.met_new (g := g) (C := a) I1
  refine wpAny_mono (ClX.callwith_cm I2 (ClX.base_none I1 (Nat.le_refl _)) SC.fn (thn (ha.run pos _ _ σ H _ I2 q) fun us s3 ⟨vs, H1, I3, r, q3⟩ => ⟨⟨ClX.pin_at I3, I3.kIn⟩, ClX.run_cm F hr hx I3 r q3⟩) hst hpl) (fun v s' hv => ?_) fun _ _ z => z
  obtain ⟨_, H', I', _, q'⟩ := hv
  exact ⟨σ, H', I', q'⟩
end
/-! ### a def that says super() -/
section
open PySem.Spec PyProof.Rows
structure FunC (K : PySem.W.Frag) (x qual : Str) (st : Stmt) (f cda cc : Addr) (fd : FuncData) : Prop where
  ex : ∃ (oc : Value) (od : Option Addr) (dV kV doc pm : Value) (an : Option Addr) (ct : Value) (osl : Array (Option Value)),
    fd = PySem.W.fnX x qual (defArgs st) (defBody st) (defScope st) [("__class__", cc)] dV kV doc pm an (.ref cda) ct ∧ K.lookup f = some ⟨oc, od, .func fd, osl⟩ ∧ PySem.W.codeIn K (.ref cda) qual = true
  kp : PySem.W.keepIn K (.ref f) = true
abbrev nfS (x qual : Str) (st : Stmt) (cda cc : Addr) : NdefX.NF := ⟨x, qual, defArgs st, defBody st, defScope st, [("__class__", cc)], cda⟩
theorem FunC.okX {CX : CXT} {P : Program} {w : World} {K : PySem.W.Frag} {mg : Str → Option Value} {base : Heap} {x qual : Str} {st : Stmt} {f cda cc D : Addr} {fd : FuncData} {N ps : List Str} {k : Nat} {sp : Sp} (F : FunC K x qual st f cda cc fd)
    (hc : ∃ (cl : Value) (cld : Option Addr) (csl : Array (Option Value)), K.lookup cc = some ⟨cl, cld, .cell (some (.ref D)), csl⟩) (S : NdefX.NScope N ps ["__class__"] (defScope st)) (len : ∀ vs H Q E, sp vs H Q E → vs.length = ps.length)
    (hbody : ∀ (A : Around) (outer : List Env) (s : Shared) (H : Hp) (vs : List V) (Q : VK) (E : XK), Room k (A.deeper (NdefX.envF (nfS x qual st cda cc) f s.heap.objs.size)) → sp vs H Q E →
      ∃ t, PSsA (NdefX.ncx CX P w K mg base N (nfS x qual st cda cc) f A outer s H E) (defBody st) (defBody st) t ∧ t { nx := fun _ H' => Q .non H', rt := Q } (NdefX.startF N vs [none]) H) : FnOk P w K mg base CX (k + 1) f fd ps sp := by
  obtain ⟨oc, od, dV, kV, doc, pm, an, ct, osl, rfl, lk, hcd⟩ := F.ex
  refine ⟨len, fun A outer s H args us vs Q E hr e0 hb r hsp => ?_⟩
  have hl := len _ _ _ _ hsp
  have KX : K.In s.heap := e0.mod.kin.keeps fun b o e => (e0.bs b o e).1
  have lim : s.heap.NoLimit := e0.mod.nolimit.keeps fun b o e => (e0.bs b o e).1
  obtain ⟨cl, cld, csl, hcell⟩ := hc
  have C : NdefX.CellsAt [("__class__", cc)] ["__class__"] [none] s.heap H := by
    refine ⟨rfl, fun y c e => ?_, fun x y c e1 e2 => ?_, fun i y hi => ?_⟩
    · simp only [List.lookup] at e
      split at e
      · cases e
        exact ⟨(e0.bs _ _ (e0.mod.kin _ _ hcell)).2, some (.ref D), ⟨_, KX _ _ hcell, rfl⟩⟩
      · cases e
    · simp only [List.lookup] at e1 e2
      split at e1
      · split at e2
        · rename_i q1 _ q2
          rw [beq_iff_eq.mp q1, beq_iff_eq.mp q2]
        · cases e2
      · cases e1
    · cases i with
      | zero =>
        cases hi
        exact ⟨cc, rfl, fun v hv => by cases hv⟩
      | succ i => cases hi
  refine PySem.ks_codeAny_call_defAt (body := defBody st) (binds := ps.zip us) hr.depth (KX _ _ lk) rfl lim (PySem.W.codeRec_of KX hcd) rfl hb S.nocell (fun ⟨n, _⟩ hy => S.par n (List.of_mem_zip hy).1) (fun h₁ hns kp => ?_) S.co S.gen S.kind
  obtain ⟨t, ht, hq⟩ := hbody A outer s H vs Q E (hr.deeper _) hsp
  have I : Inv (NdefX.ncx CX P w K mg base N (nfS x qual st cda cc) f A outer s H E) [] (NdefX.startF N vs [none]) H { s with heap := h₁, toks := s.toks + (ps.zip us).length } := NdefX.inv_startN S hr.hd e0 hl r C hns kp
  refine PySem.ks_wpAt_mono (ht.run [] _ (NdefX.startF N vs [none]) H _ I hq) (fun fl s' hs => ?_) fun e s' hs => hs
  have fin : ∀ {σ' : L2.St} {H' : Hp} {v : V} {u : Value}, Inv (NdefX.ncx CX P w K mg base N (nfS x qual st cda cc) f A outer s H E) [] σ' H' s' → L2.RelV v u → Q v H' → CE outer P w H s Q u s' :=
    fun {σ' H' v u} J rv q => ⟨v, H', J.os, J.bare, J.base, J.hok, rv, q⟩
  cases fl with
  | ret u =>
    obtain ⟨v, σ', H', J, rv, q⟩ := hs
    exact fin J rv q
  | next =>
    obtain ⟨σ', H', J, q⟩ := hs
    exact fin (v := V.non) (u := Value.none) J rfl q
  | brk =>
    obtain ⟨_, _, _, q⟩ := hs
    exact False.elim q
  | cont =>
    obtain ⟨_, _, _, q⟩ := hs
    exact False.elim q
end
def top (i : Nat) : Stmt := PySem.Challenge.pw_lossway_k20_base_and_fixed.main.body.getD i (.Pass ⟨0, 0, 0, 0⟩)
abbrev s_InvalidNumber_init_ : Stmt := inClass (top 2) 0
theorem st_InvalidNumber_init_ {t : TS} {D : Ends} {H : Hp} {v0 v1 : V} (h : t D [some v0, some v1] H) : t D (L2.start ["self", "number"] [v0, v1]) H := h
theorem sc_InvalidNumber_init_ : FnScope ["self", "number"] ["self", "number"] (defScope s_InvalidNumber_init_) := ⟨rfl, rfl, rfl, by decide +kernel, rfl, by decide +kernel, by decide +kernel⟩
abbrev s_InvalidSetting_init_ : Stmt := inClass (top 3) 0
theorem st_InvalidSetting_init_ {t : TS} {D : Ends} {H : Hp} {v0 v1 : V} (h : t D [some v0, some v1] H) : t D (L2.start ["self", "setting"] [v0, v1]) H := h
theorem sc_InvalidSetting_init_ : FnScope ["self", "setting"] ["self", "setting"] (defScope s_InvalidSetting_init_) := ⟨rfl, rfl, rfl, by decide +kernel, rfl, by decide +kernel, by decide +kernel⟩
abbrev s_is_integer : Stmt := top 5
theorem st_is_integer {t : TS} {D : Ends} {H : Hp} {v0 : V} (h : t D [some v0] H) : t D (L2.start ["value"] [v0]) H := h
theorem sc_is_integer : FnScope ["value"] ["value"] (defScope s_is_integer) := ⟨rfl, rfl, rfl, by decide +kernel, rfl, by decide +kernel, by decide +kernel⟩
abbrev s_is_between : Stmt := top 6
theorem st_is_between {t : TS} {D : Ends} {H : Hp} {v0 v1 v2 : V} (h : t D [some v0, some v1, some v2] H) : t D (L2.start ["value", "low", "high"] [v0, v1, v2]) H := h
theorem sc_is_between : FnScope ["value", "low", "high"] ["value", "low", "high"] (defScope s_is_between) := ⟨rfl, rfl, rfl, by decide +kernel, rfl, by decide +kernel, by decide +kernel⟩
abbrev s_require_new_bytes : Stmt := top 9
theorem st_require_new_bytes {t : TS} {D : Ends} {H : Hp} {v0 : V} (h : t D [some v0] H) : t D (L2.start ["count"] [v0]) H := h
theorem sc_require_new_bytes : FnScope ["count"] ["count"] (defScope s_require_new_bytes) := ⟨rfl, rfl, rfl, by decide +kernel, rfl, by decide +kernel, by decide +kernel⟩
abbrev s_Control_init_ : Stmt := inClass (top 10) 2
theorem st_Control_init_ {t : TS} {D : Ends} {H : Hp} {v0 v1 : V} (h : t D [some v0, some v1] H) : t D (L2.start ["self", "unit"] [v0, v1]) H := h
theorem sc_Control_init_ : FnScope ["self", "unit"] ["self", "unit"] (defScope s_Control_init_) := ⟨rfl, rfl, rfl, by decide +kernel, rfl, by decide +kernel, by decide +kernel⟩
abbrev s_Control_starting : Stmt := inClass (top 10) 3
theorem st_Control_starting {t : TS} {D : Ends} {H : Hp} {v0 : V} (h : t D [some v0] H) : t D (L2.start ["self"] [v0]) H := h
theorem sc_Control_starting : FnScope ["self"] ["self"] (defScope s_Control_starting) := ⟨rfl, rfl, rfl, by decide +kernel, rfl, by decide +kernel, by decide +kernel⟩
abbrev s_Control_on_ack : Stmt := inClass (top 10) 4
theorem st_Control_on_ack {t : TS} {D : Ends} {H : Hp} {v0 v1 v2 v3 : V} (h : t D [some v0, some v1, some v2, some v3] H) : t D (L2.start ["self", "count", "flight", "now"] [v0, v1, v2, v3]) H := h
theorem sc_Control_on_ack : FnScope ["self", "count", "flight", "now"] ["self", "count", "flight", "now"] (defScope s_Control_on_ack) := ⟨rfl, rfl, rfl, by decide +kernel, rfl, by decide +kernel, by decide +kernel⟩
abbrev s_Control_grow : Stmt := inClass (top 10) 5
theorem st_Control_grow {t : TS} {D : Ends} {H : Hp} {v0 v1 v2 : V} (h : t D [some v0, some v1, some v2] H) : t D (L2.start ["self", "count", "now"] [v0, v1, v2]) H := h
theorem sc_Control_grow : FnScope ["self", "count", "now"] ["self", "count", "now"] (defScope s_Control_grow) := ⟨rfl, rfl, rfl, by decide +kernel, rfl, by decide +kernel, by decide +kernel⟩
abbrev s_Control_on_loss : Stmt := inClass (top 10) 6
theorem st_Control_on_loss {t : TS} {D : Ends} {H : Hp} {v0 v1 v2 : V} (h : t D [some v0, some v1, some v2] H) : t D (L2.start ["self", "flight", "now"] [v0, v1, v2]) H := h
theorem sc_Control_on_loss : FnScope ["self", "flight", "now"] ["self", "flight", "now"] (defScope s_Control_on_loss) := ⟨rfl, rfl, rfl, by decide +kernel, rfl, by decide +kernel, by decide +kernel⟩
abbrev s_Control_on_expiry : Stmt := inClass (top 10) 7
theorem st_Control_on_expiry {t : TS} {D : Ends} {H : Hp} {v0 v1 v2 : V} (h : t D [some v0, some v1, some v2] H) : t D (L2.start ["self", "flight", "now"] [v0, v1, v2]) H := h
theorem sc_Control_on_expiry : FnScope ["self", "flight", "now"] ["self", "flight", "now"] (defScope s_Control_on_expiry) := ⟨rfl, rfl, rfl, by decide +kernel, rfl, by decide +kernel, by decide +kernel⟩
abbrev s_Control_on_sample : Stmt := inClass (top 10) 8
theorem st_Control_on_sample {t : TS} {D : Ends} {H : Hp} {v0 v1 : V} (h : t D [some v0, some v1] H) : t D (L2.start ["self", "ticks"] [v0, v1]) H := h
theorem sc_Control_on_sample : FnScope ["self", "ticks"] ["self", "ticks"] (defScope s_Control_on_sample) := ⟨rfl, rfl, rfl, by decide +kernel, rfl, by decide +kernel, by decide +kernel⟩
abbrev s_Control_set_window : Stmt := inClass (top 10) 9
theorem st_Control_set_window {t : TS} {D : Ends} {H : Hp} {v0 v1 : V} (h : t D [some v0, some v1] H) : t D (L2.start ["self", "window"] [v0, v1]) H := h
theorem sc_Control_set_window : FnScope ["self", "window"] ["self", "window"] (defScope s_Control_set_window) := ⟨rfl, rfl, rfl, by decide +kernel, rfl, by decide +kernel, by decide +kernel⟩
abbrev s_Fixed_init_ : Stmt := inClass (top 11) 1
theorem st_Fixed_init_ {t : TS} {D : Ends} {H : Hp} {v0 v1 v2 : V} (h : t D [some v0, some v1, some v2, none] H) : t D (NdefX.startF ["self", "unit", "pieces", "__class__"] [v0, v1, v2] [none]) H := h
theorem se_Fixed_init_ : (defScope s_Fixed_init_).names.lookup ("super" : Str) = some .globalImplicit ∧ (defScope s_Fixed_init_).names.lookup ("__class__" : Str) = some .free ∧ (defScope s_Fixed_init_).names.lookup ("self" : Str) = some .local := by decide +kernel
theorem sc_Fixed_init_ : NdefX.NScope ["self", "unit", "pieces", "__class__"] ["self", "unit", "pieces"] ["__class__"] (defScope s_Fixed_init_) := NdefX.nscope_by (by decide +kernel)
abbrev s_Fixed_on_ack : Stmt := inClass (top 11) 2
theorem st_Fixed_on_ack {t : TS} {D : Ends} {H : Hp} {v0 v1 v2 v3 : V} (h : t D [some v0, some v1, some v2, some v3] H) : t D (L2.start ["self", "count", "flight", "now"] [v0, v1, v2, v3]) H := h
theorem sc_Fixed_on_ack : FnScope ["self", "count", "flight", "now"] ["self", "count", "flight", "now"] (defScope s_Fixed_on_ack) := ⟨rfl, rfl, rfl, by decide +kernel, rfl, by decide +kernel, by decide +kernel⟩
abbrev s_Fixed_grow : Stmt := inClass (top 11) 3
theorem st_Fixed_grow {t : TS} {D : Ends} {H : Hp} {v0 v1 v2 : V} (h : t D [some v0, some v1, some v2] H) : t D (L2.start ["self", "count", "now"] [v0, v1, v2]) H := h
theorem sc_Fixed_grow : FnScope ["self", "count", "now"] ["self", "count", "now"] (defScope s_Fixed_grow) := ⟨rfl, rfl, rfl, by decide +kernel, rfl, by decide +kernel, by decide +kernel⟩
abbrev s_Fixed_on_loss : Stmt := inClass (top 11) 4
theorem st_Fixed_on_loss {t : TS} {D : Ends} {H : Hp} {v0 v1 v2 : V} (h : t D [some v0, some v1, some v2] H) : t D (L2.start ["self", "flight", "now"] [v0, v1, v2]) H := h
theorem sc_Fixed_on_loss : FnScope ["self", "flight", "now"] ["self", "flight", "now"] (defScope s_Fixed_on_loss) := ⟨rfl, rfl, rfl, by decide +kernel, rfl, by decide +kernel, by decide +kernel⟩
abbrev s_Fixed_on_expiry : Stmt := inClass (top 11) 5
theorem st_Fixed_on_expiry {t : TS} {D : Ends} {H : Hp} {v0 v1 v2 : V} (h : t D [some v0, some v1, some v2] H) : t D (L2.start ["self", "flight", "now"] [v0, v1, v2]) H := h
theorem sc_Fixed_on_expiry : FnScope ["self", "flight", "now"] ["self", "flight", "now"] (defScope s_Fixed_on_expiry) := ⟨rfl, rfl, rfl, by decide +kernel, rfl, by decide +kernel, by decide +kernel⟩
abbrev s_Fixed_on_sample : Stmt := inClass (top 11) 6
theorem st_Fixed_on_sample {t : TS} {D : Ends} {H : Hp} {v0 v1 : V} (h : t D [some v0, some v1] H) : t D (L2.start ["self", "ticks"] [v0, v1]) H := h
theorem sc_Fixed_on_sample : FnScope ["self", "ticks"] ["self", "ticks"] (defScope s_Fixed_on_sample) := ⟨rfl, rfl, rfl, by decide +kernel, rfl, by decide +kernel, by decide +kernel⟩
abbrev s__law_cell : Stmt := top 13
theorem st__law_cell {t : TS} {D : Ends} {H : Hp} {v0 v1 : V} (h : t D [some v0, some v1] H) : t D (L2.start ["script", "k"] [v0, v1]) H := h
theorem sc__law_cell : FnScope ["script", "k"] ["script", "k"] (defScope s__law_cell) := ⟨rfl, rfl, rfl, by decide +kernel, rfl, by decide +kernel, by decide +kernel⟩
abbrev s__law_rounds : Stmt := top 14
theorem st__law_rounds {t : TS} {D : Ends} {H : Hp} {v0 : V} (h : t D [some v0] H) : t D (L2.start ["script"] [v0]) H := h
theorem sc__law_rounds : FnScope ["script"] ["script"] (defScope s__law_rounds) := ⟨rfl, rfl, rfl, by decide +kernel, rfl, by decide +kernel, by decide +kernel⟩
abbrev s__law_box : Stmt := top 15
theorem st__law_box {t : TS} {D : Ends} {H : Hp} {v0 : V} (h : t D [some v0] H) : t D (L2.start ["cell"] [v0]) H := h
theorem sc__law_box : FnScope ["cell"] ["cell"] (defScope s__law_box) := ⟨rfl, rfl, rfl, by decide +kernel, rfl, by decide +kernel, by decide +kernel⟩
abbrev s__law_draw : Stmt := top 16
theorem st__law_draw {t : TS} {D : Ends} {H : Hp} {v0 v1 : V} (h : t D [some v0, some v1, none, none, none] H) : t D (L2.start ["box", "size", "digit", "first", "second"] [v0, v1]) H := h
theorem sc__law_draw : FnScope ["box", "size", "digit", "first", "second"] ["box", "size"] (defScope s__law_draw) := ⟨rfl, rfl, rfl, by decide +kernel, rfl, by decide +kernel, by decide +kernel⟩
abbrev s__law_unit : Stmt := top 17
theorem st__law_unit {t : TS} {D : Ends} {H : Hp} {v0 : V} (h : t D [some v0, none] H) : t D (L2.start ["box", "way"] [v0]) H := h
theorem sc__law_unit : FnScope ["box", "way"] ["box"] (defScope s__law_unit) := ⟨rfl, rfl, rfl, by decide +kernel, rfl, by decide +kernel, by decide +kernel⟩
abbrev s__law_count : Stmt := top 18
theorem st__law_count {t : TS} {D : Ends} {H : Hp} {v0 v1 v2 : V} (h : t D [some v0, some v1, some v2, none] H) : t D (L2.start ["box", "unit", "brink", "way"] [v0, v1, v2]) H := h
theorem sc__law_count : FnScope ["box", "unit", "brink", "way"] ["box", "unit", "brink"] (defScope s__law_count) := ⟨rfl, rfl, rfl, by decide +kernel, rfl, by decide +kernel, by decide +kernel⟩
abbrev s__law_load : Stmt := top 19
theorem st__law_load {t : TS} {D : Ends} {H : Hp} {v0 v1 v2 v3 : V} (h : t D [some v0, some v1, some v2, some v3, none] H) : t D (L2.start ["box", "unit", "window", "count", "way"] [v0, v1, v2, v3]) H := h
theorem sc__law_load : FnScope ["box", "unit", "window", "count", "way"] ["box", "unit", "window", "count"] (defScope s__law_load) := ⟨rfl, rfl, rfl, by decide +kernel, rfl, by decide +kernel, by decide +kernel⟩
abbrev s__law_later : Stmt := top 20
theorem st__law_later {t : TS} {D : Ends} {H : Hp} {v0 v1 v2 : V} (h : t D [some v0, some v1, some v2, none] H) : t D (L2.start ["box", "now", "meet", "way"] [v0, v1, v2]) H := h
theorem sc__law_later : FnScope ["box", "now", "meet", "way"] ["box", "now", "meet"] (defScope s__law_later) := ⟨rfl, rfl, rfl, by decide +kernel, rfl, by decide +kernel, by decide +kernel⟩
abbrev s__law_bad : Stmt := top 21
theorem st__law_bad {t : TS} {D : Ends} {H : Hp} {v0 : V} (h : t D [some v0, none] H) : t D (L2.start ["box", "way"] [v0]) H := h
theorem sc__law_bad : FnScope ["box", "way"] ["box"] (defScope s__law_bad) := ⟨rfl, rfl, rfl, by decide +kernel, rfl, by decide +kernel, by decide +kernel⟩
abbrev s__law_refused : Stmt := top 22
theorem st__law_refused {t : TS} {D : Ends} {H : Hp} {v0 v1 v2 v3 : V} (h : t D [some v0, some v1, some v2, some v3, none, none, none] H) : t D (L2.start ["control", "bad", "load", "now", "refusals", "k", "error"] [v0, v1, v2, v3]) H := h
theorem sc__law_refused : FnScope ["control", "bad", "load", "now", "refusals", "k", "error"] ["control", "bad", "load", "now"] (defScope s__law_refused) := ⟨rfl, rfl, rfl, by decide +kernel, rfl, by decide +kernel, by decide +kernel⟩
abbrev s__law_whole : Stmt := top 23
theorem st__law_whole {t : TS} {D : Ends} {H : Hp} {v0 v1 : V} (h : t D [some v0, some v1] H) : t D (L2.start ["value", "wanted"] [v0, v1]) H := h
theorem sc__law_whole : FnScope ["value", "wanted"] ["value", "wanted"] (defScope s__law_whole) := ⟨rfl, rfl, rfl, by decide +kernel, rfl, by decide +kernel, by decide +kernel⟩
abbrev s__law_truth : Stmt := top 24
theorem st__law_truth {t : TS} {D : Ends} {H : Hp} {v0 v1 : V} (h : t D [some v0, some v1] H) : t D (L2.start ["value", "wanted"] [v0, v1]) H := h
theorem sc__law_truth : FnScope ["value", "wanted"] ["value", "wanted"] (defScope s__law_truth) := ⟨rfl, rfl, rfl, by decide +kernel, rfl, by decide +kernel, by decide +kernel⟩
abbrev s__law_base : Stmt := top 25
theorem st__law_base {t : TS} {D : Ends} {H : Hp} {v0 v1 : V} (h : t D [some v0, some v1] H) : t D (L2.start ["control", "state"] [v0, v1]) H := h
theorem sc__law_base : FnScope ["control", "state"] ["control", "state"] (defScope s__law_base) := ⟨rfl, rfl, rfl, by decide +kernel, rfl, by decide +kernel, by decide +kernel⟩
abbrev s__law_state : Stmt := top 26
theorem st__law_state {t : TS} {D : Ends} {H : Hp} {v0 v1 : V} (h : t D [some v0, some v1] H) : t D (L2.start ["unit", "times"] [v0, v1]) H := h
theorem sc__law_state : FnScope ["unit", "times"] ["unit", "times"] (defScope s__law_state) := ⟨rfl, rfl, rfl, by decide +kernel, rfl, by decide +kernel, by decide +kernel⟩
abbrev s__law_acked : Stmt := top 27
theorem st__law_acked {t : TS} {D : Ends} {H : Hp} {v0 v1 v2 v3 : V} (h : t D [some v0, some v1, some v2, some v3] H) : t D (L2.start ["state", "fixed", "count", "load"] [v0, v1, v2, v3]) H := h
theorem sc__law_acked : FnScope ["state", "fixed", "count", "load"] ["state", "fixed", "count", "load"] (defScope s__law_acked) := ⟨rfl, rfl, rfl, by decide +kernel, rfl, by decide +kernel, by decide +kernel⟩
abbrev s__law_many : Stmt := top 28
theorem st__law_many {t : TS} {D : Ends} {H : Hp} {v0 v1 v2 v3 v4 : V} (h : t D [some v0, some v1, some v2, some v3, some v4, none, none, none, none] H) : t D (L2.start ["control", "state", "fixed", "box", "clock", "times", "count", "k", "load"] [v0, v1, v2, v3, v4]) H := h
theorem sc__law_many : FnScope ["control", "state", "fixed", "box", "clock", "times", "count", "k", "load"] ["control", "state", "fixed", "box", "clock"] (defScope s__law_many) := ⟨rfl, rfl, rfl, by decide +kernel, rfl, by decide +kernel, by decide +kernel⟩
abbrev s__law_lost : Stmt := top 29
theorem st__law_lost {t : TS} {D : Ends} {H : Hp} {v0 v1 v2 : V} (h : t D [some v0, some v1, some v2] H) : t D (L2.start ["state", "fixed", "load"] [v0, v1, v2]) H := h
theorem sc__law_lost : FnScope ["state", "fixed", "load"] ["state", "fixed", "load"] (defScope s__law_lost) := ⟨rfl, rfl, rfl, by decide +kernel, rfl, by decide +kernel, by decide +kernel⟩
abbrev s__law_expired : Stmt := top 30
theorem st__law_expired {t : TS} {D : Ends} {H : Hp} {v0 v1 v2 : V} (h : t D [some v0, some v1, some v2] H) : t D (L2.start ["state", "fixed", "load"] [v0, v1, v2]) H := h
theorem sc__law_expired : FnScope ["state", "fixed", "load"] ["state", "fixed", "load"] (defScope s__law_expired) := ⟨rfl, rfl, rfl, by decide +kernel, rfl, by decide +kernel, by decide +kernel⟩
abbrev s__law_deed : Stmt := top 31
theorem st__law_deed {t : TS} {D : Ends} {H : Hp} {v0 v1 v2 v3 v4 : V} (h : t D [some v0, some v1, some v2, some v3, some v4, none, none, none] H) : t D (L2.start ["control", "state", "fixed", "box", "clock", "choice", "count", "load"] [v0, v1, v2, v3, v4]) H := h
theorem sc__law_deed : FnScope ["control", "state", "fixed", "box", "clock", "choice", "count", "load"] ["control", "state", "fixed", "box", "clock"] (defScope s__law_deed) := ⟨rfl, rfl, rfl, by decide +kernel, rfl, by decide +kernel, by decide +kernel⟩
abbrev s__law_all_hold : Stmt := top 32
theorem st__law_all_hold {t : TS} {D : Ends} {H : Hp} {v0 v1 : V} (h : t D [some v0, some v1, none] H) : t D (L2.start ["controls", "states", "k"] [v0, v1]) H := h
theorem sc__law_all_hold : FnScope ["controls", "states", "k"] ["controls", "states"] (defScope s__law_all_hold) := ⟨rfl, rfl, rfl, by decide +kernel, rfl, by decide +kernel, by decide +kernel⟩
abbrev s_law : Stmt := top 33
theorem st_law {t : TS} {D : Ends} {H : Hp} {v0 : V} (h : t D [some v0, none, none, none, none, none, none, none, none] H) : t D (L2.start ["script", "box", "units", "pieces", "controls", "states", "clock", "k", "who"] [v0]) H := h
theorem sc_law : FnScope ["script", "box", "units", "pieces", "controls", "states", "clock", "k", "who"] ["script"] (defScope s_law) := ⟨rfl, rfl, rfl, by decide +kernel, rfl, by decide +kernel, by decide +kernel⟩

set_option maxHeartbeats 0 in
structure Txt (K : PySem.W.Frag) (mg : Str → Option Value) where
  c_Control : Addr
  g_Control : mg "Control" = some (.ref c_Control)
  cl_Control : Cls K c_Control
  n_Control_unit : NoAttr K c_Control "unit"
  n_Control_window : NoAttr K c_Control "window"
  n_Control_threshold : NoAttr K c_Control "threshold"
  n_Control_credit : NoAttr K c_Control "credit"
  n_Control_stalled : NoAttr K c_Control "stalled"
  mc_Control : Value
  R_Control : ClX.CRead K c_Control mc_Control
  V_Control_GREATEST : ∃ u, ClX.CVal K c_Control mc_Control "GREATEST" (.int 4194304) u
  c_Fixed : Addr
  g_Fixed : mg "Fixed" = some (.ref c_Fixed)
  cl_Fixed : Cls K c_Fixed
  n_Fixed_unit : NoAttr K c_Fixed "unit"
  n_Fixed_window : NoAttr K c_Fixed "window"
  n_Fixed_threshold : NoAttr K c_Fixed "threshold"
  n_Fixed_credit : NoAttr K c_Fixed "credit"
  n_Fixed_stalled : NoAttr K c_Fixed "stalled"
  c_LossError : Addr
  c_InvalidNumber : Addr
  c_InvalidSetting : Addr
  a_InvalidNumber_init_ : Addr
  fd_InvalidNumber_init_ : FuncData
  F_InvalidNumber_init_ : Fun K "__init__" "InvalidNumber.__init__" s_InvalidNumber_init_ a_InvalidNumber_init_ fd_InvalidNumber_init_
  B_InvalidNumber_init_ : Binds K fd_InvalidNumber_init_ ["self", "number"] []
  a_InvalidSetting_init_ : Addr
  fd_InvalidSetting_init_ : FuncData
  F_InvalidSetting_init_ : Fun K "__init__" "InvalidSetting.__init__" s_InvalidSetting_init_ a_InvalidSetting_init_ fd_InvalidSetting_init_
  B_InvalidSetting_init_ : Binds K fd_InvalidSetting_init_ ["self", "setting"] []
  a_is_integer : Addr
  fd_is_integer : FuncData
  F_is_integer : Fun K "is_integer" "is_integer" s_is_integer a_is_integer fd_is_integer
  B_is_integer : Binds K fd_is_integer ["value"] []
  g_is_integer : mg "is_integer" = some (.ref a_is_integer)
  a_is_between : Addr
  fd_is_between : FuncData
  F_is_between : Fun K "is_between" "is_between" s_is_between a_is_between fd_is_between
  B_is_between : Binds K fd_is_between ["value", "low", "high"] []
  g_is_between : mg "is_between" = some (.ref a_is_between)
  a_require_new_bytes : Addr
  fd_require_new_bytes : FuncData
  F_require_new_bytes : Fun K "require_new_bytes" "require_new_bytes" s_require_new_bytes a_require_new_bytes fd_require_new_bytes
  B_require_new_bytes : Binds K fd_require_new_bytes ["count"] []
  g_require_new_bytes : mg "require_new_bytes" = some (.ref a_require_new_bytes)
  a_Control_init_ : Addr
  fd_Control_init_ : FuncData
  F_Control_init_ : Fun K "__init__" "Control.__init__" s_Control_init_ a_Control_init_ fd_Control_init_
  B_Control_init_ : Binds K fd_Control_init_ ["self", "unit"] []
  M_Control : Mk K c_Control a_Control_init_
  a_Control_starting : Addr
  fd_Control_starting : FuncData
  F_Control_starting : Fun K "starting" "Control.starting" s_Control_starting a_Control_starting fd_Control_starting
  B_Control_starting : Binds K fd_Control_starting ["self"] []
  p_Control_starting : Addr
  PR_Control_starting : PropOf K c_Control "starting" p_Control_starting a_Control_starting
  a_Control_on_ack : Addr
  fd_Control_on_ack : FuncData
  F_Control_on_ack : Fun K "on_ack" "Control.on_ack" s_Control_on_ack a_Control_on_ack fd_Control_on_ack
  B_Control_on_ack : Binds K fd_Control_on_ack ["self", "count", "flight", "now"] []
  m_Control_on_ack : Meth K c_Control "on_ack" a_Control_on_ack
  a_Control_grow : Addr
  fd_Control_grow : FuncData
  F_Control_grow : Fun K "grow" "Control.grow" s_Control_grow a_Control_grow fd_Control_grow
  B_Control_grow : Binds K fd_Control_grow ["self", "count", "now"] []
  m_Control_grow : Meth K c_Control "grow" a_Control_grow
  a_Control_on_loss : Addr
  fd_Control_on_loss : FuncData
  F_Control_on_loss : Fun K "on_loss" "Control.on_loss" s_Control_on_loss a_Control_on_loss fd_Control_on_loss
  B_Control_on_loss : Binds K fd_Control_on_loss ["self", "flight", "now"] []
  m_Control_on_loss : Meth K c_Control "on_loss" a_Control_on_loss
  a_Control_on_expiry : Addr
  fd_Control_on_expiry : FuncData
  F_Control_on_expiry : Fun K "on_expiry" "Control.on_expiry" s_Control_on_expiry a_Control_on_expiry fd_Control_on_expiry
  B_Control_on_expiry : Binds K fd_Control_on_expiry ["self", "flight", "now"] []
  m_Control_on_expiry : Meth K c_Control "on_expiry" a_Control_on_expiry
  a_Control_on_sample : Addr
  fd_Control_on_sample : FuncData
  F_Control_on_sample : Fun K "on_sample" "Control.on_sample" s_Control_on_sample a_Control_on_sample fd_Control_on_sample
  B_Control_on_sample : Binds K fd_Control_on_sample ["self", "ticks"] []
  m_Control_on_sample : Meth K c_Control "on_sample" a_Control_on_sample
  a_Control_set_window : Addr
  fd_Control_set_window : FuncData
  F_Control_set_window : Fun K "_set_window" "Control._set_window" s_Control_set_window a_Control_set_window fd_Control_set_window
  B_Control_set_window : Binds K fd_Control_set_window ["self", "window"] []
  m_Control_set_window : Meth K c_Control "_set_window" a_Control_set_window
  a_Fixed_init_ : Addr
  fd_Fixed_init_ : FuncData
  cda_Fixed_init_ : Addr
  cc_Fixed_init_ : Addr
  F_Fixed_init_ : FunC K "__init__" "Fixed.__init__" s_Fixed_init_ a_Fixed_init_ cda_Fixed_init_ cc_Fixed_init_ fd_Fixed_init_
  SK_Fixed_init_ : SupK K a_Fixed_init_ cda_Fixed_init_ cc_Fixed_init_ c_Fixed "self"
  ds_Fixed_init_ : List Value
  VD_Fixed_init_ : L2.Vals [(.int 8)] ds_Fixed_init_
  BD_Fixed_init_ : Binds K fd_Fixed_init_ ["self", "unit", "pieces"] ds_Fixed_init_
  B_Fixed_init_ : Binds K fd_Fixed_init_ ["self", "unit", "pieces"] []
  M_Fixed : Mk K c_Fixed a_Fixed_init_
  a_Fixed_on_ack : Addr
  fd_Fixed_on_ack : FuncData
  F_Fixed_on_ack : Fun K "on_ack" "Fixed.on_ack" s_Fixed_on_ack a_Fixed_on_ack fd_Fixed_on_ack
  B_Fixed_on_ack : Binds K fd_Fixed_on_ack ["self", "count", "flight", "now"] []
  m_Fixed_on_ack : Meth K c_Fixed "on_ack" a_Fixed_on_ack
  a_Fixed_grow : Addr
  fd_Fixed_grow : FuncData
  F_Fixed_grow : Fun K "grow" "Fixed.grow" s_Fixed_grow a_Fixed_grow fd_Fixed_grow
  B_Fixed_grow : Binds K fd_Fixed_grow ["self", "count", "now"] []
  m_Fixed_grow : Meth K c_Fixed "grow" a_Fixed_grow
  a_Fixed_on_loss : Addr
  fd_Fixed_on_loss : FuncData
  F_Fixed_on_loss : Fun K "on_loss" "Fixed.on_loss" s_Fixed_on_loss a_Fixed_on_loss fd_Fixed_on_loss
  B_Fixed_on_loss : Binds K fd_Fixed_on_loss ["self", "flight", "now"] []
  m_Fixed_on_loss : Meth K c_Fixed "on_loss" a_Fixed_on_loss
  a_Fixed_on_expiry : Addr
  fd_Fixed_on_expiry : FuncData
  F_Fixed_on_expiry : Fun K "on_expiry" "Fixed.on_expiry" s_Fixed_on_expiry a_Fixed_on_expiry fd_Fixed_on_expiry
  B_Fixed_on_expiry : Binds K fd_Fixed_on_expiry ["self", "flight", "now"] []
  m_Fixed_on_expiry : Meth K c_Fixed "on_expiry" a_Fixed_on_expiry
  a_Fixed_on_sample : Addr
  fd_Fixed_on_sample : FuncData
  F_Fixed_on_sample : Fun K "on_sample" "Fixed.on_sample" s_Fixed_on_sample a_Fixed_on_sample fd_Fixed_on_sample
  B_Fixed_on_sample : Binds K fd_Fixed_on_sample ["self", "ticks"] []
  m_Fixed_on_sample : Meth K c_Fixed "on_sample" a_Fixed_on_sample
  a__law_cell : Addr
  fd__law_cell : FuncData
  F__law_cell : Fun K "_law_cell" "_law_cell" s__law_cell a__law_cell fd__law_cell
  B__law_cell : Binds K fd__law_cell ["script", "k"] []
  g__law_cell : mg "_law_cell" = some (.ref a__law_cell)
  a__law_rounds : Addr
  fd__law_rounds : FuncData
  F__law_rounds : Fun K "_law_rounds" "_law_rounds" s__law_rounds a__law_rounds fd__law_rounds
  B__law_rounds : Binds K fd__law_rounds ["script"] []
  g__law_rounds : mg "_law_rounds" = some (.ref a__law_rounds)
  a__law_box : Addr
  fd__law_box : FuncData
  F__law_box : Fun K "_law_box" "_law_box" s__law_box a__law_box fd__law_box
  B__law_box : Binds K fd__law_box ["cell"] []
  g__law_box : mg "_law_box" = some (.ref a__law_box)
  a__law_draw : Addr
  fd__law_draw : FuncData
  F__law_draw : Fun K "_law_draw" "_law_draw" s__law_draw a__law_draw fd__law_draw
  B__law_draw : Binds K fd__law_draw ["box", "size"] []
  g__law_draw : mg "_law_draw" = some (.ref a__law_draw)
  a__law_unit : Addr
  fd__law_unit : FuncData
  F__law_unit : Fun K "_law_unit" "_law_unit" s__law_unit a__law_unit fd__law_unit
  B__law_unit : Binds K fd__law_unit ["box"] []
  g__law_unit : mg "_law_unit" = some (.ref a__law_unit)
  a__law_count : Addr
  fd__law_count : FuncData
  F__law_count : Fun K "_law_count" "_law_count" s__law_count a__law_count fd__law_count
  B__law_count : Binds K fd__law_count ["box", "unit", "brink"] []
  g__law_count : mg "_law_count" = some (.ref a__law_count)
  a__law_load : Addr
  fd__law_load : FuncData
  F__law_load : Fun K "_law_load" "_law_load" s__law_load a__law_load fd__law_load
  B__law_load : Binds K fd__law_load ["box", "unit", "window", "count"] []
  g__law_load : mg "_law_load" = some (.ref a__law_load)
  a__law_later : Addr
  fd__law_later : FuncData
  F__law_later : Fun K "_law_later" "_law_later" s__law_later a__law_later fd__law_later
  B__law_later : Binds K fd__law_later ["box", "now", "meet"] []
  g__law_later : mg "_law_later" = some (.ref a__law_later)
  a__law_bad : Addr
  fd__law_bad : FuncData
  F__law_bad : Fun K "_law_bad" "_law_bad" s__law_bad a__law_bad fd__law_bad
  B__law_bad : Binds K fd__law_bad ["box"] []
  g__law_bad : mg "_law_bad" = some (.ref a__law_bad)
  a__law_refused : Addr
  fd__law_refused : FuncData
  F__law_refused : Fun K "_law_refused" "_law_refused" s__law_refused a__law_refused fd__law_refused
  B__law_refused : Binds K fd__law_refused ["control", "bad", "load", "now"] []
  g__law_refused : mg "_law_refused" = some (.ref a__law_refused)
  a__law_whole : Addr
  fd__law_whole : FuncData
  F__law_whole : Fun K "_law_whole" "_law_whole" s__law_whole a__law_whole fd__law_whole
  B__law_whole : Binds K fd__law_whole ["value", "wanted"] []
  g__law_whole : mg "_law_whole" = some (.ref a__law_whole)
  a__law_truth : Addr
  fd__law_truth : FuncData
  F__law_truth : Fun K "_law_truth" "_law_truth" s__law_truth a__law_truth fd__law_truth
  B__law_truth : Binds K fd__law_truth ["value", "wanted"] []
  g__law_truth : mg "_law_truth" = some (.ref a__law_truth)
  a__law_base : Addr
  fd__law_base : FuncData
  F__law_base : Fun K "_law_base" "_law_base" s__law_base a__law_base fd__law_base
  B__law_base : Binds K fd__law_base ["control", "state"] []
  g__law_base : mg "_law_base" = some (.ref a__law_base)
  a__law_state : Addr
  fd__law_state : FuncData
  F__law_state : Fun K "_law_state" "_law_state" s__law_state a__law_state fd__law_state
  B__law_state : Binds K fd__law_state ["unit", "times"] []
  g__law_state : mg "_law_state" = some (.ref a__law_state)
  a__law_acked : Addr
  fd__law_acked : FuncData
  F__law_acked : Fun K "_law_acked" "_law_acked" s__law_acked a__law_acked fd__law_acked
  B__law_acked : Binds K fd__law_acked ["state", "fixed", "count", "load"] []
  g__law_acked : mg "_law_acked" = some (.ref a__law_acked)
  a__law_many : Addr
  fd__law_many : FuncData
  F__law_many : Fun K "_law_many" "_law_many" s__law_many a__law_many fd__law_many
  B__law_many : Binds K fd__law_many ["control", "state", "fixed", "box", "clock"] []
  g__law_many : mg "_law_many" = some (.ref a__law_many)
  a__law_lost : Addr
  fd__law_lost : FuncData
  F__law_lost : Fun K "_law_lost" "_law_lost" s__law_lost a__law_lost fd__law_lost
  B__law_lost : Binds K fd__law_lost ["state", "fixed", "load"] []
  g__law_lost : mg "_law_lost" = some (.ref a__law_lost)
  a__law_expired : Addr
  fd__law_expired : FuncData
  F__law_expired : Fun K "_law_expired" "_law_expired" s__law_expired a__law_expired fd__law_expired
  B__law_expired : Binds K fd__law_expired ["state", "fixed", "load"] []
  g__law_expired : mg "_law_expired" = some (.ref a__law_expired)
  a__law_deed : Addr
  fd__law_deed : FuncData
  F__law_deed : Fun K "_law_deed" "_law_deed" s__law_deed a__law_deed fd__law_deed
  B__law_deed : Binds K fd__law_deed ["control", "state", "fixed", "box", "clock"] []
  g__law_deed : mg "_law_deed" = some (.ref a__law_deed)
  a__law_all_hold : Addr
  fd__law_all_hold : FuncData
  F__law_all_hold : Fun K "_law_all_hold" "_law_all_hold" s__law_all_hold a__law_all_hold fd__law_all_hold
  B__law_all_hold : Binds K fd__law_all_hold ["controls", "states"] []
  g__law_all_hold : mg "_law_all_hold" = some (.ref a__law_all_hold)
  a_law : Addr
  fd_law : FuncData
  F_law : Fun K "law" "law" s_law a_law fd_law
  B_law : Binds K fd_law ["script"] []
  g_law : mg "law" = some (.ref a_law)
  PR_Fixed_starting : PropOf K c_Fixed "starting" p_Control_starting a_Control_starting
  SC_Fixed_Fixed_init_ : SupC K c_Fixed c_Fixed "__init__" a_Control_init_
  X_LossError : GCls mg "LossError" c_LossError
  X_InvalidNumber : XCls K mg "InvalidNumber" c_InvalidNumber a_InvalidNumber_init_
  nX_InvalidNumber : PySem.W.findIn K (.ref c_InvalidNumber) "number" = some none
  X_InvalidSetting : XCls K mg "InvalidSetting" c_InvalidSetting a_InvalidSetting_init_
  nX_InvalidSetting : PySem.W.findIn K (.ref c_InvalidSetting) "setting" = some none
  Me_InvalidNumber_InvalidNumber : PySem.W.exmOne K (.ref c_InvalidNumber) (.ref c_InvalidNumber) = some true
  b_bool : mg "bool" = none
  b_int : mg "int" = none
  b_isinstance : mg "isinstance" = none
  b_len : mg "len" = none
  b_max : mg "max" = none
  b_min : mg "min" = none
  b_property : mg "property" = none
  b_range : mg "range" = none
  b_sum : mg "sum" = none
  b_super : mg "super" = none
  u_MOST_PIECES : Value
  g_MOST_PIECES : mg "MOST_PIECES" = some u_MOST_PIECES
  r_MOST_PIECES : RelV (.int 64) u_MOST_PIECES

section
variable {P : Program} {w : World} {K : PySem.W.Frag} {mg : Str → Option Value} {base : Heap}
variable [SP0 : SupP P]
/-! ### kinds of values -/
/-- whether x is an int and no bool, by its kind -/
def IntK (K : PySem.W.Frag) (H : Hp) (x : V) (r : Bool) : Prop := ∃ (t : Value) (i b : Bool), TyX K H x t ∧ PySem.W.kitOne K t (.type "int") = some i ∧ PySem.W.kitOne K t (.type "bool") = some b ∧ r = (i && !b)
theorem intK_int {K : PySem.W.Frag} {H : Hp} (n : Int) : IntK K H (.int n) true := ⟨.type "int", true, false, .base (.int n), kit_ty (by decide +kernel), kit_ty (by decide +kernel), rfl⟩
/-- isinstance(x, int) and not isinstance(x, bool) -/
def sp_is_integer (K : PySem.W.Frag) : Sp := fun vs H Q _ => ∃ (x : V) (r : Bool), vs = [x] ∧ IntK K H x r ∧ Q (.bl r) H
def sp_is_between (K : PySem.W.Frag) : Sp := fun vs H Q _ => ∃ (x : V) (lo hi : Int), vs = [x, .int lo, .int hi] ∧ ((∃ n, x = .int n ∧ Q (.bl (decide (lo ≤ n) && decide (n ≤ hi))) H) ∨ (IntK K H x false ∧ Q (.bl false) H))
theorem ok_is_integer (T : Txt K mg) : FnOk P w K mg base CX0 1 T.a_is_integer T.fd_is_integer ["value"] (sp_is_integer K) := by
  have S := sc_is_integer
  refine T.F_is_integer.ok S (fun vs H Q E h => ?_) (fun cdv A outer s H vs Q E hr h => ?_)
  · obtain ⟨x, r, rfl, _⟩ := h
    rfl
  · obtain ⟨x, r, rfl, ⟨t, i, b, ty, hi, hb, rfl⟩, k⟩ := h
    refine ⟨_, (pss_one (ps_ret (pe_and (pe_callB (id := "isinstance") call_isi (by rfl) T.b_isinstance (by decide +kernel) (pa_cons (pv 0) (pa_cons (pe_bltn (v := .ty "int") (u := .type "int") (by rfl) T.b_int (by decide +kernel) rfl) pa_nil))) (pe_one (pe_not (pe_callB (id := "isinstance") call_isi (by rfl) T.b_isinstance (by decide +kernel) (pa_cons (pv 0) (pa_cons (pe_bltn (v := .ty "bool") (u := .type "bool") (by rfl) T.b_bool (by decide +kernel) rfl) pa_nil)))))))), ?_⟩
    refine ⟨_, rfl, _, _, _, _, i, rfl, .ty _, ty, hi, i, rfl, ?_⟩
    cases i with
    | false => exact iteF k
    | true => exact iteT ⟨_, rfl, _, _, _, _, b, rfl, .ty _, ty, hb, b, rfl, k⟩
theorem ok_is_between (T : Txt K mg) : FnOk P w K mg base CX0 2 T.a_is_between T.fd_is_between ["value", "low", "high"] (sp_is_between K) := by
  have S := sc_is_between
  refine T.F_is_between.ok S (fun vs H Q E h => ?_) (fun cdv A outer s H vs Q E hr h => ?_)
  · obtain ⟨x, lo, hi, rfl, _⟩ := h
    rfl
  · obtain ⟨x, lo, hi, rfl, h⟩ := h
    refine ⟨_, (pss_one (ps_ret (pe_and (pe_call (ok_is_integer T) (hr.mono (by decide)) rfl T.g_is_integer T.F_is_integer.kp T.B_is_integer .nil pass0 (pa_cons (pv 0) pa_nil)) (pe_one (pe_chain op_le op_le (pv 1) (pv 0) (pv 2)))))), ?_⟩
    rcases h with ⟨n, rfl, k⟩ | ⟨hk, k⟩
    · refine ⟨_, rfl, _, true, rfl, intK_int n, true, rfl, iteT ?_⟩
      refine ⟨_, rfl, _, rfl, _, _, rfl, rfl, _, rfl, ?_⟩
      by_cases q : lo ≤ n
      · rw [decide_eq_true q, Bool.true_and] at k
        rw [decide_eq_true q]
        exact iteT ⟨_, rfl, _, _, rfl, rfl, k⟩
      · rw [decide_eq_false q, Bool.false_and] at k
        rw [decide_eq_false q]
        exact iteF k
    · exact ⟨_, rfl, _, false, rfl, hk, false, rfl, iteF k⟩
/-! ### sequences, items by their kinds -/
theorem tyX_same {K : PySem.W.Frag} {H H' : Hp} {x : V} {t : Value} (h : TyX K H x t) (s : Same H H') : TyX K H' x t := by
  cases h with
  | base b =>
    refine .base ?_
    cases b with
    | non => exact .non
    | bl y => exact .bl y
    | int i => exact .int i
    | str y => exact .str y
    | flt y => exact .flt y
    | lst e => exact .lst (s _ _ e)
    | frz e => exact .frz (s _ _ e)
    | tup e => exact .tup (s _ _ e)
    | dK e => exact .dK (s _ _ e)
    | dT e => exact .dT (s _ _ e)
    | ins e cl ha hn ht hm => exact .ins (s _ _ e) cl ha hn ht hm
  | byt b => exact .byt b
  | set e => exact .set (s _ _ e)
  | kList e c => exact .kList e c
  | kTuple e c => exact .kTuple e c
  | kDict e c => exact .kDict e c
  | fTuple e => exact .fTuple (s _ _ e)
  | fDict e => exact .fDict (s _ _ e)
theorem IntK.same {K : PySem.W.Frag} {H H' : Hp} {x : V} {r : Bool} (h : IntK K H x r) (s : Same H H') : IntK K H' x r := by
  obtain ⟨t, i, b, ty, h1, h2, h3⟩ := h
  exact ⟨t, i, b, tyX_same ty s, h1, h2, h3⟩
/-- x is the int n, or no int at all -/
def Kd (K : PySem.W.Frag) (H : Hp) (x : V) : Option Int → Prop
  | some n => x = .int n
  | none => IntK K H x false
theorem Kd.same {K : PySem.W.Frag} {H H' : Hp} {x : V} {o : Option Int} (h : Kd K H x o) (s : Same H H') : Kd K H' x o := by
  cases o with
  | some n => exact h
  | none => exact IntK.same h s
/-- what lies in lo .. hi -/
def inR (lo hi : Int) : Option Int → Bool
  | some n => decide (lo ≤ n) && decide (n ≤ hi)
  | none => false
/-- a list or a tuple -/
def SeqA (K : PySem.W.Frag) (H : Hp) (a : Addr) (xs : List V) : Prop := SqL K H a xs ∨ SqT K H a xs
theorem SeqA.lst {K : PySem.W.Frag} {H : Hp} {a : Addr} {xs : List V} (h : H a = some (.lst xs)) : SeqA K H a xs := .inl (SqL.of h)
theorem SeqA.tup {K : PySem.W.Frag} {H : Hp} {a : Addr} {xs : List V} (h : H a = some (.tup xs)) : SeqA K H a xs := .inr (SqT.of h)
theorem SeqA.sm {K : PySem.W.Frag} {H H' : Hp} {a : Addr} {xs : List V} (h : SeqA K H a xs) (s : Same H H') : SeqA K H' a xs := h.elim (fun h => .inl (s.seq h)) fun h => .inr (sqT_sm h s)
/-- whether x is a sequence, by its kind -/
def SeqK (K : PySem.W.Frag) (H : Hp) (x : V) (r : Bool) : Prop := ∃ t, TyX K H x t ∧ PySem.W.kitAny K t [.type "list", .type "tuple"] = some r
theorem kit2 {K : PySem.W.Frag} {t : Value} {a b : Bool} (h1 : PySem.W.kitOne K t (.type "list") = some a) (h2 : PySem.W.kitOne K t (.type "tuple") = some b) : PySem.W.kitAny K t [.type "list", .type "tuple"] = some (a || b) := by
  unfold PySem.W.kitAny
  rw [h1]
  cases a with
  | true => rfl
  | false =>
    show PySem.W.kitAny K t [.type "tuple"] = some b
    unfold PySem.W.kitAny
    rw [h2]
    cases b <;> rfl
theorem seqK_ty {K : PySem.W.Frag} {H : Hp} {x : V} {n : String} {a b : Bool} (t : TyX K H x (.type n)) (h1 : kitB n "list" = some a) (h2 : kitB n "tuple" = some b) : SeqK K H x (a || b) := ⟨_, t, kit2 (kit_ty h1) (kit_ty h2)⟩
theorem seqK_of {K : PySem.W.Frag} {H : Hp} {a : Addr} {xs : List V} (h : SeqA K H a xs) : SeqK K H (.ref a) true := by
  rcases h with h | h
  · rcases h with (h | ⟨o, h⟩) | ⟨o, its, n, hk, hc, _⟩
    · exact seqK_ty (a := true) (b := false) (.base (.lst h)) (by decide +kernel) (by decide +kernel)
    · exact seqK_ty (a := true) (b := false) (.base (.frz h)) (by decide +kernel) (by decide +kernel)
    · exact seqK_ty (a := true) (b := false) (.kList hk hc) (by decide +kernel) (by decide +kernel)
  · rcases h with (h | ⟨o, h⟩) | ⟨o, its, n, hk, hc, _⟩
    · exact seqK_ty (a := false) (b := true) (.base (.tup h)) (by decide +kernel) (by decide +kernel)
    · exact seqK_ty (a := false) (b := true) (.fTuple h) (by decide +kernel) (by decide +kernel)
    · exact seqK_ty (a := false) (b := true) (.kTuple hk hc) (by decide +kernel) (by decide +kernel)
/-! ### lists stay lists -/
def Typ (H H' : Hp) : Prop := ∀ a o, H a = some o → H' a = some o ∨ ((∃ xs, o = .lst xs) ∧ ∃ ys, H' a = some (.lst ys))
theorem Typ.refl (H : Hp) : Typ H H := fun _ _ h => .inl h
theorem Typ.of {H H' : Hp} (s : Same H H') : Typ H H' := fun _ _ h => .inl (s _ _ h)
theorem Typ.trans {H H1 H2 : Hp} (x : Typ H H1) (y : Typ H1 H2) : Typ H H2 := fun a o h => by
  rcases x a o h with h1 | ⟨hx, ys, h1⟩
  · exact y a o h1
  · rcases y a _ h1 with h2 | ⟨_, zs, h2⟩
    · exact .inr ⟨hx, ys, h2⟩
    · exact .inr ⟨hx, zs, h2⟩
theorem Typ.upd {H : Hp} {a : Addr} {xs ys : List V} (h : H a = some (.lst xs)) : Typ H (L2.upd H a (.lst ys)) := fun b o hb => by
  by_cases q : b = a
  · subst q
    rw [h] at hb
    cases hb
    exact .inr ⟨⟨_, rfl⟩, ys, upd_same⟩
  · exact .inl (by rw [upd_ne q]; exact hb)
theorem Typ.purse {H H' : Hp} {p c : Addr} (P : Purse p c H) (P' : Purse p c H') (s : SameX p H H') : Typ H H' := fun b o hb => by
  by_cases q : b = p
  · subst q
    obtain ⟨⟨xs, h⟩, _⟩ := P.there
    obtain ⟨⟨ys, h'⟩, _⟩ := P'.there
    rw [h] at hb
    cases hb
    exact .inr ⟨⟨_, rfl⟩, ys, h'⟩
  · exact .inl (s b o q hb)
theorem tyX_typ {K : PySem.W.Frag} {H H' : Hp} {x : V} {t : Value} (h : TyX K H x t) (s : Typ H H') : TyX K H' x t := by
  cases h with
  | base b =>
    refine .base ?_
    cases b with
    | non => exact .non
    | bl y => exact .bl y
    | int i => exact .int i
    | str y => exact .str y
    | flt y => exact .flt y
    | lst e => exact (s _ _ e).elim (fun h => .lst h) fun ⟨_, ys, h⟩ => .lst h
    | frz e => exact (s _ _ e).elim (fun h => .frz h) fun ⟨⟨_, z⟩, _⟩ => nomatch z
    | tup e => exact (s _ _ e).elim (fun h => .tup h) fun ⟨⟨_, z⟩, _⟩ => nomatch z
    | dK e => exact (s _ _ e).elim (fun h => .dK h) fun ⟨⟨_, z⟩, _⟩ => nomatch z
    | dT e => exact (s _ _ e).elim (fun h => .dT h) fun ⟨⟨_, z⟩, _⟩ => nomatch z
    | ins e cl ha hn ht hm => exact (s _ _ e).elim (fun h => .ins h cl ha hn ht hm) fun ⟨⟨_, z⟩, _⟩ => nomatch z
  | byt b => exact .byt b
  | set e => exact (s _ _ e).elim (fun h => .set h) fun ⟨⟨_, z⟩, _⟩ => nomatch z
  | kList e c => exact .kList e c
  | kTuple e c => exact .kTuple e c
  | kDict e c => exact .kDict e c
  | fTuple e => exact (s _ _ e).elim (fun h => .fTuple h) fun ⟨⟨_, z⟩, _⟩ => nomatch z
  | fDict e => exact (s _ _ e).elim (fun h => .fDict h) fun ⟨⟨_, z⟩, _⟩ => nomatch z
theorem Kd.typ {K : PySem.W.Frag} {H H' : Hp} {x : V} {o : Option Int} (h : Kd K H x o) (s : Typ H H') : Kd K H' x o := by
  cases o with
  | some n => exact h
  | none =>
    obtain ⟨t, i, b, ty, h1, h2, h3⟩ := (show IntK K H x false from h)
    exact ⟨t, i, b, tyX_typ ty s, h1, h2, h3⟩
theorem intK_no {K : PySem.W.Frag} {H : Hp} {x : V} {n : String} {i b : Bool} (t : TyX K H x (.type n)) (h1 : kitB n "int" = some i) (h2 : kitB n "bool" = some b) (h : (i && !b) = false) : IntK K H x false := ⟨_, i, b, t, kit_ty h1, kit_ty h2, h.symm⟩
theorem ixN_nat {n j : Nat} {z : Int} (e : z = (j : Int)) (h : j < n) : ixN n z = some j := by
  subst e
  unfold ixN
  rw [if_pos (by omega), if_pos (by omega)]
  rfl
/-! ### equality of words -/
theorem dec_int (a b : Int) : decide (V.int a = V.int b) = decide (a = b) := by
  by_cases e : a = b
  · rw [decide_eq_true e, decide_eq_true (congrArg V.int e)]
  · rw [decide_eq_false e, decide_eq_false (fun q => e (V.int.inj q))]
theorem dec_bl (a b : Bool) : decide (V.bl a = V.bl b) = (a == b) := by
  cases a <;> cases b <;> rfl
/-! ### steps: readings by their form -/
section
variable {K : PySem.W.Frag} {σ : L2.St} {H : Hp} {Q : VK} {QL : List V → Hp → Prop} {QB : Bool → Hp → Prop} {QO : Option Int → Hp → Prop} {QS : L2.St → Hp → Prop} {v w : V} {a0 a1 a2 a3 a4 a5 a6 a7 a8 a9 a10 a11 a12 a13 a14 a15 a16 a17 a18 a19 : Option V} {te tb tc : TE} {ta : TA} {t u : TT} {ts us : TS} {D : Ends} {g : TG}
def rTupOf (K : PySem.W.Frag) : List V → Hp → VK → Prop := fun xs H Q => ∃ p ys, xs = [.ref p] ∧ ((SqL K H p ys ∧ ∀ l, H l = none → Q (.ref l) (L2.upd H l (.tup ys))) ∨ SqT K H p ys ∧ Q (.ref p) H)
theorem call_tupK {X : Cx} {K : PySem.W.Frag} (e : X.K = K) : CallR X (.type "tuple") (rTupOf K) := e ▸ call_tuple_of
def rLstOf (K : PySem.W.Frag) : List V → Hp → VK → Prop := fun xs H Q => ∃ p ys, xs = [.ref p] ∧ (SqL K H p ys ∨ SqT K H p ys) ∧ ∀ l, H l = none → Q (.ref l) (L2.upd H l (.lst ys))
theorem call_listK {X : Cx} {K : PySem.W.Frag} (e : X.K = K) : CallR X (.type "list") (rLstOf K) := e ▸ call_list_of
def rLenOf (K : PySem.W.Frag) : List V → Hp → VK → Prop := fun xs H Q => ∃ p ys, xs = [.ref p] ∧ (SqL K H p ys ∨ SqT K H p ys) ∧ Q (.int (ys.length : Int)) H
theorem call_lenK {X : Cx} {K : PySem.W.Frag} (e : X.K = K) : CallR X (.builtin "len") (rLenOf K) := e ▸ call_len_seq
theorem all_cons {α : Type} {p : α → Prop} {a : α} {l : List α} (h : p a) (r : ∀ q ∈ l, p q) : ∀ q ∈ a :: l, p q := fun q hq => by
  rcases List.mem_cons.mp hq with e | e
  · rw [e]; exact h
  · exact r q e
theorem x_v0 (q : Q v H) : tVar 0 (some v :: σ) H Q := ⟨_, rfl, q⟩
theorem x_g0 (q : QS (some v :: σ) H) : gName 0 v (a0 :: σ) H QS := q
theorem x_v1 (q : Q v H) : tVar 1 (a0 :: some v :: σ) H Q := ⟨_, rfl, q⟩
theorem x_g1 (q : QS (a0 :: some v :: σ) H) : gName 1 v (a0 :: a1 :: σ) H QS := q
theorem x_v2 (q : Q v H) : tVar 2 (a0 :: a1 :: some v :: σ) H Q := ⟨_, rfl, q⟩
theorem x_g2 (q : QS (a0 :: a1 :: some v :: σ) H) : gName 2 v (a0 :: a1 :: a2 :: σ) H QS := q
theorem x_v3 (q : Q v H) : tVar 3 (a0 :: a1 :: a2 :: some v :: σ) H Q := ⟨_, rfl, q⟩
theorem x_g3 (q : QS (a0 :: a1 :: a2 :: some v :: σ) H) : gName 3 v (a0 :: a1 :: a2 :: a3 :: σ) H QS := q
theorem x_v4 (q : Q v H) : tVar 4 (a0 :: a1 :: a2 :: a3 :: some v :: σ) H Q := ⟨_, rfl, q⟩
theorem x_g4 (q : QS (a0 :: a1 :: a2 :: a3 :: some v :: σ) H) : gName 4 v (a0 :: a1 :: a2 :: a3 :: a4 :: σ) H QS := q
theorem x_v5 (q : Q v H) : tVar 5 (a0 :: a1 :: a2 :: a3 :: a4 :: some v :: σ) H Q := ⟨_, rfl, q⟩
theorem x_g5 (q : QS (a0 :: a1 :: a2 :: a3 :: a4 :: some v :: σ) H) : gName 5 v (a0 :: a1 :: a2 :: a3 :: a4 :: a5 :: σ) H QS := q
theorem x_v6 (q : Q v H) : tVar 6 (a0 :: a1 :: a2 :: a3 :: a4 :: a5 :: some v :: σ) H Q := ⟨_, rfl, q⟩
theorem x_g6 (q : QS (a0 :: a1 :: a2 :: a3 :: a4 :: a5 :: some v :: σ) H) : gName 6 v (a0 :: a1 :: a2 :: a3 :: a4 :: a5 :: a6 :: σ) H QS := q
theorem x_v7 (q : Q v H) : tVar 7 (a0 :: a1 :: a2 :: a3 :: a4 :: a5 :: a6 :: some v :: σ) H Q := ⟨_, rfl, q⟩
theorem x_g7 (q : QS (a0 :: a1 :: a2 :: a3 :: a4 :: a5 :: a6 :: some v :: σ) H) : gName 7 v (a0 :: a1 :: a2 :: a3 :: a4 :: a5 :: a6 :: a7 :: σ) H QS := q
theorem x_v8 (q : Q v H) : tVar 8 (a0 :: a1 :: a2 :: a3 :: a4 :: a5 :: a6 :: a7 :: some v :: σ) H Q := ⟨_, rfl, q⟩
theorem x_g8 (q : QS (a0 :: a1 :: a2 :: a3 :: a4 :: a5 :: a6 :: a7 :: some v :: σ) H) : gName 8 v (a0 :: a1 :: a2 :: a3 :: a4 :: a5 :: a6 :: a7 :: a8 :: σ) H QS := q
theorem x_v9 (q : Q v H) : tVar 9 (a0 :: a1 :: a2 :: a3 :: a4 :: a5 :: a6 :: a7 :: a8 :: some v :: σ) H Q := ⟨_, rfl, q⟩
theorem x_g9 (q : QS (a0 :: a1 :: a2 :: a3 :: a4 :: a5 :: a6 :: a7 :: a8 :: some v :: σ) H) : gName 9 v (a0 :: a1 :: a2 :: a3 :: a4 :: a5 :: a6 :: a7 :: a8 :: a9 :: σ) H QS := q
theorem x_v10 (q : Q v H) : tVar 10 (a0 :: a1 :: a2 :: a3 :: a4 :: a5 :: a6 :: a7 :: a8 :: a9 :: some v :: σ) H Q := ⟨_, rfl, q⟩
theorem x_g10 (q : QS (a0 :: a1 :: a2 :: a3 :: a4 :: a5 :: a6 :: a7 :: a8 :: a9 :: some v :: σ) H) : gName 10 v (a0 :: a1 :: a2 :: a3 :: a4 :: a5 :: a6 :: a7 :: a8 :: a9 :: a10 :: σ) H QS := q
theorem x_v11 (q : Q v H) : tVar 11 (a0 :: a1 :: a2 :: a3 :: a4 :: a5 :: a6 :: a7 :: a8 :: a9 :: a10 :: some v :: σ) H Q := ⟨_, rfl, q⟩
theorem x_g11 (q : QS (a0 :: a1 :: a2 :: a3 :: a4 :: a5 :: a6 :: a7 :: a8 :: a9 :: a10 :: some v :: σ) H) : gName 11 v (a0 :: a1 :: a2 :: a3 :: a4 :: a5 :: a6 :: a7 :: a8 :: a9 :: a10 :: a11 :: σ) H QS := q
theorem x_v12 (q : Q v H) : tVar 12 (a0 :: a1 :: a2 :: a3 :: a4 :: a5 :: a6 :: a7 :: a8 :: a9 :: a10 :: a11 :: some v :: σ) H Q := ⟨_, rfl, q⟩
theorem x_g12 (q : QS (a0 :: a1 :: a2 :: a3 :: a4 :: a5 :: a6 :: a7 :: a8 :: a9 :: a10 :: a11 :: some v :: σ) H) : gName 12 v (a0 :: a1 :: a2 :: a3 :: a4 :: a5 :: a6 :: a7 :: a8 :: a9 :: a10 :: a11 :: a12 :: σ) H QS := q
theorem x_v13 (q : Q v H) : tVar 13 (a0 :: a1 :: a2 :: a3 :: a4 :: a5 :: a6 :: a7 :: a8 :: a9 :: a10 :: a11 :: a12 :: some v :: σ) H Q := ⟨_, rfl, q⟩
theorem x_g13 (q : QS (a0 :: a1 :: a2 :: a3 :: a4 :: a5 :: a6 :: a7 :: a8 :: a9 :: a10 :: a11 :: a12 :: some v :: σ) H) : gName 13 v (a0 :: a1 :: a2 :: a3 :: a4 :: a5 :: a6 :: a7 :: a8 :: a9 :: a10 :: a11 :: a12 :: a13 :: σ) H QS := q
theorem x_v14 (q : Q v H) : tVar 14 (a0 :: a1 :: a2 :: a3 :: a4 :: a5 :: a6 :: a7 :: a8 :: a9 :: a10 :: a11 :: a12 :: a13 :: some v :: σ) H Q := ⟨_, rfl, q⟩
theorem x_g14 (q : QS (a0 :: a1 :: a2 :: a3 :: a4 :: a5 :: a6 :: a7 :: a8 :: a9 :: a10 :: a11 :: a12 :: a13 :: some v :: σ) H) : gName 14 v (a0 :: a1 :: a2 :: a3 :: a4 :: a5 :: a6 :: a7 :: a8 :: a9 :: a10 :: a11 :: a12 :: a13 :: a14 :: σ) H QS := q
theorem x_v15 (q : Q v H) : tVar 15 (a0 :: a1 :: a2 :: a3 :: a4 :: a5 :: a6 :: a7 :: a8 :: a9 :: a10 :: a11 :: a12 :: a13 :: a14 :: some v :: σ) H Q := ⟨_, rfl, q⟩
theorem x_g15 (q : QS (a0 :: a1 :: a2 :: a3 :: a4 :: a5 :: a6 :: a7 :: a8 :: a9 :: a10 :: a11 :: a12 :: a13 :: a14 :: some v :: σ) H) : gName 15 v (a0 :: a1 :: a2 :: a3 :: a4 :: a5 :: a6 :: a7 :: a8 :: a9 :: a10 :: a11 :: a12 :: a13 :: a14 :: a15 :: σ) H QS := q
theorem x_v16 (q : Q v H) : tVar 16 (a0 :: a1 :: a2 :: a3 :: a4 :: a5 :: a6 :: a7 :: a8 :: a9 :: a10 :: a11 :: a12 :: a13 :: a14 :: a15 :: some v :: σ) H Q := ⟨_, rfl, q⟩
theorem x_g16 (q : QS (a0 :: a1 :: a2 :: a3 :: a4 :: a5 :: a6 :: a7 :: a8 :: a9 :: a10 :: a11 :: a12 :: a13 :: a14 :: a15 :: some v :: σ) H) : gName 16 v (a0 :: a1 :: a2 :: a3 :: a4 :: a5 :: a6 :: a7 :: a8 :: a9 :: a10 :: a11 :: a12 :: a13 :: a14 :: a15 :: a16 :: σ) H QS := q
theorem x_v17 (q : Q v H) : tVar 17 (a0 :: a1 :: a2 :: a3 :: a4 :: a5 :: a6 :: a7 :: a8 :: a9 :: a10 :: a11 :: a12 :: a13 :: a14 :: a15 :: a16 :: some v :: σ) H Q := ⟨_, rfl, q⟩
theorem x_g17 (q : QS (a0 :: a1 :: a2 :: a3 :: a4 :: a5 :: a6 :: a7 :: a8 :: a9 :: a10 :: a11 :: a12 :: a13 :: a14 :: a15 :: a16 :: some v :: σ) H) : gName 17 v (a0 :: a1 :: a2 :: a3 :: a4 :: a5 :: a6 :: a7 :: a8 :: a9 :: a10 :: a11 :: a12 :: a13 :: a14 :: a15 :: a16 :: a17 :: σ) H QS := q
theorem x_v18 (q : Q v H) : tVar 18 (a0 :: a1 :: a2 :: a3 :: a4 :: a5 :: a6 :: a7 :: a8 :: a9 :: a10 :: a11 :: a12 :: a13 :: a14 :: a15 :: a16 :: a17 :: some v :: σ) H Q := ⟨_, rfl, q⟩
theorem x_g18 (q : QS (a0 :: a1 :: a2 :: a3 :: a4 :: a5 :: a6 :: a7 :: a8 :: a9 :: a10 :: a11 :: a12 :: a13 :: a14 :: a15 :: a16 :: a17 :: some v :: σ) H) : gName 18 v (a0 :: a1 :: a2 :: a3 :: a4 :: a5 :: a6 :: a7 :: a8 :: a9 :: a10 :: a11 :: a12 :: a13 :: a14 :: a15 :: a16 :: a17 :: a18 :: σ) H QS := q
theorem x_v19 (q : Q v H) : tVar 19 (a0 :: a1 :: a2 :: a3 :: a4 :: a5 :: a6 :: a7 :: a8 :: a9 :: a10 :: a11 :: a12 :: a13 :: a14 :: a15 :: a16 :: a17 :: a18 :: some v :: σ) H Q := ⟨_, rfl, q⟩
theorem x_g19 (q : QS (a0 :: a1 :: a2 :: a3 :: a4 :: a5 :: a6 :: a7 :: a8 :: a9 :: a10 :: a11 :: a12 :: a13 :: a14 :: a15 :: a16 :: a17 :: a18 :: some v :: σ) H) : gName 19 v (a0 :: a1 :: a2 :: a3 :: a4 :: a5 :: a6 :: a7 :: a8 :: a9 :: a10 :: a11 :: a12 :: a13 :: a14 :: a15 :: a16 :: a17 :: a18 :: a19 :: σ) H QS := q
theorem x_c (q : Q v H) : tC v σ H Q := q
theorem x_op {r : R2} (q : te σ H fun x H1 => tb σ H1 fun y H2 => r x y H2 Q) : tOp r te tb σ H Q := q
theorem x_un {r : V → Hp → VK → Prop} (q : te σ H fun x H1 => r x H1 Q) : tUn r te σ H Q := q
theorem x_test (q : te σ H fun x H1 => ∃ k, x = .bl k ∧ QB k H1) : tTest te σ H QB := q
theorem x_tB (q : te σ H fun x H1 => ∃ k, x = .bl k ∧ QB k H1) : tB te σ H QB := q
theorem x_and (q : t σ H fun c H1 => if c = true then u σ H1 QB else QB false H1) : tAnd t u σ H QB := q
theorem x_or (q : t σ H fun c H1 => if c = true then QB true H1 else u σ H1 QB) : tOr t u σ H QB := q
theorem x_not (q : t σ H fun c H1 => QB (!c) H1) : tNot t σ H QB := q
theorem x_andV (q : te σ H fun x H1 => ∃ c, x = .bl c ∧ if c = true then tb σ H1 Q else Q (.bl false) H1) : tAndV te tb σ H Q := q
theorem x_orV (q : te σ H fun x H1 => ∃ c, x = .bl c ∧ if c = true then Q (.bl true) H1 else tb σ H1 Q) : tOrV te tb σ H Q := q
theorem x_notV (q : te σ H fun x H1 => ∃ c, x = .bl c ∧ Q (.bl (!c)) H1) : tNotV te σ H Q := q
theorem x_if (q : t σ H fun c H1 => if c = true then te σ H1 Q else tb σ H1 Q) : tIf t te tb σ H Q := q
theorem x_ifS (q : t σ H fun b H1 => if b = true then ts D σ H1 else us D σ H1) : tIfS t ts us D σ H := q
theorem x_seq (q : ts ⟨us D, D.rt, D.bk, D.ct⟩ σ H) : tSeq ts us D σ H := q
theorem x_next (q : D.nx σ H) : tNext D σ H := q
theorem x_brk (q : D.bk σ H) : tBreak D σ H := q
theorem x_cont (q : D.ct σ H) : tCont D σ H := q
theorem x_nx {f : L2.St → Hp → Prop} {r : VK} {b c : L2.St → Hp → Prop} (q : f σ H) : Ends.nx ⟨f, r, b, c⟩ σ H := q
theorem x_rt {f : VK} {n b c : L2.St → Hp → Prop} (q : f v H) : Ends.rt ⟨n, f, b, c⟩ v H := q
theorem x_bk {f : L2.St → Hp → Prop} {r : VK} {n c : L2.St → Hp → Prop} (q : f σ H) : Ends.bk ⟨n, r, f, c⟩ σ H := q
theorem x_ct {f : L2.St → Hp → Prop} {r : VK} {n b : L2.St → Hp → Prop} (q : f σ H) : Ends.ct ⟨n, r, b, f⟩ σ H := q
theorem x_drop (q : te σ H fun _ H1 => D.nx σ H1) : tDrop te D σ H := q
theorem x_ret (q : te σ H fun x H1 => D.rt x H1) : tRet te D σ H := q
theorem x_retN (q : D.rt .non H) : tRetN D σ H := q
theorem x_asg (q : te σ H fun x H1 => g x σ H1 D.nx) : tAsg te g D σ H := q
theorem x_nil (q : QL [] H) : tNil σ H QL := q
theorem x_cons (q : te σ H fun x H1 => ta σ H1 fun xs H2 => QL (x :: xs) H2) : tCons te ta σ H QL := q
theorem x_call {sp : Sp} {dvs : List V} {E : XK} (q : ta σ H fun vs H1 => sp (vs ++ dvs) H1 Q E) : tCall sp dvs E ta σ H Q := q
theorem x_cb {r : List V → Hp → VK → Prop} (q : ta σ H fun vs H1 => r vs H1 Q) : tCB r ta σ H Q := q
theorem x_bm {T : String} {r : V → List V → Hp → VK → Prop} (q : te σ H fun x H1 => tyV K T x H1 ∧ ta σ H1 fun xs H2 => r x xs H2 Q) : tBM K T r te ta σ H Q := q
theorem x_sl {r : V → Option Int → Option Int → Hp → VK → Prop} {tl th : TO} (q : te σ H fun x H1 => tl σ H1 fun l H2 => th σ H2 fun u H3 => r x l u H3 Q) : tSl r te tl th σ H Q := q
theorem x_np (q : QO none H) : tNoPart σ H QO := q
theorem x_pt (q : te σ H fun x H1 => ∃ i, x = .int i ∧ QO (some i) H1) : tPart te σ H QO := q
theorem x_exI {P : Int → Prop} {i : Int} (q : P i) : ∃ k, V.int i = V.int k ∧ P k := ⟨_, rfl, q⟩
theorem x_exB {P : Bool → Prop} {b : Bool} (q : P b) : ∃ k, V.bl b = V.bl k ∧ P k := ⟨_, rfl, q⟩
theorem x_I0 {f : Int → Int → V} {i j : Int} (q : Q (f i j) H) : rI0 f (.int i) (.int j) H Q := ⟨_, _, rfl, rfl, q⟩
theorem x_eqI {i j : Int} (q : Q (.bl (decide (i = j))) H) : rEq (.int i) (.int j) H Q := ⟨rfl, by rw [My.dec_int]; exact q⟩
theorem x_neI {i j : Int} (q : Q (.bl (!decide (i = j))) H) : rNe (.int i) (.int j) H Q := ⟨rfl, by rw [My.dec_int]; exact q⟩
theorem x_eqS {i j : Str} (q : Q (.bl (decide (i = j))) H) : rEq (.str i) (.str j) H Q := ⟨rfl, by
  have e : decide (V.str i = V.str j) = decide (i = j) := by
    by_cases h : i = j
    · rw [decide_eq_true h, decide_eq_true (congrArg V.str h)]
    · rw [decide_eq_false h, decide_eq_false (fun z => h (V.str.inj z))]
  rw [e]; exact q⟩
theorem x_neS {i j : Str} (q : Q (.bl (!decide (i = j))) H) : rNe (.str i) (.str j) H Q := ⟨rfl, by
  have e : decide (V.str i = V.str j) = decide (i = j) := by
    by_cases h : i = j
    · rw [decide_eq_true h, decide_eq_true (congrArg V.str h)]
    · rw [decide_eq_false h, decide_eq_false (fun z => h (V.str.inj z))]
  rw [e]; exact q⟩
def brB (b : Bool) (p q : Prop) : Prop := (b = true → p) ∧ (b = false → q)
theorem x_ite {b : Bool} {p q : Prop} (h : brB b p q) : if b = true then p else q := by
  cases b with
  | true => rw [if_pos rfl]; exact h.1 rfl
  | false => rw [if_neg Bool.false_ne_true]; exact h.2 rfl
theorem x_brT {p q : Prop} (h : p) : brB true p q := ⟨fun _ => h, fun z => nomatch z⟩
theorem x_brF {p q : Prop} (h : q) : brB false p q := ⟨fun z => (nomatch z), fun _ => h⟩
theorem x_brN {b : Bool} {p q : Prop} (h : brB b q p) : brB (!b) p q := by
  cases b with
  | true => exact x_brF (h.1 rfl)
  | false => exact x_brT (h.2 rfl)
theorem br2 {b : Bool} {p q : Prop} (h1 : b = true → p) (h2 : b = false → q) : brB b p q := ⟨h1, h2⟩
theorem brD {c : Prop} [Decidable c] {p q : Prop} (h1 : c → p) (h2 : ¬ c → q) : brB (decide c) p q := ⟨fun h => h1 (of_decide_eq_true h), fun h => h2 (of_decide_eq_false h)⟩
theorem brT {b : Bool} {p q : Prop} (e : b = true) (h : p) : brB b p q := ⟨fun _ => h, fun z => by rw [e] at z; cases z⟩
theorem brF {b : Bool} {p q : Prop} (e : b = false) (h : q) : brB b p q := ⟨fun z => (by rw [e] at z; cases z), fun _ => h⟩
theorem brDT {c : Prop} [Decidable c] {p q : Prop} (e : c) (h : p) : brB (decide c) p q := brT (decide_eq_true e) h
theorem brDF {c : Prop} [Decidable c] {p q : Prop} (e : ¬ c) (h : q) : brB (decide c) p q := brF (decide_eq_false e) h
theorem x_ixL {a : Addr} {xs : List V} {i : Int} (h : H a = some (.lst xs)) (hi : atI xs i = some v) (q : Q v H) : rIxL K (.ref a) (.int i) H Q := ⟨_, _, _, _, rfl, rfl, SqL.of h, hi, q⟩
theorem x_ixT {a : Addr} {xs : List V} {i : Int} (h : H a = some (.tup xs)) (hi : atI xs i = some v) (q : Q v H) : rIxT K (.ref a) (.int i) H Q := ⟨_, _, _, _, rfl, rfl, SqT.of h, hi, q⟩
def rNewL (xs : List V) (H : Hp) (Q : VK) : Prop := xs.length ≤ sizeLine ∧ ∀ p, H p = none → Q (.ref p) (L2.upd H p (.lst xs))
def rNewT (xs : List V) (H : Hp) (Q : VK) : Prop := xs.length ≤ sizeLine ∧ ∀ p, H p = none → Q (.ref p) (L2.upd H p (.tup xs))
theorem x_lst (q : ta σ H fun xs H1 => rNewL xs H1 Q) : tLst ta σ H Q := q
theorem x_tup (q : ta σ H fun xs H1 => rNewT xs H1 Q) : tTup ta σ H Q := q
theorem x_new {n : Nat} {P : Prop} (h : n ≤ 100000) (q : P) : n ≤ sizeLine ∧ P := ⟨Nat.le_trans h (by decide), q⟩
theorem x_sFld {f : Str} (q : tb σ H fun y H1 => te σ H1 fun x H2 => ∃ a C dx fs, x = .ref a ∧ H2 a = some (.ins C dx fs) ∧ Cls K C ∧ NoAttr K C f ∧ fs.length < 1000 ∧ D.nx σ (L2.upd H2 a (.ins C dx (putF f y fs)))) : sFld K te tb f D σ H := q
theorem x_fld {f : Str} (q : te σ H fun x H1 => ∃ a C dx fs v, x = .ref a ∧ H1 a = some (.ins C dx fs) ∧ Cls K C ∧ NoAttr K C f ∧ fs.lookup f = some v ∧ Q v H1) : tFld K te f σ H Q := q
/-- a field is stored -/
theorem fstore {f : Str} {y : V} {p C dx : Addr} {fs fs' : List (Str × V)} {P : Hp → Prop} (h : H p = some (.ins C dx fs)) (c : Cls K C) (n : NoAttr K C f) (l : fs.length < 1000) (e : putF f y fs = fs') (q : ∀ H', SameX p H H' → H' p = some (.ins C dx fs') → P H') :
    ∃ a C dx fs, V.ref p = .ref a ∧ H a = some (.ins C dx fs) ∧ Cls K C ∧ NoAttr K C f ∧ fs.length < 1000 ∧ P (L2.upd H a (.ins C dx (putF f y fs))) := ⟨p, C, dx, fs, rfl, h, c, n, l, q _ SameX.upd (by rw [e]; exact upd_same)⟩
/-- a field is read -/
theorem fget {f : Str} {v : V} {p C dx : Addr} {fs : List (Str × V)} {P : V → Prop} (h : H p = some (.ins C dx fs)) (c : Cls K C) (n : NoAttr K C f) (e : fs.lookup f = some v) (q : P v) :
    ∃ a C dx fs v, V.ref p = .ref a ∧ H a = some (.ins C dx fs) ∧ Cls K C ∧ NoAttr K C f ∧ fs.lookup f = some v ∧ P v := ⟨p, C, dx, fs, v, rfl, h, c, n, e, q⟩
/-- tuple(seq) -/
theorem tupleOf {a : Addr} {xs : List V} (h : SeqA K H a xs) (q : ∀ l H', Same H H' → SqT K H' l xs → Q (.ref l) H') :
    rTupOf K [.ref a] H Q :=
  ⟨a, xs, rfl, h.elim (fun h => .inl ⟨h, fun l hl => q l _ (Same.new hl) (SqT.of upd_same)⟩) fun h => .inr ⟨h, q a H (Same.refl H) h⟩⟩
/-- list(seq) -/
theorem listOf {a : Addr} {xs : List V} (h : SeqA K H a xs) (q : ∀ l H', H l = none → Same H H' → H' l = some (.lst xs) → Q (.ref l) H') :
    rLstOf K [.ref a] H Q := ⟨a, xs, rfl, h, fun l hl => q l _ hl (Same.new hl) upd_same⟩
/-- new lists, new tuples, sums of lists, appends, by what stands afterwards -/
theorem newList {xs : List V} (h : xs.length ≤ 100000) (q : ∀ l H', H l = none → Same H H' → H' l = some (.lst xs) → Q (.ref l) H') : rNewL xs H Q := ⟨Nat.le_trans h (by decide), fun l hl => q l _ hl (Same.new hl) upd_same⟩
theorem newTup {xs : List V} (h : xs.length ≤ 100000) (q : ∀ l H', H l = none → Same H H' → H' l = some (.tup xs) → Q (.ref l) H') : rNewT xs H Q := ⟨Nat.le_trans h (by decide), fun l hl => q l _ hl (Same.new hl) upd_same⟩
theorem catList {a b : Addr} {xs zs : List V} (ha : H a = some (.lst xs)) (hb : H b = some (.lst zs)) (h : xs.length + zs.length ≤ 100000) (q : ∀ l H', H l = none → Same H H' → H' l = some (.lst (xs ++ zs)) → Q (.ref l) H') : rCat (.ref a) (.ref b) H Q :=
  ⟨a, b, xs, zs, rfl, rfl, ha, hb, Nat.le_trans h (by decide), fun l hl => q l _ hl (Same.new hl) upd_same⟩
theorem appList {a : Addr} {xs : List V} {y : V} (ha : H a = some (.lst xs)) (h : xs.length < 100000) (q : ∀ H', SameX a H H' → H' a = some (.lst (xs ++ [y])) → Q .non H') : rAppend (.ref a) [y] H Q := ⟨a, xs, y, rfl, rfl, ha, Nat.lt_of_lt_of_le h (by decide), q _ SameX.upd upd_same⟩
theorem isList {a : Addr} {xs : List V} (ha : H a = some (.lst xs)) : tyV K "list" (.ref a) H := .inl ⟨rfl, xs, SqL.of ha⟩
theorem ixL {a : Addr} {xs : List V} {i : Nat} (ha : H a = some (.lst xs)) (hi : xs[i]? = some v) (q : Q v H) : rIxL K (.ref a) (.int (i : Int)) H Q := ⟨a, xs, i, v, rfl, rfl, SqL.of ha, atI_nat hi, q⟩
theorem ixT {a : Addr} {xs : List V} {i : Nat} (ha : SqT K H a xs) (hi : xs[i]? = some v) (q : Q v H) : rIxT K (.ref a) (.int (i : Int)) H Q := ⟨a, xs, i, v, rfl, rfl, ha, atI_nat hi, q⟩
theorem setL {a : Addr} {xs : List V} {i : Nat} {P : Hp → Prop} (ha : H a = some (.lst xs)) (hi : i < xs.length) (q : ∀ H', SameX a H H' → H' a = some (.lst (xs.set i v)) → P H') : rSetL (.ref a) (.int (i : Int)) v H P := ⟨a, xs, i, i, rfl, rfl, ha, ixN_nat rfl hi, q _ SameX.upd upd_same⟩
theorem lenA {a : Addr} {xs : List V} (h : SeqA K H a xs) (q : Q (.int (xs.length : Int)) H) : rLenOf K [.ref a] H Q := ⟨a, xs, rfl, h, q⟩
/-- what a for asks once its turns are known -/
def forK (J : It) (g : TG) (tb : TS) (D : Ends) (σ : L2.St) (H : Hp) : Prop := ∃ W : Nat → Nat → L2.St → Hp → Prop, (∃ m, W 0 m σ H) ∧ ∀ i m σ H, W i m σ H →
  (J.stop i H ∧ D.nx σ H) ∨ (J.go i H ∧ ∃ N : L2.St → Hp → Prop, (∀ σ' H', N σ' H' → ∃ m', m' < m ∧ W (i + 1) m' σ' H') ∧ ∀ x H', J.yld i H x H' → g x σ H' fun σ2 H2 => tb { D with nx := N, ct := N, bk := D.nx } σ2 H2)
def forI (g : TG) (tb : TS) (D : Ends) (σ : L2.St) (n : Int) (H : Hp) : Prop := ∃ j : Int, [V.int n] = [.int j] ∧ -(2 ^ 62) ≤ j ∧ j < 2 ^ 62 ∧ forK (Itr 0 j.toNat) g tb D σ H
theorem x_for1 (q : ta σ H fun vs H1 => ∃ j : Int, vs = [.int j] ∧ -(2 ^ 62) ≤ j ∧ j < 2 ^ 62 ∧ forK (Itr 0 j.toNat) g ts D σ H1) : tFor (iRng1 ta) g ts D σ H := q
theorem x_forL (q : te σ H fun x H1 => ∃ a, x = .ref a ∧ (∃ xs, SqL K H1 a xs) ∧ forK (Itl K a) g ts D σ H1) : tFor (iList K te) g ts D σ H := q
theorem x_forT (q : te σ H fun x H1 => ∃ a, x = .ref a ∧ (∃ xs, SqT K H1 a xs) ∧ forK (Itt K a) g ts D σ H1) : tFor (iTup K te) g ts D σ H := q
theorem rng1 {n : Int} (h0 : -100000 ≤ n) (h1 : n ≤ 100000) (q : forK (Itr 0 n.toNat) g ts D σ H) : ∃ j : Int, [V.int n] = [.int j] ∧ -(2 ^ 62) ≤ j ∧ j < 2 ^ 62 ∧ forK (Itr 0 j.toNat) g ts D σ H := ⟨n, rfl, by omega, by omega, q⟩
theorem overL {a : Addr} {xs : List V} (h : SqL K H a xs) (q : forK (Itl K a) g ts D σ H) : ∃ b, V.ref a = .ref b ∧ (∃ xs, SqL K H b xs) ∧ forK (Itl K b) g ts D σ H := ⟨a, rfl, ⟨_, h⟩, q⟩
theorem overT {a : Addr} {xs : List V} (h : SqT K H a xs) (q : forK (Itt K a) g ts D σ H) : ∃ b, V.ref a = .ref b ∧ (∃ xs, SqT K H b xs) ∧ forK (Itt K b) g ts D σ H := ⟨a, rfl, ⟨_, h⟩, q⟩
end
/-! ### steps: more readings by their form -/
theorem pe_fldK {X : Cx} {K : PySem.W.Frag} {e : Expr} {f : Str} {pos : Pos} {ta : TE} (eK : X.K = K) (he : PE X e ta) (hb : attributeBase e f X.env (eval e X.env) = eval e X.env) : PE X (.Attribute e f pos) (tFld K ta f) := eK ▸ pe_fld he hb
section
variable {K : PySem.W.Frag} {σ : L2.St} {H : Hp} {Q : VK} {QS : L2.St → Hp → Prop} {v : V} {te tb ti : TE} {tt : TT} {D : Ends}
theorem x_gsub {to ti : TE} {t : TSet} (q : to σ H fun o H1 => ti σ H1 fun i H2 => t o i v H2 fun H3 => QS σ H3) : gSub to ti t v σ H QS := q
theorem x_int1 {P : Int → Prop} {R : Prop} {i : Int} (q : P i) : (∃ k, [V.int i] = [V.int k] ∧ P k) ∨ R := .inl ⟨i, rfl, q⟩
theorem x_exL {P : Int → Prop} {i : Int} (q : P i) : ∃ k, [V.int i] = [V.int k] ∧ P k := ⟨i, rfl, q⟩
theorem min_if (i j : Int) : (if j < i then j else i) = min i j := by rw [Int.min_def]; split <;> split <;> omega
theorem max_if (i j : Int) : (if j > i then j else i) = max i j := by rw [Int.max_def]; split <;> split <;> omega
def rMin2 : List V → Hp → VK → Prop := fun xs H Q => ∃ i j, xs = [.int i, .int j] ∧ Q (.int (min i j)) H
def rMax2 : List V → Hp → VK → Prop := fun xs H Q => ∃ i j, xs = [.int i, .int j] ∧ Q (.int (max i j)) H
def ab (x : Int) : Int := if x < 0 then -x else x
def rAbs : List V → Hp → VK → Prop := fun xs H Q => ∃ i, xs = [.int i] ∧ Q (.int (ab i)) H
theorem call_min2K {X : Cx} (hc : X.calm = true) : CallR X (.builtin "min") rMin2 := by
  intro pins s σ H xs us Q I r h
  obtain ⟨i, j, e, q⟩ := h
  exact call_min2 hc pins s σ H xs us Q I r ⟨i, j, e, by rw [min_if]; exact q⟩
theorem call_max2K {X : Cx} (hc : X.calm = true) : CallR X (.builtin "max") rMax2 := by
  intro pins s σ H xs us Q I r h
  obtain ⟨i, j, e, q⟩ := h
  exact call_max2 hc pins s σ H xs us Q I r ⟨i, j, e, by rw [max_if]; exact q⟩
theorem call_absK {X : Cx} : CallR X (.builtin "abs") rAbs := call_abs
theorem x_min2 {i j : Int} (q : Q (.int (min i j)) H) : rMin2 [.int i, .int j] H Q := ⟨i, j, rfl, q⟩
theorem x_max2 {i j : Int} (q : Q (.int (max i j)) H) : rMax2 [.int i, .int j] H Q := ⟨i, j, rfl, q⟩
theorem x_abs {i : Int} (q : Q (.int (ab i)) H) : rAbs [.int i] H Q := ⟨i, rfl, q⟩
theorem x_brTT {p q : Prop} (h : p) : brB (true && true) p q := x_brT h
theorem x_mod {i j : Int} (h : 0 < j) (q : Q (.int (i % j)) H) : rI (fun _ j => 0 < j) (fun i j => .int (i % j)) (.int i) (.int j) H Q := ⟨i, j, rfl, rfl, h, q⟩
theorem x_mulR {i j : Int} (h : -(2 ^ 64) < j ∧ j < 2 ^ 64) (q : Q (.int (i * j)) H) : rI CMul (fun i j => .int (i * j)) (.int i) (.int j) H Q := ⟨i, j, rfl, rfl, .inr h, q⟩
theorem x_mulL {i j : Int} (h : -(2 ^ 64) < i ∧ i < 2 ^ 64) (q : Q (.int (i * j)) H) : rI CMul (fun i j => .int (i * j)) (.int i) (.int j) H Q := ⟨i, j, rfl, rfl, .inl h, q⟩
theorem x_div {i j : Int} (h : 0 < j ∧ j < 1073741824) (q : Q (.int (i / j)) H) : rI CDiv (fun i j => .int (i / j)) (.int i) (.int j) H Q := ⟨i, j, rfl, rfl, h, q⟩
theorem x_divW {i j : Int} (h0 : 0 < j) (h : j < 2 ^ 62) (q : Q (.int (i / j)) H) : rI CDivW (fun i j => .int (i / j)) (.int i) (.int j) H Q := ⟨i, j, rfl, rfl, ⟨h0, Nat.lt_trans (PySem.Flt.log2_lt_of (k := 62) (by decide) (by omega)) (by decide)⟩, q⟩
theorem x_pow {i j : Int} (h : 0 ≤ j ∧ j ≤ 1000000 ∧ i.natAbs < 2 ^ 64) (q : Q (.int (i ^ j.toNat)) H) : rI CPow (fun i j => .int (i ^ j.toNat)) (.int i) (.int j) H Q := ⟨i, j, rfl, rfl, h, q⟩
theorem x_nN {P : Prop} (q : P) : V.non = V.non ∧ P := ⟨rfl, q⟩
theorem x_chain {r r' : R2} {tc : TE} (q : te σ H fun x H1 => tb σ H1 fun y H2 => r x y H2 fun z H3 => ∃ k, z = .bl k ∧ brB k (tc σ H3 fun w' H4 => r' y w' H4 Q) (Q (.bl false) H3)) : tChain r r' te tb tc σ H Q := by
  refine cast (congrArg (fun z => te σ H z) ?_) q
  funext x H1
  refine congrArg (fun z => tb σ H1 z) ?_
  funext y H2
  refine congrArg (fun z => r x y H2 z) ?_
  funext z H3
  refine congrArg Exists ?_
  funext k
  refine congrArg (fun p => z = .bl k ∧ p) ?_
  exact propext ⟨fun h => x_ite h, fun h => by cases k with
    | true => exact x_brT (by rw [if_pos rfl] at h; exact h)
    | false => exact x_brF (by rw [if_neg Bool.false_ne_true] at h; exact h)⟩
theorem x_meth {C : Addr} {m : Str} {sp : Sp} {dvs : List V} {E : XK} {ta : TE} {t : TA} (q : ta σ H fun x H1 => ∃ a dx fs, x = .ref a ∧ H1 a = some (.ins C dx fs) ∧ fs.lookup m = none ∧ t σ H1 fun vs H2 => sp (x :: (vs ++ dvs)) H2 Q E) : tMeth C m sp dvs E ta t σ H Q := q
theorem x_prop {C : Addr} {sp : Sp} {dvs : List V} {E : XK} {ta : TE} (q : ta σ H fun x H1 => ∃ a dx fs, x = .ref a ∧ H1 a = some (.ins C dx fs) ∧ sp (.ref a :: dvs) H1 Q E) : tProp C sp dvs E ta σ H Q := q
theorem x_make {C : Addr} {sp : Sp} {dvs : List V} {E : XK} {t : TA} (q : t σ H fun vs H1 => ∀ x dx, H1 x = none → H1 dx = none → dx ≠ x → sp (.ref x :: (vs ++ dvs)) (upd (upd H1 dx (.own x)) x (.ins C dx [])) (fun v H2 => v = .non ∧ Q (.ref x) H2) E) : tMake C sp dvs E t σ H Q := q
theorem x_fldaug {rd : V → V → Hp → VK → Prop} {f : Str} (q : te σ H fun x H1 => ∃ a C dx fs v, x = .ref a ∧ H1 a = some (.ins C dx fs) ∧ Cls K C ∧ NoAttr K C f ∧ fs.lookup f = some v ∧ tb σ H1 fun y H2 => rd v y H2 fun z H3 => ∃ dx' fs', H3 a = some (.ins C dx' fs') ∧ fs'.length < 1000 ∧ D.nx σ (L2.upd H3 a (.ins C dx' (putF f z fs')))) : sFldAug K te tb rd f D σ H := q
theorem x_rAdd {i j : Int} (q : Q (.int (i + j)) H) : rAdd (.int i) (.int j) H Q := ⟨i, j, rfl, rfl, q⟩
theorem x_ipI {f : Int → Int → Int} {i j : Int} (q : Q (.int (f i j)) H) : ipI f (.int i) (.int j) H Q := ⟨i, j, rfl, rfl, q⟩
theorem x_rSub {i j : Int} (q : Q (.int (i - j)) H) : rSub (.int i) (.int j) H Q := ⟨i, j, rfl, rfl, q⟩
theorem rngF {n : Int} {g : TG} {ts : TS} (h0 : -100000 ≤ n) (h1 : n ≤ 100000) (q : forK (Itr 0 n.toNat) g ts D σ H) : -(2 ^ 62) ≤ n ∧ n < 2 ^ 62 ∧ forK (Itr 0 n.toNat) g ts D σ H := ⟨by omega, by omega, q⟩
/-- a field is raised -/
theorem fraise {f : Str} {p C dx : Addr} {fs : List (Str × V)} {P : Hp → Prop} {T : V → V → Hp → VK → Prop} {tv : TE} {σ : L2.St} (h : H p = some (.ins C dx fs)) (c : Cls K C) (n : NoAttr K C f) (l : fs.length < 1000) (e : fs.lookup f = some v)
    (q : tv σ H fun y H2 => T v y H2 fun z H3 => ∃ dx' fs', H3 p = some (.ins C dx' fs') ∧ fs'.length < 1000 ∧ P (L2.upd H3 p (.ins C dx' (putF f z fs')))) :
    ∃ a C dx fs v, V.ref p = .ref a ∧ H a = some (.ins C dx fs) ∧ Cls K C ∧ NoAttr K C f ∧ fs.lookup f = some v ∧ tv σ H fun y H2 => T v y H2 fun z H3 => ∃ dx' fs', H3 a = some (.ins C dx' fs') ∧ fs'.length < 1000 ∧ P (L2.upd H3 a (.ins C dx' (putF f z fs'))) := ⟨p, C, dx, fs, v, rfl, h, c, n, e, q⟩
theorem fput {f : Str} {z : V} {p C dx : Addr} {fs fs' : List (Str × V)} {P : Hp → Prop} (h : H p = some (.ins C dx fs)) (l : fs.length < 1000) (e : putF f z fs = fs') (q : ∀ H', SameX p H H' → H' p = some (.ins C dx fs') → P H') :
    ∃ dx' fs', H p = some (.ins C dx' fs') ∧ fs'.length < 1000 ∧ P (L2.upd H p (.ins C dx' (putF f z fs'))) := ⟨dx, fs, h, l, q _ SameX.upd (by rw [e]; exact upd_same)⟩
end
/-! ### o[i] op= e, o a list -/
theorem pget_list {X : Cx} : PGet X (rIxL X.K) := by
  intro pins s σ H o i ov iv Q I ro ri h
  obtain ⟨p, xs, k, z, rfl, rfl, hq, he, q⟩ := h
  cases ro
  obtain ⟨t, rfl⟩ := ri
  obtain ⟨its, r, pl, hz⟩ := I.list hq
  obtain ⟨j, h1, h2, h3, h4, h5⟩ := atI_get he
  obtain ⟨w, ew, rw'⟩ := r.get h2
  have hl := r.length
  have hn := line63
  have fin : EP X pins σ Q w s := ⟨z, H, I, rw', q⟩
  by_cases h0 : 0 ≤ k
  · have hj : k.toNat = j := by
      rw [seqIndex_of h0 h5] at h1
      exact Option.some.inj h1
    exact wpAny_getItem_list pl.isList h0 (by omega) (by rw [hj]; simpa using ew) fin
  · have hj : (k + (its.toArray.size : Int)).toNat = j := by
      rw [seqIndex_neg (by omega) h4] at h1
      rw [List.size_toArray, ← hl]
      exact Option.some.inj h1
    exact wpAny_getItem_list_neg pl.isList (by omega) (by rw [List.size_toArray] <;> omega) (by omega) (by rw [hj]; simpa using ew) fin
theorem x_augS {to ti te : TE} {tget : V → V → Hp → VK → Prop} {tip : TIp} {tset : TSet} {D : Ends} {σ : L2.St} {H : Hp} (q : to σ H fun o H1 => ti σ H1 fun i H2 => tget o i H2 fun x H3 => te σ H3 fun y H4 => tip x y H4 fun z H5 => tset o i z H5 fun H6 => D.nx σ H6) : tAugS to ti te tget tip tset D σ H := q
theorem x_negU {i : Int} {H : Hp} {Q : VK} (q : Q (.int (-i)) H) : rU (fun i => .int (-i)) (.int i) H Q := ⟨i, rfl, q⟩
/-- for_range, by its name -/
theorem for_rangeK {lo : Int} {n : Nat} {g : TG} {ts : TS} {D : Ends} {σ : L2.St} {H : Hp} (Pv : Nat → L2.St → Hp → Prop) (h0 : Pv 0 σ H)
    (hs : ∀ i σ H, i < n → Pv i σ H → g (.int (lo + i)) σ H fun σ2 H2 => ts { D with nx := Pv (i + 1), ct := Pv (i + 1), bk := D.nx } σ2 H2) (hd : ∀ σ H, Pv n σ H → D.nx σ H) : forK (Itr lo n) g ts D σ H := for_range Pv h0 hs hd
local macro_rules
  | `(tactic| w_up) => `(tactic| with_reducible first
    | refine x_seq ?_ | refine x_asg ?_ | refine x_op ?_ | refine x_c ?_
    | refine x_v0 ?_ | refine x_v1 ?_ | refine x_v2 ?_ | refine x_v3 ?_ | refine x_v4 ?_ | refine x_v5 ?_ | refine x_v6 ?_ | refine x_v7 ?_ | refine x_v8 ?_ | refine x_v9 ?_ | refine x_v10 ?_ | refine x_v11 ?_ | refine x_v12 ?_ | refine x_v13 ?_ | refine x_v14 ?_ | refine x_v15 ?_ | refine x_v16 ?_ | refine x_v17 ?_ | refine x_v18 ?_ | refine x_v19 ?_
    | refine x_g0 ?_ | refine x_g1 ?_ | refine x_g2 ?_ | refine x_g3 ?_ | refine x_g4 ?_ | refine x_g5 ?_ | refine x_g6 ?_ | refine x_g7 ?_ | refine x_g8 ?_ | refine x_g9 ?_ | refine x_g10 ?_ | refine x_g11 ?_ | refine x_g12 ?_ | refine x_g13 ?_ | refine x_g14 ?_ | refine x_g15 ?_ | refine x_g16 ?_ | refine x_g17 ?_ | refine x_g18 ?_ | refine x_g19 ?_
    | refine x_cons ?_ | refine x_nil ?_ | refine x_I0 ?_ | refine x_exI ?_ | refine x_exB ?_ | refine x_eqI ?_ | refine x_neI ?_ | refine x_eqS ?_ | refine x_neS ?_
    | refine x_test ?_ | refine x_tB ?_ | refine x_ifS ?_ | refine x_if ?_ | refine x_and ?_ | refine x_or ?_ | refine x_not ?_ | refine x_andV ?_ | refine x_orV ?_ | refine x_notV ?_
    | refine x_ite ?_ | refine x_brT ?_ | refine x_brF ?_ | refine x_brN ?_
    | refine x_call ?_ | refine x_for1 ?_ | refine x_forL ?_ | refine x_forT ?_ | refine x_sFld ?_ | refine x_fld ?_ | refine x_cb ?_ | refine x_bm ?_ | refine x_un ?_ | refine x_sl ?_ | refine x_np ?_ | refine x_pt ?_
    | refine x_next ?_ | refine x_ret ?_ | refine x_retN ?_ | refine x_drop ?_ | refine x_brk ?_ | refine x_cont ?_ | refine x_lst ?_ | refine x_tup ?_ | dsimp only | dsimp only [List.set_cons_succ, List.set_cons_zero])
local macro_rules
  | `(tactic| o_args) => `(tactic| repeat w_up)
local macro_rules
  | `(tactic| w_up) => `(tactic| first
    | with_reducible refine x_augS ?_ | with_reducible refine x_negU ?_ | with_reducible refine x_gsub ?_ | with_reducible refine x_int1 ?_ | with_reducible refine x_exL ?_ | with_reducible refine x_min2 ?_ | with_reducible refine x_max2 ?_ | with_reducible refine x_abs ?_ | with_reducible refine x_brTT ?_
    | with_reducible refine x_mod (by decide) ?_ | with_reducible refine x_mulR ⟨by decide, by decide⟩ ?_ | with_reducible refine x_mulL ⟨by decide, by decide⟩ ?_ | with_reducible refine x_div ⟨by decide, by decide⟩ ?_
    | with_reducible refine x_pow ⟨by decide, by decide, by decide⟩ ?_
    | with_reducible refine x_nN ?_ | with_reducible refine x_chain ?_ | with_reducible refine x_meth ?_ | with_reducible refine x_prop ?_ | with_reducible refine x_make ?_ | with_reducible refine x_fldaug ?_ | with_reducible refine x_ipI ?_ | with_reducible refine x_rAdd ?_ | with_reducible refine x_rSub ?_
    | with_reducible refine brDT (by decide) ?_ | with_reducible refine brDF (by decide) ?_
    | with_reducible refine x_ixT (by assumption) (by with_unfolding_all exact rfl) ?_
    | with_reducible refine x_ixL (by assumption) (by with_unfolding_all exact rfl) ?_)
/-! ### general words -/
theorem Same.ofX {D : Addr} {H H' : Hp} (hD : H D = none) (s : SameX D H H') : Same H H' := fun b o e => s b o (ne_of_none e hD) e
theorem getq_lt {α : Type} {xs : List α} {i : Nat} {x : α} (h : xs[i]? = some x) : i < xs.length := (List.getElem?_eq_some_iff.mp h).1
theorem getq_app {α : Type} {vs : List α} {v w : α} {k : Nat} (h : (vs ++ [v])[k]? = some w) : (k < vs.length ∧ vs[k]? = some w) ∨ (k = vs.length ∧ w = v) := by
  have hk := getq_lt h
  rw [List.length_append] at hk
  have hk : k < vs.length + 1 := hk
  by_cases q : k < vs.length
  · rw [List.getElem?_append_left q] at h
    exact .inl ⟨q, h⟩
  · have e : k = vs.length := by omega
    subst e
    rw [List.getElem?_append_right (Nat.le_refl _), Nat.sub_self] at h
    exact .inr ⟨rfl, (Option.some.inj h).symm⟩
theorem none_back {p l : Addr} {H H' : Hp} (s : SameX p H H') (n : l ≠ p) (h : H' l = none) : H l = none := by
  cases q : H l with
  | none => rfl
  | some o => rw [s _ _ n q] at h; cases h
theorem none_of {H H' : Hp} {l : Addr} (s : Same H H') (h : H' l = none) : H l = none := by
  cases q : H l with
  | none => rfl
  | some o => rw [s _ _ q] at h; cases h
/-- only lists change -/
def LS (H H' : Hp) : Prop := ∀ a o, (∀ xs, o ≠ .lst xs) → H a = some o → H' a = some o
theorem LS.refl (H : Hp) : LS H H := fun _ _ _ h => h
theorem LS.trans {H H1 H2 : Hp} (x : LS H H1) (y : LS H1 H2) : LS H H2 := fun a o n h => y a o n (x a o n h)
theorem LS.of {H H' : Hp} (s : Same H H') : LS H H' := fun a o _ h => s a o h
theorem LS.ofX {H H' : Hp} {p : Addr} {xs : List V} (hp : H p = some (.lst xs)) (s : SameX p H H') : LS H H' := fun a o n h => s a o (fun e => by subst e; rw [hp] at h; cases h; exact n _ rfl) h
theorem LS.sqT {K : PySem.W.Frag} {H H' : Hp} {a : Addr} {xs : List V} (s : LS H H') (h : SqT K H a xs) : SqT K H' a xs := by
  rcases h with (h | ⟨o, h⟩) | h
  · exact .inl (.inl (s _ _ (fun _ z => nomatch z) h))
  · exact .inl (.inr ⟨o, s _ _ (fun _ z => nomatch z) h⟩)
  · exact .inr h
theorem sliceL {K : PySem.W.Frag} {H : Hp} {Q : VK} {a : Addr} {xs : List V} {lo hi : Option Int} (h : SqL K H a xs) (q : ∀ l H', H l = none → Same H H' → H' l = some (.lst (cutV xs lo hi)) → Q (.ref l) H') : rSlL K (.ref a) lo hi H Q := ⟨a, xs, rfl, h, fun l hl => q l _ hl (Same.new hl) upd_same⟩
theorem cut_to (xs : List V) (i : Nat) : cutV xs none (some (i : Int)) = xs.take i := by
  have e1 : HT.sIx xs.length 0 none = 0 := rfl
  have e2 : HT.sIx xs.length xs.length (some (i : Int)) = min i xs.length := by
    unfold HT.sIx
    simp
    intro h
    omega
  unfold cutV
  rw [e1, e2, List.drop_zero, Nat.sub_zero, List.take_eq_take_iff]
  omega
theorem cut_from (xs : List V) (i : Nat) : cutV xs (some (i : Int)) none = xs.drop i := by
  have e1 : HT.sIx xs.length xs.length none = xs.length := rfl
  have e2 : HT.sIx xs.length 0 (some (i : Int)) = min i xs.length := HT.sIx_nat _ _ _
  unfold cutV
  rw [e1, e2]
  by_cases h : i ≤ xs.length
  · rw [Nat.min_eq_left h, List.take_of_length_le (by rw [List.length_drop]; exact Nat.le_refl _)]
  · rw [Nat.min_eq_right (by omega), Nat.sub_self, List.take_zero, List.drop_of_length_le (by omega)]
theorem dp_ints {K : PySem.W.Frag} {H : Hp} : ∀ ns : List Int, DpAll K H (ns.map V.int) (ns.map PyData.int)
  | [] => .nil
  | n :: r => .cons (.int n) (dp_ints r)
theorem lay_all : ∀ ns : List Int, PyData.canLayAll0 (ns.map PyData.int) = true ∧ PyData.depthAll (ns.map PyData.int) = 0
  | [] => ⟨by simp only [List.map_nil, PyData.canLayAll0], by simp only [List.map_nil, PyData.depthAll]⟩
  | n :: r => by
    obtain ⟨h1, h2⟩ := lay_all r
    exact ⟨by simp only [List.map_cons, PyData.canLayAll0, PyData.canLay0, h1, Bool.and_self], by simp only [List.map_cons, PyData.depthAll, PyData.depth, h2, Nat.max_self]⟩
theorem lay_ints (ns : List Int) : PySem.SeqAt.shaped (.list (ns.map PyData.int)) = true := by
  obtain ⟨h1, h2⟩ := lay_all ns
  unfold PySem.SeqAt.shaped
  simp only [PyData.canLay0, PyData.depth, h1, h2]
  decide
theorem eqv_all : ∀ xs ys : List Int, PyData.eqvAll (xs.map PyData.int) (ys.map PyData.int) = decide (xs = ys)
  | [], [] => by simp [PyData.eqvAll]
  | [], y :: ys => by simp [PyData.eqvAll]
  | x :: xs, [] => by simp [PyData.eqvAll]
  | x :: xs, y :: ys => by
    have e := eqv_all xs ys
    simp only [List.map_cons, PyData.eqvAll, e, PyData.eqv]
    by_cases h : x = y <;> by_cases g : xs = ys <;> simp [h, g]
theorem eqv_ints (xs ys : List Int) : PyData.eqv (.list (xs.map PyData.int)) (.list (ys.map PyData.int)) = decide (xs = ys) := by
  simp only [PyData.eqv]
  exact eqv_all xs ys
/-- two lists of ints compared -/
theorem eqLL {K : PySem.W.Frag} {H : Hp} {Q : VK} {a b : Addr} {xs ys : List Int} (ha : SqL K H a (xs.map V.int)) (hb : SqL K H b (ys.map V.int)) (q : Q (.bl (decide (xs = ys))) H) : rEqD K (.ref a) (.ref b) H Q :=
  ⟨_, _, .lst ha (dp_ints xs), .lst hb (dp_ints ys), lay_ints xs, lay_ints ys, by rw [eqv_ints]; exact q⟩
theorem neLL {K : PySem.W.Frag} {H : Hp} {Q : VK} {a b : Addr} {xs ys : List Int} (ha : SqL K H a (xs.map V.int)) (hb : SqL K H b (ys.map V.int)) (q : Q (.bl (!decide (xs = ys))) H) : rNeD K (.ref a) (.ref b) H Q :=
  ⟨_, _, .lst ha (dp_ints xs), .lst hb (dp_ints ys), lay_ints xs, lay_ints ys, by rw [eqv_ints]; exact q⟩
/-- a comprehension over a list of ints, filtered, its items ints -/
theorem lc_ints {K : PySem.W.Frag} {a : Addr} {ns : List Int} {te tel : TE} {tt : TT} {σ : L2.St} {H : Hp} {Q : VK} {j : Nat} (p : Int → Bool) (f : Int → Int) (hte : ∀ R' : VK, R' (.ref a) H → te σ H R') (hS : SqL K H a (ns.map V.int)) (hz : ns.length < 100000)
    (ht : ∀ x ∈ ns, ∀ H', Same H H' → ∀ Qt : Bool → Hp → Prop, Qt (p x) H' → tt ((σ.set j none).set j (some (.int x))) H' Qt)
    (he : ∀ x ∈ ns, p x = true → ∀ H', Same H H' → ∀ Qe : VK, Qe (.int (f x)) H' → tel ((σ.set j none).set j (some (.int x))) H' Qe)
    (hd : ∀ D H', H D = none → Same H H' → H' D = some (.lst (((ns.filter p).map f).map V.int)) → Q (.ref D) H') : tLc (iList K te) (gName j) tt tel [j] σ H Q := by
  refine hte _ ⟨a, rfl, ⟨_, hS⟩, fun D hD => lc_list (K := K) (a := a) (xs := ns.map V.int) (fun i H' => H' D = some (.lst ((((ns.take i).filter p).map f).map V.int)) ∧ SameX D H H') ⟨upd_same, SameX.upd⟩ (fun i H' _ h => (Same.ofX hD h.2).seq hS) ?_ ?_⟩
  · rintro i x H' hi ⟨h1, h2⟩
    rw [List.getElem?_map] at hi
    cases e : ns[i]? with
    | none => rw [e] at hi; cases hi
    | some u =>
      rw [e] at hi
      cases hi
      have hil := getq_lt e
      have mem : u ∈ ns := List.mem_of_getElem? e
      refine ⟨?_, ?_⟩
      · show ((((σ.set j none).set j (some (.int u))).set j none) = σ.set j none)
        rw [List.set_set, List.set_set]
      have e2 : ns.take (i + 1) = ns.take i ++ [u] := by
        rw [List.take_succ, e]
        rfl
      refine ht u mem H' (Same.ofX hD h2) _ ?_
      cases hp : p u with
      | false =>
        rw [if_neg Bool.false_ne_true]
        refine ⟨?_, h2⟩
        rw [e2, List.filter_append]
        simp only [List.filter, hp, List.append_nil]
        exact h1
      | true =>
        rw [if_pos rfl]
        refine he u mem hp H' (Same.ofX hD h2) _ ⟨_, h1, ?_, ?_, h2.upd'⟩
        · rw [List.length_map, List.length_map]
          have := List.length_filter_le p (ns.take i)
          rw [List.length_take] at this
          exact Nat.lt_of_lt_of_le (show _ < 100000 by omega) (by decide)
        · rw [e2, List.filter_append]
          simp only [List.filter, hp, List.map_append, List.map_cons, List.map_nil]
          exact upd_same
  · rintro H' ⟨h1, h2⟩
    rw [List.length_map, List.take_length] at h1
    exact hd D H' hD (Same.ofX hD h2) h1
/-- a comprehension over a list, its items new -/
theorem lc_lstN {K : PySem.W.Frag} {a : Addr} {xs : List V} {te tel : TE} {σ : L2.St} {H : Hp} {Q : VK} {j : Nat} (P : Nat → List V → Hp → Prop) (hte : ∀ R' : VK, R' (.ref a) H → te σ H R') (hS : SqL K H a xs) (hz : xs.length < 100000) (h0 : ∀ H', Same H H' → P 0 [] H')
    (hm : ∀ i vs H1 H2, Same H1 H2 → P i vs H1 → P i vs H2) (hw : ∀ D H1 H2 i vs, H D = none → SameX D H1 H2 → Same H H1 → (∃ acc, H1 D = some (.lst acc)) → P i vs H1 → P i vs H2)
    (hs : ∀ D i x vs H', xs[i]? = some x → Same H H' → P i vs H' → vs.length = i → H D = none → (∃ o, H' D = some o) → ∀ Qe : VK, (∀ v H'', Same H' H'' → P (i + 1) (vs ++ [v]) H'' → Qe v H'') → tel ((σ.set j none).set j (some x)) H' Qe)
    (hd : ∀ D vs H', H D = none → vs.length = xs.length → P xs.length vs H' → H' D = some (.lst vs) → Same H H' → Q (.ref D) H') : tLc (iList K te) (gName j) tYes tel [j] σ H Q := by
  refine hte _ ⟨a, rfl, ⟨_, hS⟩, fun D hD => lc_list (K := K) (a := a) (xs := xs) (fun i H' => ∃ vs : List V, vs.length = i ∧ P i vs H' ∧ H' D = some (.lst vs) ∧ SameX D H H') ⟨[], rfl, h0 _ (Same.new hD), upd_same, SameX.upd⟩ (fun i H' _ ⟨_, _, _, _, h⟩ => (Same.ofX hD h).seq hS) ?_ ?_⟩
  · rintro i x H' hi ⟨vs, hl, hr, h1, h2⟩
    refine ⟨?_, ?_⟩
    · show ((((σ.set j none).set j (some x)).set j none) = σ.set j none)
      rw [List.set_set, List.set_set]
    dsimp only [tYes]
    rw [if_pos rfl]
    have S0 := Same.ofX hD h2
    refine hs D i x vs H' hi S0 hr hl hD ⟨_, h1⟩ _ fun v H'' s2 r => ⟨vs, s2 _ _ h1, ?_, vs ++ [v], ?_, hw D H'' _ _ _ hD SameX.upd (S0.trans s2) ⟨vs, s2 _ _ h1⟩ r, upd_same, (h2.trans (SameX.of s2)).upd'⟩
    · have := getq_lt hi
      exact Nat.lt_of_lt_of_le (show vs.length < 100000 by omega) (by decide)
    · rw [List.length_append, hl]; rfl
  · rintro H' ⟨vs, hl, hr, h1, h2⟩
    exact hd D vs H' hD hl hr h1 (Same.ofX hD h2)
theorem all_rep (n : Nat) : (List.replicate n true).all id = true := by simp
theorem Same.ofX2 {H H1 H2 : Hp} {l : Addr} (hl : H l = none) (s1 : Same H H1) (s2 : SameX l H1 H2) : Same H H2 := fun b o e => s2 b o (ne_of_none e hl) (s1 b o e)
/-! ### own errors -/
abbrev sp_InvalidNumber_init_ (K : PySem.W.Frag) : Sp := sp_xinit K "number"
theorem ok_InvalidNumber_init_ (T : Txt K mg) : FnOk P w K mg base CX0 1 T.a_InvalidNumber_init_ T.fd_InvalidNumber_init_ ["self", "number"] (sp_InvalidNumber_init_ K) := by
  have S := sc_InvalidNumber_init_
  refine T.F_InvalidNumber_init_.ok S (fun vs H Q E h => ?_) (fun cdv A outer s H vs Q E hr h => ?_)
  · obtain ⟨a, C, v, rfl, _⟩ := h
    rfl
  · obtain ⟨a, C, v, rfl, O, hn, ha, k⟩ := h
    refine ⟨_, (pss_one (ps_ost (pv 0) (pv 1))), ?_⟩
    exact ⟨_, rfl, _, rfl, a, C, rfl, O, hn, .inl ⟨ha, k⟩⟩
abbrev sp_InvalidSetting_init_ (K : PySem.W.Frag) : Sp := sp_xinit K "setting"
theorem ok_InvalidSetting_init_ (T : Txt K mg) : FnOk P w K mg base CX0 1 T.a_InvalidSetting_init_ T.fd_InvalidSetting_init_ ["self", "setting"] (sp_InvalidSetting_init_ K) := by
  have S := sc_InvalidSetting_init_
  refine T.F_InvalidSetting_init_.ok S (fun vs H Q E h => ?_) (fun cdv A outer s H vs Q E hr h => ?_)
  · obtain ⟨a, C, v, rfl, _⟩ := h
    rfl
  · obtain ⟨a, C, v, rfl, O, hn, ha, k⟩ := h
    refine ⟨_, (pss_one (ps_ost (pv 0) (pv 1))), ?_⟩
    exact ⟨_, rfl, _, rfl, a, C, rfl, O, hn, .inl ⟨ha, k⟩⟩
/-- an error of the class at C with the one field f -/
def Err (C : Addr) (f : Str) (v : V) (H : Hp) (E : XK) : Prop := ∀ d H', Same H H' → H' d = some (.xd [(f, v)]) → E (.ref C) (some d) H'
/-- x lies not in lo .. hi -/
def Out (K : PySem.W.Frag) (H : Hp) (x : V) (lo hi : Int) : Prop := ∃ o, Kd K H x o ∧ inR lo hi o = false
theorem Out.same {K : PySem.W.Frag} {H H' : Hp} {x : V} {lo hi : Int} (h : Out K H x lo hi) (s : Same H H') : Out K H' x lo hi := h.elim fun o h => ⟨o, h.1.same s, h.2⟩
theorem Out.typ {K : PySem.W.Frag} {H H' : Hp} {x : V} {lo hi : Int} (h : Out K H x lo hi) (s : Typ H H') : Out K H' x lo hi := h.elim fun o h => ⟨o, h.1.typ s, h.2⟩
theorem Out.int {K : PySem.W.Frag} {H : Hp} {n lo hi : Int} (h : n < lo ∨ hi < n) : Out K H (.int n) lo hi := ⟨some n, rfl, by
  show (decide (lo ≤ n) && decide (n ≤ hi)) = false
  rcases h with h | h
  · rw [decide_eq_false (show ¬ lo ≤ n by omega)]; rfl
  · rw [decide_eq_false (show ¬ n ≤ hi by omega), Bool.and_false]⟩
theorem Out.odd {K : PySem.W.Frag} {H : Hp} {x : V} {lo hi : Int} (h : IntK K H x false) : Out K H x lo hi := ⟨none, h, rfl⟩
theorem out_between {K : PySem.W.Frag} {H : Hp} {Q : VK} {x : V} {lo hi : Int} {E : XK} (h : Out K H x lo hi) (q : Q (.bl false) H) : sp_is_between K [x, .int lo, .int hi] H Q E := by
  obtain ⟨o, h1, h2⟩ := h
  cases o with
  | none => exact ⟨x, lo, hi, rfl, .inr ⟨h1, q⟩⟩
  | some n => exact ⟨x, lo, hi, rfl, .inl ⟨n, h1, by rw [show (decide (lo ≤ n) && decide (n ≤ hi)) = false from h2]; exact q⟩⟩
theorem in_between {K : PySem.W.Frag} {H : Hp} {Q : VK} {n lo hi : Int} {E : XK} (h1 : lo ≤ n) (h2 : n ≤ hi) (q : Q (.bl true) H) : sp_is_between K [.int n, .int lo, .int hi] H Q E :=
  ⟨.int n, lo, hi, rfl, .inl ⟨n, rfl, by rw [decide_eq_true h1, decide_eq_true h2]; exact q⟩⟩
/-- x is no count -/
def Less (K : PySem.W.Frag) (H : Hp) (x : V) (lo : Int) : Prop := (∃ n, x = .int n ∧ n < lo) ∨ IntK K H x false
theorem Less.same {K : PySem.W.Frag} {H H' : Hp} {x : V} {lo : Int} (h : Less K H x lo) (s : Same H H') : Less K H' x lo := h.elim .inl fun h => .inr (h.same s)
/-- menus of a try: what is caught, and what e is -/
theorem errX {K : PySem.W.Frag} {a D dd : Addr} {fs : List (Str × V)} {c : V} {cv : Value} {b : Bool} {H : Hp} {Q : VK} (hcv : ∀ u, RelV c u → u = cv) (ec : ExcC K D) (hd : H dd = some (.xd fs)) (hk : PySem.W.kitOne K (.ref D) cv = some b) (q : Q (.bl b) H) : rIsX K a (.ref D) (some dd) [.ref a, c] H Q := ⟨c, cv, b, D, dd, fs, rfl, hcv, rfl, ec, rfl, hd, hk, q⟩
theorem errF {K : PySem.W.Frag} {a C dd : Addr} {f : Str} {fs : List (Str × V)} {v : V} {H : Hp} {P : V → Prop} (T : XfC K C) (hn : PySem.W.findIn K (.ref C) f = some none) (hd : H dd = some (.xd fs)) (e : fs.lookup f = some v) (q : P v) :
    V.ref a = V.ref a ∧ ∃ (C' dd' : Addr) (fs : List (Str × V)) (v : V), Value.ref C = .ref C' ∧ XfC K C' ∧ PySem.W.findIn K (.ref C') f = some none ∧ some dd = some dd' ∧ H dd' = some (.xd fs) ∧ fs.lookup f = some v ∧ P v := ⟨rfl, C, dd, fs, v, rfl, T, hn, rfl, hd, e, q⟩
section
variable {K : PySem.W.Frag} {σ : L2.St} {H : Hp} {Q : VK} {v : V} {te : TE} {D : Ends} {i : Nat}
theorem x_xg {a : Addr} {cls : Value} {d : Option Addr} {f : Str} (q : te σ H fun x H1 => x = .ref a ∧ ∃ (C dd : Addr) (fs : List (Str × V)) (v : V), cls = .ref C ∧ XfC K C ∧ PySem.W.findIn K (.ref C) f = some none ∧ d = some dd ∧ H1 dd = some (.xd fs) ∧ fs.lookup f = some v ∧ Q v H1) : tXg K a cls d f te σ H Q := q
theorem x_clgo {a : Addr} {ts : TS} (q : ts (unN D i) (σ.set i (some (.ref a))) H) : clGo D (some i) ts a σ H := q
theorem x_methX {C : Addr} {m : Str} {sp : Sp} {E : L2.St → XK} {ta : TE} {t : TA} (q : ta σ H fun x H1 => ∃ a dx fs, x = .ref a ∧ H1 a = some (.ins C dx fs) ∧ fs.lookup m = none ∧ t σ H1 fun vs H2 => sp (x :: vs) H2 Q (E σ)) : tMethX C m sp E ta t σ H Q := q
theorem x_unrt (q : D.rt v H) : (unN D i).rt v H := q
theorem x_unnx (q : D.nx (σ.set i none) H) : (unN D i).nx σ H := q
end
theorem len2 {α : Type} {l : List α} (h : l.length = 2) : ∃ a b, l = [a, b] := by
  match l, h with
  | [a, b], _ => exact ⟨a, b, rfl⟩
theorem len4 {α : Type} {l : List α} (h : l.length = 4) : ∃ a b c d, l = [a, b, c, d] := by
  match l, h with
  | [a, b, c, d], _ => exact ⟨a, b, c, d, rfl⟩
local macro_rules
  | `(tactic| w_up) => `(tactic| first | with_reducible refine x_clgo ?_ | with_reducible refine x_methX ?_ | with_reducible refine x_xg ?_ | with_reducible refine x_unrt ?_ | with_reducible refine x_unnx ?_)
/-! ### values that are no numbers, by themselves -/
/-- a value that can be told and compared -/
structure Vl (K : PySem.W.Frag) (H : Hp) (x : V) : Prop where
  ex : ∃ (t : Value) (b : Bool) (d : PyData), TyX K H x t ∧ PySem.W.kitOne K t (.type "bool") = some b ∧ Dp K H x d ∧ PySem.SeqAt.shaped d = true
theorem Vl.int {K : PySem.W.Frag} {H : Hp} (n : Int) : Vl K H (.int n) := ⟨.type "int", false, .int n, .base (.int n), kit_ty (by decide +kernel), .int n, by
  unfold PySem.SeqAt.shaped
  simp only [PyData.canLay0, PyData.depth]
  rfl⟩
theorem str_ok : ∀ n : Nat, n < 1500 → PySem.SeqAt.shaped (.str (toString (n : Int))) = true := by decide +kernel
mutual
theorem Dp.sm {K : PySem.W.Frag} {H H' : Hp} (s : Same H H') : ∀ (d : PyData) (x : V), Dp K H x d → Dp K H' x d
  | _, _, .non => .non
  | _, _, .bl b => .bl b
  | _, _, .int i => .int i
  | _, _, .str x => .str x
  | _, _, .lst h hs => .lst (s.seq h) (DpAll.sm s _ _ hs)
  | _, _, .tup h hs => .tup (sqT_sm h s) (DpAll.sm s _ _ hs)
theorem DpAll.sm {K : PySem.W.Frag} {H H' : Hp} (s : Same H H') : ∀ (ds : List PyData) (xs : List V), DpAll K H xs ds → DpAll K H' xs ds
  | _, _, .nil => .nil
  | _, _, .cons h hs => .cons (Dp.sm s _ _ h) (DpAll.sm s _ _ hs)
end
theorem Vl.sm {K : PySem.W.Frag} {H H' : Hp} {x : V} (h : Vl K H x) (s : Same H H') : Vl K H' x := by
  obtain ⟨t, b, d, h1, h2, h3, h4⟩ := h.ex
  exact ⟨t, b, d, tyX_same h1 s, h2, Dp.sm s _ _ h3, h4⟩
/-- a value that is no number -/
def Odd (K : PySem.W.Frag) (H : Hp) (x : V) : Prop := IntK K H x false ∧ Vl K H x
theorem Odd.mk' {K : PySem.W.Frag} {H : Hp} {x : V} {n : String} {i b : Bool} {d : PyData} (t : TyX K H x (.type n)) (h1 : kitB n "int" = some i) (h2 : kitB n "bool" = some b) (h : (i && !b) = false) (hd : Dp K H x d) (sh : PySem.SeqAt.shaped d = true) : Odd K H x :=
  ⟨intK_no t h1 h2 h, _, b, d, t, kit_ty h2, hd, sh⟩
theorem lay_tups (ns : List Int) : PySem.SeqAt.shaped (.tuple (ns.map PyData.int)) = true := by
  obtain ⟨h1, h2⟩ := lay_all ns
  unfold PySem.SeqAt.shaped
  simp only [PyData.canLay0, PyData.depth, h1, h2]
  decide
theorem Odd.tup {K : PySem.W.Frag} {H : Hp} {t : Addr} {ns : List Int} (h : H t = some (.tup (ns.map V.int))) : Odd K H (.ref t) :=
  .mk' (.base (.tup h)) (i := false) (b := false) (by decide +kernel) (by decide +kernel) rfl (.tup (SqT.of h) (dp_ints ns)) (lay_tups ns)
theorem Odd.lst {K : PySem.W.Frag} {H : Hp} {t : Addr} {ns : List Int} (h : H t = some (.lst (ns.map V.int))) : Odd K H (.ref t) :=
  .mk' (.base (.lst h)) (i := false) (b := false) (by decide +kernel) (by decide +kernel) rfl (.lst (SqL.of h) (dp_ints ns)) (lay_ints ns)
theorem odd_str {K : PySem.W.Frag} {H : Hp} {n : Int} (h0 : 0 ≤ n) (h : n < 1500) : n.natAbs.log2 < 1920 ∧ Odd K H (.str (toString n)) := by
  obtain ⟨m, rfl⟩ : ∃ m : Nat, n = m := ⟨n.toNat, by omega⟩
  refine ⟨Nat.lt_trans (PySem.Flt.log2_lt_of (k := 62) (by decide) (by omega)) (by decide), ?_⟩
  exact .mk' (.base (.str _)) (i := false) (b := false) (by decide +kernel) (by decide +kernel) rfl (.str _) (str_ok m (by omega))
/-! ### an expression by one of two readings -/
def tEi (t u : TE) : TE := fun σ H Q => t σ H Q ∨ u σ H Q
theorem pe_ei {X : Cx} {e : Expr} {t u : TE} (h : PE X e t) (h' : PE X e u) : PE X e (tEi t u) := ⟨fun pins s σ H Q I q => q.elim (fun q => h.run pins s σ H Q I q) fun q => h'.run pins s σ H Q I q⟩
/-! ### defaults of a def with cells -/
theorem bindsX {K : PySem.W.Frag} {fd : FuncData} {T : Addr} {o : Obj} {its : List Value} {dvs : List V} {n m : Nat} {ps : List Str} (lT : K.lookup T = some o) (oT : o.data = .seq its.toArray m) (r : L2.Vals dvs its) (hn : n + dvs.length = ps.length)
    (h : ∀ us its : List Value, us.length = n → its.length = dvs.length → ∃ k, bindArgs fd ⟨us, []⟩ = seqItems? (.ref T) >>= k ∧ k (some its.toArray) = pure (ps.zip (us ++ its))) : Binds K fd ps its := fun s us X hlen => by
  have l1 : its.length = dvs.length := r.length.symm
  have l2 : us.length = n := by rw [List.length_append, l1] at hlen; omega
  obtain ⟨k, e1, e2⟩ := h us its l2 l1
  refine BindsTo.of_looks fun M => ?_
  rw [e1]
  exact looks_items X lT oT (.of_pure e2)
theorem bindsX0 {K : PySem.W.Frag} {fd : FuncData} {T : Addr} {o : Obj} {its : List Value} {dvs : List V} {m : Nat} {ps : List Str} (lT : K.lookup T = some o) (oT : o.data = .seq its.toArray m) (r : L2.Vals dvs its)
    (h : ∀ us its : List Value, us.length = ps.length → its.length = dvs.length → ∃ k, bindArgs fd ⟨us, []⟩ = seqItems? (.ref T) >>= k ∧ k (some its.toArray) = pure (ps.zip us)) : Binds K fd ps [] := fun s us X hlen => by
  have l1 : its.length = dvs.length := r.length.symm
  rw [List.append_nil] at hlen ⊢
  obtain ⟨k, e1, e2⟩ := h us its hlen l1
  refine BindsTo.of_looks fun M => ?_
  rw [e1]
  exact looks_items X lT oT (.of_pure e2)
/-! ### the state of a control -/
structure Cs where
  u : Int
  w : Int
  t : Int
  c : Int
  st : Bool
namespace NB

abbrev Cs := My.Cs
/-! ### a control, of the class Control -/
theorem cval {K : PySem.W.Frag} {C : Addr} {mc : Value} {f : Str} {v : V} {σ : L2.St} {H : Hp} {Q : VK} (R : ClX.CRead K C mc) (V : ∃ u, ClX.CVal K C mc f v u) (q : Q v H) : ClX.tCVal K (tC (.ref C)) f σ H Q :=
  V.elim fun u h => ⟨C, mc, v, u, rfl, R, h, q⟩
def CtAt (C : Addr) (H : Hp) (e : Addr) (x : Cs) : Prop := ∃ dx, H e = some (.ins C dx [("unit", .int x.u), ("window", .int x.w), ("threshold", .int x.t), ("credit", .int x.c), ("stalled", .bl x.st)])
theorem CtAt.same {C : Addr} {H H' : Hp} {e : Addr} {x : Cs} (h : CtAt C H e x) (s : Same H H') : CtAt C H' e x := h.elim fun dx h => ⟨dx, s _ _ h⟩
theorem CtAt.on {C : Addr} {H H' : Hp} {e b : Addr} {x : Cs} (h : CtAt C H e x) (s : SameX b H H') (n : e ≠ b) : CtAt C H' e x := h.elim fun dx h => ⟨dx, s _ _ n h⟩
def sp_require_new_bytes (K : PySem.W.Frag) (Ce : Addr) : Sp := fun vs H Q E => ∃ (x : V), vs = [x] ∧ ((∃ n, x = .int n ∧ 1 ≤ n ∧ n ≤ 65535 ∧ Q .non H) ∨ (Out K H x 1 65535 ∧ Err Ce "number" x H E))
theorem ok_require_new_bytes (T : Txt K mg) : FnOk P w K mg base (L2.CX P w) 3 T.a_require_new_bytes T.fd_require_new_bytes ["count"] (sp_require_new_bytes K T.c_InvalidNumber) := by
  have S := sc_require_new_bytes
  refine T.F_require_new_bytes.okX S (fun vs H Q E h => ?_) (fun cdv A outer s H vs Q E hr h => ?_)
  · obtain ⟨x, rfl, _⟩ := h
    rfl
  · obtain ⟨x, rfl, h⟩ := h
    refine ⟨_, (pss_one (ps_if (pt_not (pt_val (pe_call (ok_is_between T) (hr.mono (by decide)) rfl T.g_is_between T.F_is_between.kp T.B_is_between .nil pass0 (pa_cons (pv 0) (pa_cons pe_int (pa_cons pe_int pa_nil)))))) (pss_one (ps_raise rfl (takes_of rfl rfl rfl rfl) (pmk_oex T.X_InvalidNumber.o T.X_InvalidNumber.i T.X_InvalidNumber.t (ok_InvalidNumber_init_ T) (hr.mono (by decide)) T.B_InvalidNumber_init_ .nil pass0 rfl T.X_InvalidNumber.g (pa_cons (pv 0) pa_nil)))) pss_nil)), ?_⟩
    refine st_require_new_bytes ?_
    o_args
    rcases h with ⟨n, rfl, h1, h2, k⟩ | ⟨ho, hE⟩
    · refine in_between h1 h2 ?_
      o_args
      exact k
    · refine out_between ho ?_
      o_args
      exact ⟨_, rfl, mkO_of T.X_InvalidNumber.o T.nX_InvalidNumber fun d H1 nd ss hx => hE d H1 ss hx⟩
def Ct5 (C : Addr) (H : Hp) (e : Addr) (u : Int) : Prop := ∃ dx, H e = some (.ins C dx [("unit", .int u), ("window", .int (2 * u)), ("threshold", .int 4194304), ("credit", .int 0), ("stalled", .bl false)])
def sp_Control_init_ (C : Addr) : Sp := fun vs H Q _ => ∃ (p dx : Addr) (u : Int), vs = [.ref p, .int u] ∧ H p = some (.ins C dx []) ∧ 1 ≤ u ∧ u ≤ 65535 ∧ ∀ H', SameX p H H' → Ct5 C H' p u → Q .non H'
theorem ok_Control_init_ (T : Txt K mg) : FnOk P w K mg base (L2.CX P w) 3 T.a_Control_init_ T.fd_Control_init_ ["self", "unit"] (sp_Control_init_ T.c_Control) := by
  have S := sc_Control_init_
  refine T.F_Control_init_.okX S (fun vs H Q E h => ?_) (fun cdv A outer s H vs Q E hr h => ?_)
  · obtain ⟨p, dx, u, rfl, _⟩ := h
    rfl
  · obtain ⟨p, dx, u, rfl, hp, h1, h2, k⟩ := h
    refine ⟨_, (pss_cons (ps_if (pt_not (pt_val (pe_call (ok_is_between T) (hr.mono (by decide)) rfl T.g_is_between T.F_is_between.kp T.B_is_between .nil pass0 (pa_cons (pv 1) (pa_cons pe_int (pa_cons pe_int pa_nil)))))) (pss_one (ps_raise rfl (takes_of rfl rfl rfl rfl) (pmk_oex T.X_InvalidSetting.o T.X_InvalidSetting.i T.X_InvalidSetting.t (ok_InvalidSetting_init_ T) (hr.mono (by decide)) T.B_InvalidSetting_init_ .nil pass0 rfl T.X_InvalidSetting.g (pa_cons pe_str pa_nil)))) pss_nil)
      (pss_cons (ps_fld (pv 0) (pv 1) rfl)
      (pss_cons (ps_fld (pv 0) (pe_op op_mul pe_int (pv 1)) rfl)
      (pss_cons (ps_fld (pv 0) (ClX.pe_cval (pe_glob (v := .ref T.c_Control) rfl T.g_Control rfl)) rfl)
      (pss_cons (ps_fld (pv 0) pe_int rfl)
      (pss_one (ps_fld (pv 0) pe_bl rfl))))))), ?_⟩
    refine st_Control_init_ ?_
    o_args
    refine in_between h1 h2 ?_
    o_args
    refine fstore hp T.cl_Control T.n_Control_unit (Nat.le_of_ble_eq_true rfl) rfl fun H1 s1 h1 => ?_
    o_args
    refine fstore h1 T.cl_Control T.n_Control_window (Nat.le_of_ble_eq_true rfl) rfl fun H2 s2 h2 => ?_
    o_args
    refine cval T.R_Control T.V_Control_GREATEST ?_
    o_args
    refine fstore h2 T.cl_Control T.n_Control_threshold (Nat.le_of_ble_eq_true rfl) rfl fun H3 s3 h3 => ?_
    o_args
    refine fstore h3 T.cl_Control T.n_Control_credit (Nat.le_of_ble_eq_true rfl) rfl fun H4 s4 h4 => ?_
    o_args
    refine fstore h4 T.cl_Control T.n_Control_stalled (Nat.le_of_ble_eq_true rfl) rfl fun H5 s5 h5 => ?_
    o_args
    exact k H5 ((((s1.trans s2).trans s3).trans s4).trans s5) ⟨dx, h5⟩
def sp_Control_starting (C : Addr) : Sp := fun vs H Q _ => ∃ (e : Addr) (x : Cs), vs = [.ref e] ∧ CtAt C H e x ∧ Q (.bl (decide (x.w < x.t))) H
theorem ok_Control_starting (T : Txt K mg) : FnOk P w K mg base CX0 1 T.a_Control_starting T.fd_Control_starting ["self"] (sp_Control_starting T.c_Control) := by
  have S := sc_Control_starting
  refine T.F_Control_starting.ok S (fun vs H Q E h => ?_) (fun cdv A outer s H vs Q E hr h => ?_)
  · obtain ⟨e, x, rfl, _⟩ := h
    rfl
  · obtain ⟨e, x, rfl, ⟨dx, he⟩, k⟩ := h
    refine ⟨_, (pss_one (ps_ret (pe_cmpR op_lt (pe_fld (pv 0) rfl) (pe_fld (pv 0) rfl) (nomark _)))), ?_⟩
    refine st_Control_starting ?_
    o_args
    refine fget he T.cl_Control T.n_Control_window rfl ?_
    o_args
    refine fget he T.cl_Control T.n_Control_threshold rfl ?_
    o_args
    exact k
def sp_Control_set_window (C : Addr) : Sp := fun vs H Q _ => ∃ (e : Addr) (x : Cs) (n : Int), vs = [.ref e, .int n] ∧ CtAt C H e x ∧ ∀ H', SameX e H H' → CtAt C H' e { x with w := min n 4194304 } → Q .non H'
theorem ok_Control_set_window (T : Txt K mg) : FnOk P w K mg base CX0 1 T.a_Control_set_window T.fd_Control_set_window ["self", "window"] (sp_Control_set_window T.c_Control) := by
  have S := sc_Control_set_window
  refine T.F_Control_set_window.ok S (fun vs H Q E h => ?_) (fun cdv A outer s H vs Q E hr h => ?_)
  · obtain ⟨e, x, n, rfl, _⟩ := h
    rfl
  · obtain ⟨e, x, n, rfl, ⟨dx, he⟩, k⟩ := h
    refine ⟨_, (pss_one (ps_fld (pv 0) (pe_callB (id := "min") (call_min2K rfl) (by rfl) T.b_min (by decide +kernel) (pa_cons (pv 1) (pa_cons (ClX.pe_cval (pe_glob (v := .ref T.c_Control) rfl T.g_Control rfl)) pa_nil))) rfl)), ?_⟩
    refine st_Control_set_window ?_
    o_args
    refine cval T.R_Control T.V_Control_GREATEST ?_
    o_args
    refine fstore he T.cl_Control T.n_Control_window (Nat.le_of_ble_eq_true rfl) rfl fun H1 s1 h1 => ?_
    o_args
    exact k H1 s1 ⟨dx, h1⟩
def Cs.lost (x : Cs) (f : Int) : Cs := { x with t := max (f / 2) (2 * x.u), w := min (max (f / 2) (2 * x.u)) 4194304, c := 0 }
def sp_Control_on_loss (C : Addr) : Sp := fun vs H Q _ => ∃ (e : Addr) (x : Cs) (f : Int) (n : V), vs = [.ref e, .int f, n] ∧ CtAt C H e x ∧ 0 ≤ f ∧ ∀ H', SameX e H H' → CtAt C H' e (x.lost f) → Q .non H'
theorem ok_Control_on_loss (T : Txt K mg) : FnOk P w K mg base CX0 2 T.a_Control_on_loss T.fd_Control_on_loss ["self", "flight", "now"] (sp_Control_on_loss T.c_Control) := by
  have S := sc_Control_on_loss
  refine T.F_Control_on_loss.ok S (fun vs H Q E h => ?_) (fun cdv A outer s H vs Q E hr h => ?_)
  · obtain ⟨e, x, f, n, rfl, _⟩ := h
    rfl
  · obtain ⟨e, x, f, n, rfl, ⟨dx, he⟩, f0, k⟩ := h
    refine ⟨_, (pss_cons (ps_fld (pv 0) (pe_callB (id := "max") (call_max2K rfl) (by rfl) T.b_max (by decide +kernel) (pa_cons (pe_op op_fdiv (pv 1) pe_int) (pa_cons (pe_op op_mul pe_int (pe_fld (pv 0) rfl)) pa_nil))) rfl)
      (pss_cons (ps_expr (pe_meth (pv 0) T.cl_Control T.m_Control_set_window (ok_Control_set_window T) (hr.mono (by decide)) T.B_Control_set_window .nil pass0 (pa_cons (pe_fld (pv 0) rfl) pa_nil)))
      (pss_one (ps_fld (pv 0) pe_int rfl)))), ?_⟩
    refine st_Control_on_loss ?_
    o_args
    refine fget he T.cl_Control T.n_Control_unit rfl ?_
    o_args
    refine fstore he T.cl_Control T.n_Control_threshold (Nat.le_of_ble_eq_true rfl) rfl fun H1 s1 h1 => ?_
    o_args
    refine ⟨e, dx, _, rfl, h1, rfl, ?_⟩
    o_args
    refine fget h1 T.cl_Control T.n_Control_threshold rfl ?_
    o_args
    refine ⟨e, { x with t := max (f / 2) (2 * x.u) }, _, rfl, ⟨dx, h1⟩, fun H2 s2 ⟨dy, h2⟩ => ?_⟩
    o_args
    refine fstore h2 T.cl_Control T.n_Control_credit (Nat.le_of_ble_eq_true rfl) rfl fun H3 s3 h3 => ?_
    o_args
    exact k H3 ((s1.trans s2).trans s3) ⟨dy, h3⟩
def Cs.expired (x : Cs) (f : Int) : Cs := { x with t := if x.st = true then x.t else max (f / 2) (2 * x.u), w := x.u, c := 0, st := true }
def sp_Control_on_expiry (C : Addr) : Sp := fun vs H Q _ => ∃ (e : Addr) (x : Cs) (f : Int) (n : V), vs = [.ref e, .int f, n] ∧ CtAt C H e x ∧ 0 ≤ f ∧ ∀ H', SameX e H H' → CtAt C H' e (x.expired f) → Q .non H'
theorem ok_Control_on_expiry (T : Txt K mg) : FnOk P w K mg base CX0 1 T.a_Control_on_expiry T.fd_Control_on_expiry ["self", "flight", "now"] (sp_Control_on_expiry T.c_Control) := by
  have S := sc_Control_on_expiry
  refine T.F_Control_on_expiry.ok S (fun vs H Q E h => ?_) (fun cdv A outer s H vs Q E hr h => ?_)
  · obtain ⟨e, x, f, n, rfl, _⟩ := h
    rfl
  · obtain ⟨e, x, f, n, rfl, ⟨dx, he⟩, f0, k⟩ := h
    refine ⟨_, (pss_cons (ps_if (pt_not (pt_val (pe_fld (pv 0) rfl))) (pss_one (ps_fld (pv 0) (pe_callB (id := "max") (call_max2K rfl) (by rfl) T.b_max (by decide +kernel) (pa_cons (pe_op op_fdiv (pv 1) pe_int) (pa_cons (pe_op op_mul pe_int (pe_fld (pv 0) rfl)) pa_nil))) rfl)) pss_nil)
      (pss_cons (ps_fld (pv 0) (pe_fld (pv 0) rfl) rfl)
      (pss_cons (ps_fld (pv 0) pe_int rfl)
      (pss_one (ps_fld (pv 0) pe_bl rfl))))), ?_⟩
    refine st_Control_on_expiry ?_
    o_args
    refine fget he T.cl_Control T.n_Control_stalled rfl ?_
    unfold Cs.expired at k
    cases hst : x.st with
    | true =>
      rw [hst, if_pos rfl] at k
      rw [hst] at he
      o_args
      refine fget he T.cl_Control T.n_Control_unit rfl ?_
      o_args
      refine fstore he T.cl_Control T.n_Control_window (Nat.le_of_ble_eq_true rfl) rfl fun H1 s1 h1 => ?_
      o_args
      refine fstore h1 T.cl_Control T.n_Control_credit (Nat.le_of_ble_eq_true rfl) rfl fun H2 s2 h2 => ?_
      o_args
      refine fstore h2 T.cl_Control T.n_Control_stalled (Nat.le_of_ble_eq_true rfl) rfl fun H3 s3 h3 => ?_
      o_args
      exact k H3 ((s1.trans s2).trans s3) ⟨dx, h3⟩
    | false =>
      rw [hst, if_neg Bool.false_ne_true] at k
      rw [hst] at he
      o_args
      refine fget he T.cl_Control T.n_Control_unit rfl ?_
      o_args
      refine fstore he T.cl_Control T.n_Control_threshold (Nat.le_of_ble_eq_true rfl) rfl fun H0 s0 h0 => ?_
      o_args
      refine fget h0 T.cl_Control T.n_Control_unit rfl ?_
      o_args
      refine fstore h0 T.cl_Control T.n_Control_window (Nat.le_of_ble_eq_true rfl) rfl fun H1 s1 h1 => ?_
      o_args
      refine fstore h1 T.cl_Control T.n_Control_credit (Nat.le_of_ble_eq_true rfl) rfl fun H2 s2 h2 => ?_
      o_args
      refine fstore h2 T.cl_Control T.n_Control_stalled (Nat.le_of_ble_eq_true rfl) rfl fun H3 s3 h3 => ?_
      o_args
      exact k H3 (((s0.trans s1).trans s2).trans s3) ⟨dx, h3⟩
def sp_Control_on_sample : Sp := fun vs H Q _ => ∃ (e n : V), vs = [e, n] ∧ Q .non H
theorem ok_Control_on_sample (T : Txt K mg) : FnOk P w K mg base CX0 1 T.a_Control_on_sample T.fd_Control_on_sample ["self", "ticks"] (sp_Control_on_sample) := by
  have S := sc_Control_on_sample
  refine T.F_Control_on_sample.ok S (fun vs H Q E h => ?_) (fun cdv A outer s H vs Q E hr h => ?_)
  · obtain ⟨e, n, rfl, _⟩ := h
    rfl
  · obtain ⟨e, n, rfl, k⟩ := h
    refine ⟨_, (pss_one ps_pass), ?_⟩
    refine st_Control_on_sample ?_
    o_args
    exact k
def Cs.acked (x : Cs) (n f : Int) : Cs := if 2 * (f + n) < x.w then { x with st := false } else if x.w < x.t then { x with st := false, w := min (x.w + min n x.u) 4194304 } else { x with st := false }
def sp_Control_grow (K : PySem.W.Frag) (C Ce : Addr) : Sp := fun vs H Q E => ∃ (e : Addr) (v now : V) (x : Cs), vs = [.ref e, v, now] ∧ CtAt C H e x ∧
  ((∃ n, v = .int n ∧ 1 ≤ n ∧ n ≤ 65535 ∧ Q .non H) ∨ (Out K H v 1 65535 ∧ Err Ce "number" v H E))
theorem ok_Control_grow (T : Txt K mg) : FnOk P w K mg base (L2.CX P w) 4 T.a_Control_grow T.fd_Control_grow ["self", "count", "now"] (sp_Control_grow K T.c_Control T.c_InvalidNumber) := by
  have S := sc_Control_grow
  refine T.F_Control_grow.okX S (fun vs H Q E h => ?_) (fun cdv A outer s H vs Q E hr h => ?_)
  · obtain ⟨e, v, now, x, rfl, _⟩ := h
    rfl
  · obtain ⟨e, v, now, x, rfl, hc, h⟩ := h
    refine ⟨_, (pss_one (ps_expr (pe_call (ok_require_new_bytes T) (hr.mono (by decide)) rfl T.g_require_new_bytes T.F_require_new_bytes.kp T.B_require_new_bytes .nil (passes_call (takes_of rfl rfl rfl rfl) (fun _ _ _ _ h => h)) (pa_cons (pv 1) pa_nil)))), ?_⟩
    refine st_Control_grow ?_
    o_args
    rcases h with ⟨n, rfl, n1, n2, k⟩ | ⟨ho, hE⟩
    · refine ⟨_, rfl, .inl ⟨n, rfl, n1, n2, ?_⟩⟩
      o_args
      exact k
    · exact ⟨_, rfl, .inr ⟨ho, hE⟩⟩
def sp_Control_on_ack (K : PySem.W.Frag) (C Ce : Addr) : Sp := fun vs H Q E => ∃ (e : Addr) (v now : V) (f : Int) (x : Cs), vs = [.ref e, v, .int f, now] ∧ CtAt C H e x ∧
  ((∃ n, v = .int n ∧ 1 ≤ n ∧ n ≤ 65535 ∧ ∀ H', SameX e H H' → CtAt C H' e (x.acked n f) → Q .non H') ∨ (Out K H v 1 65535 ∧ Err Ce "number" v H E))
theorem ok_Control_on_ack (T : Txt K mg) : FnOk P w K mg base (L2.CX P w) 5 T.a_Control_on_ack T.fd_Control_on_ack ["self", "count", "flight", "now"] (sp_Control_on_ack K T.c_Control T.c_InvalidNumber) := by
  have S := sc_Control_on_ack
  refine T.F_Control_on_ack.okX S (fun vs H Q E h => ?_) (fun cdv A outer s H vs Q E hr h => ?_)
  · obtain ⟨e, v, now, f, x, rfl, _⟩ := h
    rfl
  · obtain ⟨e, v, now, f, x, rfl, ⟨dx, he⟩, h⟩ := h
    refine ⟨_, (pss_cons (ps_expr (pe_call (ok_require_new_bytes T) (hr.mono (by decide)) rfl T.g_require_new_bytes T.F_require_new_bytes.kp T.B_require_new_bytes .nil (passes_call (takes_of rfl rfl rfl rfl) (fun _ _ _ _ h => h)) (pa_cons (pv 1) pa_nil)))
      (pss_cons (ps_fld (pv 0) pe_bl rfl)
      (pss_cons (ps_if (pt_cmpR op_lt (pe_op op_mul pe_int (pe_op op_add (pv 2) (pv 1))) (pe_fld (pv 0) rfl) (nomark _)) (pss_one ps_retN) pss_nil)
      (pss_one (ps_if (pt_val (pe_prop (pv 0) T.cl_Control T.PR_Control_starting (ok_Control_starting T) (hr.mono (by decide)) T.B_Control_starting .nil pass0 rfl)) (pss_one (ps_expr (pe_meth (pv 0) T.cl_Control T.m_Control_set_window (ok_Control_set_window T) (hr.mono (by decide)) T.B_Control_set_window .nil pass0 (pa_cons (pe_op op_add (pe_fld (pv 0) rfl) (pe_callB (id := "min") (call_min2K rfl) (by rfl) T.b_min (by decide +kernel) (pa_cons (pv 1) (pa_cons (pe_fld (pv 0) rfl) pa_nil)))) pa_nil)))) (pss_one (ps_expr (pe_meth (pv 0) T.cl_Control T.m_Control_grow (ok_Control_grow T) (hr.mono (by decide)) T.B_Control_grow .nil (passes_call (takes_of rfl rfl rfl rfl) (fun _ _ _ _ h => h)) (pa_cons (pv 1) (pa_cons (pv 3) pa_nil)))))))))), ?_⟩
    refine st_Control_on_ack ?_
    o_args
    rcases h with ⟨n, rfl, n1, n2, k⟩ | ⟨ho, hE⟩
    · unfold Cs.acked at k
      refine ⟨_, rfl, .inl ⟨n, rfl, n1, n2, ?_⟩⟩
      o_args
      refine fstore he T.cl_Control T.n_Control_stalled (Nat.le_of_ble_eq_true rfl) rfl fun H1 s1 h1 => ?_
      o_args
      refine fget h1 T.cl_Control T.n_Control_window rfl ?_
      o_args
      refine brD (fun q => ?_) (fun q => ?_)
      · o_args
        rw [if_pos q] at k
        exact k H1 s1 ⟨dx, h1⟩
      rw [if_neg q] at k
      o_args
      refine ⟨e, dx, _, rfl, h1, e, { x with st := false }, rfl, ⟨dx, h1⟩, ?_⟩
      o_args
      refine brD (fun q' => ?_) (fun q' => ?_)
      · o_args
        refine ⟨e, dx, _, rfl, h1, rfl, ?_⟩
        o_args
        refine fget h1 T.cl_Control T.n_Control_window rfl ?_
        o_args
        refine fget h1 T.cl_Control T.n_Control_unit rfl ?_
        o_args
        refine ⟨e, { x with st := false }, _, rfl, ⟨dx, h1⟩, fun H2 s2 h2 => ?_⟩
        o_args
        rw [if_pos q'] at k
        exact k H2 (s1.trans s2) h2
      · o_args
        refine ⟨e, dx, _, rfl, h1, rfl, ?_⟩
        o_args
        refine ⟨e, _, _, { x with st := false }, rfl, ⟨dx, h1⟩, .inl ⟨n, rfl, n1, n2, ?_⟩⟩
        o_args
        rw [if_neg q'] at k
        exact k H1 s1 ⟨dx, h1⟩
    · exact ⟨_, rfl, .inr ⟨ho, hE⟩⟩
end NB
namespace NF

abbrev Cs := My.Cs
/-! ### a control, of the class Fixed -/
theorem cval {K : PySem.W.Frag} {C : Addr} {mc : Value} {f : Str} {v : V} {σ : L2.St} {H : Hp} {Q : VK} (R : ClX.CRead K C mc) (V : ∃ u, ClX.CVal K C mc f v u) (q : Q v H) : ClX.tCVal K (tC (.ref C)) f σ H Q :=
  V.elim fun u h => ⟨C, mc, v, u, rfl, R, h, q⟩
def CtAt (C : Addr) (H : Hp) (e : Addr) (x : Cs) : Prop := ∃ dx, H e = some (.ins C dx [("unit", .int x.u), ("window", .int x.w), ("threshold", .int x.t), ("credit", .int x.c), ("stalled", .bl x.st)])
theorem CtAt.same {C : Addr} {H H' : Hp} {e : Addr} {x : Cs} (h : CtAt C H e x) (s : Same H H') : CtAt C H' e x := h.elim fun dx h => ⟨dx, s _ _ h⟩
theorem CtAt.on {C : Addr} {H H' : Hp} {e b : Addr} {x : Cs} (h : CtAt C H e x) (s : SameX b H H') (n : e ≠ b) : CtAt C H' e x := h.elim fun dx h => ⟨dx, s _ _ n h⟩
def sp_require_new_bytes (K : PySem.W.Frag) (Ce : Addr) : Sp := fun vs H Q E => ∃ (x : V), vs = [x] ∧ ((∃ n, x = .int n ∧ 1 ≤ n ∧ n ≤ 65535 ∧ Q .non H) ∨ (Out K H x 1 65535 ∧ Err Ce "number" x H E))
theorem ok_require_new_bytes (T : Txt K mg) : FnOk P w K mg base (L2.CX P w) 3 T.a_require_new_bytes T.fd_require_new_bytes ["count"] (sp_require_new_bytes K T.c_InvalidNumber) := by
  have S := sc_require_new_bytes
  refine T.F_require_new_bytes.okX S (fun vs H Q E h => ?_) (fun cdv A outer s H vs Q E hr h => ?_)
  · obtain ⟨x, rfl, _⟩ := h
    rfl
  · obtain ⟨x, rfl, h⟩ := h
    refine ⟨_, (pss_one (ps_if (pt_not (pt_val (pe_call (ok_is_between T) (hr.mono (by decide)) rfl T.g_is_between T.F_is_between.kp T.B_is_between .nil pass0 (pa_cons (pv 0) (pa_cons pe_int (pa_cons pe_int pa_nil)))))) (pss_one (ps_raise rfl (takes_of rfl rfl rfl rfl) (pmk_oex T.X_InvalidNumber.o T.X_InvalidNumber.i T.X_InvalidNumber.t (ok_InvalidNumber_init_ T) (hr.mono (by decide)) T.B_InvalidNumber_init_ .nil pass0 rfl T.X_InvalidNumber.g (pa_cons (pv 0) pa_nil)))) pss_nil)), ?_⟩
    refine st_require_new_bytes ?_
    o_args
    rcases h with ⟨n, rfl, h1, h2, k⟩ | ⟨ho, hE⟩
    · refine in_between h1 h2 ?_
      o_args
      exact k
    · refine out_between ho ?_
      o_args
      exact ⟨_, rfl, mkO_of T.X_InvalidNumber.o T.nX_InvalidNumber fun d H1 nd ss hx => hE d H1 ss hx⟩
def Ct5 (C : Addr) (H : Hp) (e : Addr) (u : Int) : Prop := ∃ dx, H e = some (.ins C dx [("unit", .int u), ("window", .int (2 * u)), ("threshold", .int 4194304), ("credit", .int 0), ("stalled", .bl false)])
def sp_Control_init_ (C : Addr) : Sp := fun vs H Q _ => ∃ (p dx : Addr) (u : Int), vs = [.ref p, .int u] ∧ H p = some (.ins C dx []) ∧ 1 ≤ u ∧ u ≤ 65535 ∧ ∀ H', SameX p H H' → Ct5 C H' p u → Q .non H'
theorem ok_Control_init_ (T : Txt K mg) : FnOk P w K mg base (L2.CX P w) 3 T.a_Control_init_ T.fd_Control_init_ ["self", "unit"] (sp_Control_init_ T.c_Fixed) := by
  have S := sc_Control_init_
  refine T.F_Control_init_.okX S (fun vs H Q E h => ?_) (fun cdv A outer s H vs Q E hr h => ?_)
  · obtain ⟨p, dx, u, rfl, _⟩ := h
    rfl
  · obtain ⟨p, dx, u, rfl, hp, h1, h2, k⟩ := h
    refine ⟨_, (pss_cons (ps_if (pt_not (pt_val (pe_call (ok_is_between T) (hr.mono (by decide)) rfl T.g_is_between T.F_is_between.kp T.B_is_between .nil pass0 (pa_cons (pv 1) (pa_cons pe_int (pa_cons pe_int pa_nil)))))) (pss_one (ps_raise rfl (takes_of rfl rfl rfl rfl) (pmk_oex T.X_InvalidSetting.o T.X_InvalidSetting.i T.X_InvalidSetting.t (ok_InvalidSetting_init_ T) (hr.mono (by decide)) T.B_InvalidSetting_init_ .nil pass0 rfl T.X_InvalidSetting.g (pa_cons pe_str pa_nil)))) pss_nil)
      (pss_cons (ps_fld (pv 0) (pv 1) rfl)
      (pss_cons (ps_fld (pv 0) (pe_op op_mul pe_int (pv 1)) rfl)
      (pss_cons (ps_fld (pv 0) (ClX.pe_cval (pe_glob (v := .ref T.c_Control) rfl T.g_Control rfl)) rfl)
      (pss_cons (ps_fld (pv 0) pe_int rfl)
      (pss_one (ps_fld (pv 0) pe_bl rfl))))))), ?_⟩
    refine st_Control_init_ ?_
    o_args
    refine in_between h1 h2 ?_
    o_args
    refine fstore hp T.cl_Fixed T.n_Fixed_unit (Nat.le_of_ble_eq_true rfl) rfl fun H1 s1 h1 => ?_
    o_args
    refine fstore h1 T.cl_Fixed T.n_Fixed_window (Nat.le_of_ble_eq_true rfl) rfl fun H2 s2 h2 => ?_
    o_args
    refine cval T.R_Control T.V_Control_GREATEST ?_
    o_args
    refine fstore h2 T.cl_Fixed T.n_Fixed_threshold (Nat.le_of_ble_eq_true rfl) rfl fun H3 s3 h3 => ?_
    o_args
    refine fstore h3 T.cl_Fixed T.n_Fixed_credit (Nat.le_of_ble_eq_true rfl) rfl fun H4 s4 h4 => ?_
    o_args
    refine fstore h4 T.cl_Fixed T.n_Fixed_stalled (Nat.le_of_ble_eq_true rfl) rfl fun H5 s5 h5 => ?_
    o_args
    exact k H5 ((((s1.trans s2).trans s3).trans s4).trans s5) ⟨dx, h5⟩
def sp_Control_starting (C : Addr) : Sp := fun vs H Q _ => ∃ (e : Addr) (x : Cs), vs = [.ref e] ∧ CtAt C H e x ∧ Q (.bl (decide (x.w < x.t))) H
theorem ok_Control_starting (T : Txt K mg) : FnOk P w K mg base CX0 1 T.a_Control_starting T.fd_Control_starting ["self"] (sp_Control_starting T.c_Fixed) := by
  have S := sc_Control_starting
  refine T.F_Control_starting.ok S (fun vs H Q E h => ?_) (fun cdv A outer s H vs Q E hr h => ?_)
  · obtain ⟨e, x, rfl, _⟩ := h
    rfl
  · obtain ⟨e, x, rfl, ⟨dx, he⟩, k⟩ := h
    refine ⟨_, (pss_one (ps_ret (pe_cmpR op_lt (pe_fld (pv 0) rfl) (pe_fld (pv 0) rfl) (nomark _)))), ?_⟩
    refine st_Control_starting ?_
    o_args
    refine fget he T.cl_Fixed T.n_Fixed_window rfl ?_
    o_args
    refine fget he T.cl_Fixed T.n_Fixed_threshold rfl ?_
    o_args
    exact k
def sp_Control_set_window (C : Addr) : Sp := fun vs H Q _ => ∃ (e : Addr) (x : Cs) (n : Int), vs = [.ref e, .int n] ∧ CtAt C H e x ∧ ∀ H', SameX e H H' → CtAt C H' e { x with w := min n 4194304 } → Q .non H'
theorem ok_Control_set_window (T : Txt K mg) : FnOk P w K mg base CX0 1 T.a_Control_set_window T.fd_Control_set_window ["self", "window"] (sp_Control_set_window T.c_Fixed) := by
  have S := sc_Control_set_window
  refine T.F_Control_set_window.ok S (fun vs H Q E h => ?_) (fun cdv A outer s H vs Q E hr h => ?_)
  · obtain ⟨e, x, n, rfl, _⟩ := h
    rfl
  · obtain ⟨e, x, n, rfl, ⟨dx, he⟩, k⟩ := h
    refine ⟨_, (pss_one (ps_fld (pv 0) (pe_callB (id := "min") (call_min2K rfl) (by rfl) T.b_min (by decide +kernel) (pa_cons (pv 1) (pa_cons (ClX.pe_cval (pe_glob (v := .ref T.c_Control) rfl T.g_Control rfl)) pa_nil))) rfl)), ?_⟩
    refine st_Control_set_window ?_
    o_args
    refine cval T.R_Control T.V_Control_GREATEST ?_
    o_args
    refine fstore he T.cl_Fixed T.n_Fixed_window (Nat.le_of_ble_eq_true rfl) rfl fun H1 s1 h1 => ?_
    o_args
    exact k H1 s1 ⟨dx, h1⟩
def sp_Fixed_init_ (C : Addr) : Sp := fun vs H Q _ => ∃ (p dx : Addr) (u n : Int), vs = [.ref p, .int u, .int n] ∧ H p = some (.ins C dx []) ∧ 1 ≤ u ∧ u ≤ 65535 ∧ 1 ≤ n ∧ n ≤ 64 ∧ ∀ H', SameX p H H' → CtAt C H' p ⟨u, u * n, 4194304, 0, false⟩ → Q .non H'
theorem ok_Fixed_init_ (T : Txt K mg) : FnOk P w K mg base (L2.CX P w) 4 T.a_Fixed_init_ T.fd_Fixed_init_ ["self", "unit", "pieces"] (sp_Fixed_init_ T.c_Fixed) := by
  have S := sc_Fixed_init_
  refine T.F_Fixed_init_.okX T.SK_Fixed_init_.cell S (fun vs H Q E h => ?_) (fun A outer s H vs Q E hr h => ?_)
  · obtain ⟨p, dx, u, n, rfl, _⟩ := h
    rfl
  · obtain ⟨p, dx, u, n, rfl, hp, h1, h2, n1, n2, k⟩ := h
    refine ⟨_, (pssa_cons (psa_super (D := T.c_Fixed) (m := "__init__") (g := T.a_Control_init_) T.SK_Fixed_init_ ⟨rfl, rfl, rfl, se_Fixed_init_.1, se_Fixed_init_.2.1, se_Fixed_init_.2.2, rfl, T.b_super⟩ ((ok_Control_init_ T).raw T.B_Control_init_ .nil) (hr.mono (by decide)) (passes_call (takes_of rfl rfl rfl rfl) (fun _ _ _ _ h => h)) (pa_cons (pv 1) pa_nil))
      (pssa_cons (psa_of (ps_if (pt_not (pt_val (pe_call (ok_is_between T) (hr.mono (by decide)) rfl T.g_is_between T.F_is_between.kp T.B_is_between .nil pass0 (pa_cons (pv 2) (pa_cons pe_int (pa_cons (pe_glob rfl T.g_MOST_PIECES T.r_MOST_PIECES) pa_nil)))))) (pss_one (ps_raise rfl (takes_of rfl rfl rfl rfl) (pmk_oex T.X_InvalidSetting.o T.X_InvalidSetting.i T.X_InvalidSetting.t (ok_InvalidSetting_init_ T) (hr.mono (by decide)) T.B_InvalidSetting_init_ .nil pass0 rfl T.X_InvalidSetting.g (pa_cons pe_str pa_nil)))) pss_nil))
      (pssa_one (psa_of (ps_fld (pv 0) (pe_op op_mul (pv 1) (pv 2)) rfl))))), ?_⟩
    refine st_Fixed_init_ ?_
    o_args
    refine ⟨p, _, dx, _, rfl, hp, T.SC_Fixed_Fixed_init_, ?_⟩
    o_args
    refine ⟨p, dx, u, rfl, hp, h1, h2, fun H0 s0 ⟨d0, h0⟩ => ?_⟩
    o_args
    refine in_between n1 n2 ?_
    o_args
    refine x_mulL ⟨by omega, by omega⟩ ?_
    o_args
    refine fstore h0 T.cl_Fixed T.n_Fixed_window (Nat.le_of_ble_eq_true rfl) rfl fun H1 s1 h1 => ?_
    o_args
    exact k H1 (s0.trans s1) ⟨d0, h1⟩
/-! ### the methods of a fixed window -/
def sp_Fixed_on_ack (K : PySem.W.Frag) (C Ce : Addr) : Sp := fun vs H Q E => ∃ (e : Addr) (v now : V) (f : Int) (x : Cs), vs = [.ref e, v, .int f, now] ∧ CtAt C H e x ∧
  ((∃ n, v = .int n ∧ 1 ≤ n ∧ n ≤ 65535 ∧ ∀ H', SameX e H H' → CtAt C H' e { x with st := false } → Q .non H') ∨ (Out K H v 1 65535 ∧ Err Ce "number" v H E))
theorem ok_Fixed_on_ack (T : Txt K mg) : FnOk P w K mg base (L2.CX P w) 4 T.a_Fixed_on_ack T.fd_Fixed_on_ack ["self", "count", "flight", "now"] (sp_Fixed_on_ack K T.c_Fixed T.c_InvalidNumber) := by
  have S := sc_Fixed_on_ack
  refine T.F_Fixed_on_ack.okX S (fun vs H Q E h => ?_) (fun cdv A outer s H vs Q E hr h => ?_)
  · obtain ⟨e, v, now, f, x, rfl, _⟩ := h
    rfl
  · obtain ⟨e, v, now, f, x, rfl, ⟨dx, he⟩, h⟩ := h
    refine ⟨_, (pss_cons (ps_expr (pe_call (ok_require_new_bytes T) (hr.mono (by decide)) rfl T.g_require_new_bytes T.F_require_new_bytes.kp T.B_require_new_bytes .nil (passes_call (takes_of rfl rfl rfl rfl) (fun _ _ _ _ h => h)) (pa_cons (pv 1) pa_nil)))
      (pss_one (ps_fld (pv 0) pe_bl rfl))), ?_⟩
    refine st_Fixed_on_ack ?_
    o_args
    rcases h with ⟨n, rfl, n1, n2, k⟩ | ⟨ho, hE⟩
    · refine ⟨_, rfl, .inl ⟨n, rfl, n1, n2, ?_⟩⟩
      o_args
      refine fstore he T.cl_Fixed T.n_Fixed_stalled (Nat.le_of_ble_eq_true rfl) rfl fun H1 s1 h1 => ?_
      o_args
      exact k H1 s1 ⟨dx, h1⟩
    · exact ⟨_, rfl, .inr ⟨ho, hE⟩⟩
def sp_Fixed_grow (K : PySem.W.Frag) (C Ce : Addr) : Sp := fun vs H Q E => ∃ (e : Addr) (v now : V) (x : Cs), vs = [.ref e, v, now] ∧ CtAt C H e x ∧
  ((∃ n, v = .int n ∧ 1 ≤ n ∧ n ≤ 65535 ∧ Q .non H) ∨ (Out K H v 1 65535 ∧ Err Ce "number" v H E))
theorem ok_Fixed_grow (T : Txt K mg) : FnOk P w K mg base (L2.CX P w) 4 T.a_Fixed_grow T.fd_Fixed_grow ["self", "count", "now"] (sp_Fixed_grow K T.c_Fixed T.c_InvalidNumber) := by
  have S := sc_Fixed_grow
  refine T.F_Fixed_grow.okX S (fun vs H Q E h => ?_) (fun cdv A outer s H vs Q E hr h => ?_)
  · obtain ⟨e, v, now, x, rfl, _⟩ := h
    rfl
  · obtain ⟨e, v, now, x, rfl, hc, h⟩ := h
    refine ⟨_, (pss_one (ps_expr (pe_call (ok_require_new_bytes T) (hr.mono (by decide)) rfl T.g_require_new_bytes T.F_require_new_bytes.kp T.B_require_new_bytes .nil (passes_call (takes_of rfl rfl rfl rfl) (fun _ _ _ _ h => h)) (pa_cons (pv 1) pa_nil)))), ?_⟩
    refine st_Fixed_grow ?_
    o_args
    rcases h with ⟨n, rfl, n1, n2, k⟩ | ⟨ho, hE⟩
    · refine ⟨_, rfl, .inl ⟨n, rfl, n1, n2, ?_⟩⟩
      o_args
      exact k
    · exact ⟨_, rfl, .inr ⟨ho, hE⟩⟩
def sp_Fixed_on_loss : Sp := fun vs H Q _ => ∃ (e f n : V), vs = [e, f, n] ∧ Q .non H
theorem ok_Fixed_on_loss (T : Txt K mg) : FnOk P w K mg base CX0 1 T.a_Fixed_on_loss T.fd_Fixed_on_loss ["self", "flight", "now"] (sp_Fixed_on_loss) := by
  have S := sc_Fixed_on_loss
  refine T.F_Fixed_on_loss.ok S (fun vs H Q E h => ?_) (fun cdv A outer s H vs Q E hr h => ?_)
  · obtain ⟨e, f, n, rfl, _⟩ := h
    rfl
  · obtain ⟨e, f, n, rfl, k⟩ := h
    refine ⟨_, (pss_one ps_pass), ?_⟩
    refine st_Fixed_on_loss ?_
    o_args
    exact k
def sp_Fixed_on_expiry (C : Addr) : Sp := fun vs H Q _ => ∃ (e : Addr) (f n : V) (x : Cs), vs = [.ref e, f, n] ∧ CtAt C H e x ∧ ∀ H', SameX e H H' → CtAt C H' e { x with st := true } → Q .non H'
theorem ok_Fixed_on_expiry (T : Txt K mg) : FnOk P w K mg base CX0 1 T.a_Fixed_on_expiry T.fd_Fixed_on_expiry ["self", "flight", "now"] (sp_Fixed_on_expiry T.c_Fixed) := by
  have S := sc_Fixed_on_expiry
  refine T.F_Fixed_on_expiry.ok S (fun vs H Q E h => ?_) (fun cdv A outer s H vs Q E hr h => ?_)
  · obtain ⟨e, f, n, x, rfl, _⟩ := h
    rfl
  · obtain ⟨e, f, n, x, rfl, ⟨dx, he⟩, k⟩ := h
    refine ⟨_, (pss_one (ps_fld (pv 0) pe_bl rfl)), ?_⟩
    refine st_Fixed_on_expiry ?_
    o_args
    refine fstore he T.cl_Fixed T.n_Fixed_stalled (Nat.le_of_ble_eq_true rfl) rfl fun H1 s1 h1 => ?_
    o_args
    exact k H1 s1 ⟨dx, h1⟩
def sp_Fixed_on_sample : Sp := fun vs H Q _ => ∃ (e n : V), vs = [e, n] ∧ Q .non H
theorem ok_Fixed_on_sample (T : Txt K mg) : FnOk P w K mg base CX0 1 T.a_Fixed_on_sample T.fd_Fixed_on_sample ["self", "ticks"] (sp_Fixed_on_sample) := by
  have S := sc_Fixed_on_sample
  refine T.F_Fixed_on_sample.ok S (fun vs H Q E h => ?_) (fun cdv A outer s H vs Q E hr h => ?_)
  · obtain ⟨e, n, rfl, _⟩ := h
    rfl
  · obtain ⟨e, n, rfl, k⟩ := h
    refine ⟨_, (pss_one ps_pass), ?_⟩
    refine st_Fixed_on_sample ?_
    o_args
    exact k
end NF
/-! ### a box of three, drawn from -/
def Bx (a : Addr) (H : Hp) : Prop := ∃ x y z : Int, H a = some (.lst [.int x, .int y, .int z]) ∧ 0 ≤ x
theorem Bx.same {a : Addr} {H H' : Hp} (B : Bx a H) (s : Same H H') : Bx a H' := B.elim fun x h => h.elim fun y h => h.elim fun z h => ⟨x, y, z, s _ _ h.1, h.2⟩
theorem Bx.on {a b : Addr} {H H' : Hp} (B : Bx a H) (s : SameX b H H') (n : a ≠ b) : Bx a H' := B.elim fun x h => h.elim fun y h => h.elim fun z h => ⟨x, y, z, s _ _ n h.1, h.2⟩
theorem Bx.ne {a b : Addr} {o : HO} {H : Hp} (B : Bx a H) (h : H b = some o) (ho : ∀ x y z, o ≠ .lst [x, y, z] := by intro _ _ _ e; cases e) : b ≠ a := fun e => by
  subst e
  obtain ⟨x, y, z, h', _⟩ := B
  rw [h'] at h
  exact ho _ _ _ (Option.some.inj h).symm
def sp__law_cell (K : PySem.W.Frag) : Sp := fun vs H Q _ => ∃ (a : Addr) (ns : List Int) (k : Int), vs = [.ref a, .int k] ∧ SqL K H a (ns.map V.int) ∧ 0 ≤ k ∧ ∀ n H', Same H H' → Q (.int n) H'
theorem ok__law_cell (T : Txt K mg) : FnOk P w K mg base CX0 1 T.a__law_cell T.fd__law_cell ["script", "k"] (sp__law_cell K) := by
  have S := sc__law_cell
  refine T.F__law_cell.ok S (fun vs H Q E h => ?_) (fun cdv A outer s H vs Q E hr h => ?_)
  · obtain ⟨a, ns, k, rfl, _⟩ := h
    rfl
  · obtain ⟨a, ns, j, rfl, hS, j0, k⟩ := h
    refine ⟨_, (pss_cons (ps_if (pt_cmpR op_lt (pv 1) (pe_callB (id := "len") (call_lenK (K := K) rfl) (by rfl) T.b_len (by decide +kernel) (pa_cons (pv 0) pa_nil)) (nomark _)) (pss_one (ps_ret (pe_ix ix_list (pv 0) (pv 1) (fun _ _ => rfl)))) pss_nil)
      (pss_one (ps_ret (pe_op op_add (pe_op op_add (pe_op op_mul pe_int (pv 1)) pe_int) (pe_op op_mod (pe_callTy (T := "int") call_int1 (by rfl) T.b_int (by decide +kernel) (pa_cons (pe_callB (id := "sum") (cr_sum rfl) (by rfl) T.b_sum (by decide +kernel) (pa_cons (pe_slice sl_list (pv 0) po_none (po_some pe_int)) pa_nil)) pa_nil)) pe_int))))), ?_⟩
    refine st__law_cell ?_
    o_args
    refine lenA (.inl hS) ?_
    o_args
    refine brD (fun q => ?_) (fun q => ?_)
    · o_args
      obtain ⟨j, rfl⟩ : ∃ i : Nat, j = i := ⟨j.toNat, by omega⟩
      have q' : j < (ns.map V.int).length := by omega
      rw [List.length_map] at q'
      refine ⟨_, _, _, _, rfl, rfl, hS, atI_nat (v := .int ns[j]) (by rw [List.getElem?_map, List.getElem?_eq_getElem q']; rfl), ?_⟩
      o_args
      exact k _ _ (Same.refl _)
    · o_args
      refine sliceL hS fun l H1 hl s1 h1 => ?_
      o_args
      have h1 : H1 l = some (.lst (cutV (ns.map V.int) none (some ((1 : Nat) : Int)))) := h1
      rw [cut_to, ← List.map_take] at h1
      refine ⟨_, _, rfl, SqL.of h1, ?_⟩
      o_args
      exact k _ _ s1
def sp__law_rounds (K : PySem.W.Frag) : Sp := fun vs H Q _ => ∃ (a : Addr) (xs : List V), vs = [.ref a] ∧ SqL K H a xs ∧ ∀ n, 4 ≤ n → n ≤ 62 → Q (.int n) H
theorem ok__law_rounds (T : Txt K mg) : FnOk P w K mg base CX0 1 T.a__law_rounds T.fd__law_rounds ["script"] (sp__law_rounds K) := by
  have S := sc__law_rounds
  refine T.F__law_rounds.ok S (fun vs H Q E h => ?_) (fun cdv A outer s H vs Q E hr h => ?_)
  · obtain ⟨a, xs, rfl, _⟩ := h
    rfl
  · obtain ⟨a, xs, rfl, hS, k⟩ := h
    refine ⟨_, (pss_one (ps_ret (pe_callB (id := "min") (call_min2K rfl) (by rfl) T.b_min (by decide +kernel) (pa_cons pe_int (pa_cons (pe_callB (id := "max") (call_max2K rfl) (by rfl) T.b_max (by decide +kernel) (pa_cons (pe_op op_add pe_int (pe_op op_mul pe_int (pe_callB (id := "min") (call_min2K rfl) (by rfl) T.b_min (by decide +kernel) (pa_cons pe_int (pa_cons (pe_callB (id := "len") (call_lenK (K := K) rfl) (by rfl) T.b_len (by decide +kernel) (pa_cons (pv 0) pa_nil)) pa_nil))))) (pa_cons (pe_op op_sub (pe_callB (id := "len") (call_lenK (K := K) rfl) (by rfl) T.b_len (by decide +kernel) (pa_cons (pv 0) pa_nil)) pe_int) pa_nil))) pa_nil))))), ?_⟩
    refine st__law_rounds ?_
    o_args
    refine lenA (.inl hS) ?_
    o_args
    refine lenA (.inl hS) ?_
    o_args
    exact k _ (by omega) (by omega)
def sp__law_box : Sp := fun vs H Q _ => ∃ (n : Int), vs = [.int n] ∧ ∀ b H', H b = none → Same H H' → Bx b H' → Q (.ref b) H'
theorem ok__law_box (T : Txt K mg) : FnOk P w K mg base CX0 1 T.a__law_box T.fd__law_box ["cell"] (sp__law_box) := by
  have S := sc__law_box
  refine T.F__law_box.ok S (fun vs H Q E h => ?_) (fun cdv A outer s H vs Q E hr h => ?_)
  · obtain ⟨n, rfl, _⟩ := h
    rfl
  · obtain ⟨n, rfl, k⟩ := h
    refine ⟨_, (pss_cons (ps_if (pt_cmpR op_ge (pv 0) (pe_op op_pow pe_int pe_int) (nomark _)) (pss_one (ps_ret (pe_lst (pa_cons (pv 0) (pa_cons (pv 0) (pa_cons pe_int pa_nil)))))) pss_nil)
      (pss_one (ps_ret (pe_lst (pa_cons pe_int (pa_cons (pv 0) (pa_cons pe_int pa_nil))))))), ?_⟩
    refine st__law_box ?_
    o_args
    have e18 : (10 : Int) ^ Int.toNat 18 = 1000000000000000000 := rfl
    refine brD (fun q => ?_) (fun q => ?_)
    · rw [e18] at q
      o_args
      refine newList (by simp) fun b H3 hb s3 h3 => ?_
      o_args
      exact k b H3 hb s3 ⟨_, _, _, h3, by omega⟩
    · o_args
      refine newList (by simp) fun b H3 hb s3 h3 => ?_
      o_args
      exact k b H3 hb s3 ⟨_, _, _, h3, by omega⟩
def sp__law_draw : Sp := fun vs H Q _ => ∃ (a : Addr) (m : Int), vs = [.ref a, .int m] ∧ Bx a H ∧ 0 < m ∧ m < 2 ^ 62 ∧ ∀ d H', 0 ≤ d → d < m → Bx a H' → SameX a H H' → Q (.int d) H'
theorem ok__law_draw (T : Txt K mg) : FnOk P w K mg base CX0 1 T.a__law_draw T.fd__law_draw ["box", "size"] (sp__law_draw) := by
  have S := sc__law_draw
  refine T.F__law_draw.ok S (fun vs H Q E h => ?_) (fun cdv A outer s H vs Q E hr h => ?_)
  · obtain ⟨a, m, rfl, _⟩ := h
    rfl
  · obtain ⟨a, m, rfl, ⟨x, y, z, hA, x0⟩, m0, m1, k⟩ := h
    have m0' : m ≠ 0 := by omega
    refine ⟨_, (pss_cons (ps_augS (pv 0) pe_int (show PGet _ (rIxL K) from pget_list) pe_int ip_add set_list)
      (pss_cons (ps_if (pt_cmpR op_gt (pe_ix ix_list (pv 0) pe_int (fun _ _ => rfl)) pe_int (nomark _)) (pss_cons (ps_set (i := 2) S.nd rfl (Or.inl rfl) (pe_op op_mod (pe_callTy (T := "int") call_int1 (by rfl) T.b_int (by decide +kernel) (pa_cons (pe_ix ix_list (pv 0) pe_int (fun _ _ => rfl)) pa_nil)) (pv 1)))
      (pss_cons (ps_asg (pe_op op_fdivW (pe_ix ix_list (pv 0) pe_int (fun _ _ => rfl)) (pv 1)) (pg_sub (pv 0) pe_int set_list))
      (pss_one (ps_ret (pv 2))))) pss_nil)
      (pss_cons (ps_set (i := 3) S.nd rfl (Or.inl rfl) (pe_op op_mod (pe_callTy (T := "int") call_int1 (by rfl) T.b_int (by decide +kernel) (pa_cons (pe_op op_add (pe_op op_add (pe_op op_mul (pe_ix ix_list (pv 0) pe_int (fun _ _ => rfl)) pe_int) (pe_op op_mul (pe_ix ix_list (pv 0) pe_int (fun _ _ => rfl)) pe_int)) pe_int) pa_nil)) pe_int))
      (pss_cons (ps_set (i := 4) S.nd rfl (Or.inl rfl) (pe_op op_mod (pe_callTy (T := "int") call_int1 (by rfl) T.b_int (by decide +kernel) (pa_cons (pe_op op_add (pe_op op_add (pe_op op_mul (pv 3) (pv 3)) (pe_op op_mul (pe_ix ix_list (pv 0) pe_int (fun _ _ => rfl)) pe_int)) (pe_op op_mul (pe_ix ix_list (pv 0) pe_int (fun _ _ => rfl)) pe_int)) pa_nil)) pe_int))
      (pss_one (ps_ret (pe_op op_mod (pe_callTy (T := "int") call_int1 (by rfl) T.b_int (by decide +kernel) (pa_cons (pe_op op_add (pe_op op_mul (pv 4) pe_int) (pv 3)) pa_nil)) (pv 1)))))))), ?_⟩
    refine st__law_draw ?_
    o_args
    refine setL (i := 2) hA (by simp) fun H1 s1 h1 => ?_
    have h1 : H1 a = some (.lst [.int x, .int y, .int (z + 1)]) := h1
    o_args
    refine brD (fun q => ?_) (fun q => ?_)
    · o_args
      refine ⟨_, _, rfl, rfl, m0, ?_⟩
      o_args
      refine x_divW m0 m1 ?_
      o_args
      refine setL (i := 0) h1 (by simp) fun H2 s2 h2 => ?_
      o_args
      exact k _ _ (Int.emod_nonneg _ m0') (Int.emod_lt_of_pos _ m0) ⟨_, _, _, h2, Int.ediv_nonneg x0 (by omega)⟩ (s1.trans s2)
    · o_args
      refine x_mulL ?_ ?_
      · have a0 := Int.emod_nonneg (y * 271 + (z + 1) * 97 + 5) (show (10007 : Int) ≠ 0 by decide)
        have a1 := Int.emod_lt_of_pos (y * 271 + (z + 1) * 97 + 5) (show (0 : Int) < 10007 by decide)
        constructor <;> omega
      o_args
      refine ⟨_, _, rfl, rfl, m0, ?_⟩
      o_args
      exact k _ _ (Int.emod_nonneg _ m0') (Int.emod_lt_of_pos _ m0) ⟨_, _, _, h1, x0⟩ s1
/-! ### what is drawn -/
def sp__law_unit : Sp := fun vs H Q _ => ∃ (a : Addr), vs = [.ref a] ∧ Bx a H ∧ ∀ n H', 1 ≤ n → n ≤ 65535 → Bx a H' → SameX a H H' → Q (.int n) H'
theorem ok__law_unit (T : Txt K mg) : FnOk P w K mg base CX0 2 T.a__law_unit T.fd__law_unit ["box"] (sp__law_unit) := by
  have S := sc__law_unit
  refine T.F__law_unit.ok S (fun vs H Q E h => ?_) (fun cdv A outer s H vs Q E hr h => ?_)
  · obtain ⟨a, rfl, _⟩ := h
    rfl
  · obtain ⟨a, rfl, B0, k⟩ := h
    refine ⟨_, (pss_cons (ps_set (i := 1) S.nd rfl (Or.inl rfl) (pe_call (ok__law_draw T) (hr.mono (by decide)) rfl T.g__law_draw T.F__law_draw.kp T.B__law_draw .nil pass0 (pa_cons (pv 0) (pa_cons pe_int pa_nil))))
      (pss_cons (ps_if (pt_cmpR op_eq (pv 1) pe_int (nomark _)) (pss_one (ps_ret (pe_op op_add pe_int (pe_call (ok__law_draw T) (hr.mono (by decide)) rfl T.g__law_draw T.F__law_draw.kp T.B__law_draw .nil pass0 (pa_cons (pv 0) (pa_cons pe_int pa_nil)))))) pss_nil)
      (pss_cons (ps_if (pt_cmpR op_eq (pv 1) pe_int (nomark _)) (pss_one (ps_ret (pe_op op_add pe_int (pe_call (ok__law_draw T) (hr.mono (by decide)) rfl T.g__law_draw T.F__law_draw.kp T.B__law_draw .nil pass0 (pa_cons (pv 0) (pa_cons pe_int pa_nil)))))) pss_nil)
      (pss_cons (ps_if (pt_cmpR op_eq (pv 1) pe_int (nomark _)) (pss_one (ps_ret (pe_op op_add pe_int (pe_call (ok__law_draw T) (hr.mono (by decide)) rfl T.g__law_draw T.F__law_draw.kp T.B__law_draw .nil pass0 (pa_cons (pv 0) (pa_cons pe_int pa_nil)))))) pss_nil)
      (pss_one (ps_ret (pe_op op_sub pe_int (pe_op op_mul pe_int (pe_call (ok__law_draw T) (hr.mono (by decide)) rfl T.g__law_draw T.F__law_draw.kp T.B__law_draw .nil pass0 (pa_cons (pv 0) (pa_cons pe_int pa_nil))))))))))), ?_⟩
    refine st__law_unit ?_
    o_args
    refine ⟨a, 4, rfl, B0, by decide, by decide, fun way H1 a1 b1 B1 s1 => ?_⟩
    o_args
    refine brD (fun q => ?_) (fun q => ?_)
    · o_args
      refine ⟨a, _, rfl, B1, by decide, by decide, fun d H2 a2 b2 B2 s2 => ?_⟩
      o_args
      exact k _ _ (by omega) (by omega) B2 (s1.trans s2)
    o_args
    refine brD (fun q => ?_) (fun q => ?_)
    · o_args
      refine ⟨a, _, rfl, B1, by decide, by decide, fun d H2 a2 b2 B2 s2 => ?_⟩
      o_args
      exact k _ _ (by omega) (by omega) B2 (s1.trans s2)
    o_args
    refine brD (fun q => ?_) (fun q => ?_)
    · o_args
      refine ⟨a, _, rfl, B1, by decide, by decide, fun d H2 a2 b2 B2 s2 => ?_⟩
      o_args
      exact k _ _ (by omega) (by omega) B2 (s1.trans s2)
    o_args
    refine ⟨a, _, rfl, B1, by decide, by decide, fun d H2 a2 b2 B2 s2 => ?_⟩
    o_args
    exact k _ _ (by omega) (by omega) B2 (s1.trans s2)
def sp__law_count : Sp := fun vs H Q _ => ∃ (a : Addr) (u b : Int), vs = [.ref a, .int u, .int b] ∧ Bx a H ∧ ∀ n H', 1 ≤ n → n ≤ 65535 → Bx a H' → SameX a H H' → Q (.int n) H'
theorem ok__law_count (T : Txt K mg) : FnOk P w K mg base CX0 2 T.a__law_count T.fd__law_count ["box", "unit", "brink"] (sp__law_count) := by
  have S := sc__law_count
  refine T.F__law_count.ok S (fun vs H Q E h => ?_) (fun cdv A outer s H vs Q E hr h => ?_)
  · obtain ⟨a, u, b, rfl, _⟩ := h
    rfl
  · obtain ⟨a, u, b, rfl, B0, k⟩ := h
    refine ⟨_, (pss_cons (ps_set (i := 3) S.nd rfl (Or.inl rfl) (pe_call (ok__law_draw T) (hr.mono (by decide)) rfl T.g__law_draw T.F__law_draw.kp T.B__law_draw .nil pass0 (pa_cons (pv 0) (pa_cons pe_int pa_nil))))
      (pss_cons (ps_if (pt_cmpR op_eq (pv 3) pe_int (nomark _)) (pss_one (ps_ret (pe_op op_add pe_int (pe_call (ok__law_draw T) (hr.mono (by decide)) rfl T.g__law_draw T.F__law_draw.kp T.B__law_draw .nil pass0 (pa_cons (pv 0) (pa_cons pe_int pa_nil)))))) pss_nil)
      (pss_cons (ps_if (pt_cmpR op_eq (pv 3) pe_int (nomark _)) (pss_one (ps_ret (pe_op op_add pe_int (pe_call (ok__law_draw T) (hr.mono (by decide)) rfl T.g__law_draw T.F__law_draw.kp T.B__law_draw .nil pass0 (pa_cons (pv 0) (pa_cons pe_int pa_nil)))))) pss_nil)
      (pss_cons (ps_if (pt_cmpR op_eq (pv 3) pe_int (nomark _)) (pss_one (ps_ret (pe_callB (id := "max") (call_max2K rfl) (by rfl) T.b_max (by decide +kernel) (pa_cons pe_int (pa_cons (pe_callB (id := "min") (call_min2K rfl) (by rfl) T.b_min (by decide +kernel) (pa_cons pe_int (pa_cons (pe_op op_add (pe_op op_sub (pv 1) pe_int) (pe_call (ok__law_draw T) (hr.mono (by decide)) rfl T.g__law_draw T.F__law_draw.kp T.B__law_draw .nil pass0 (pa_cons (pv 0) (pa_cons pe_int pa_nil)))) pa_nil))) pa_nil))))) pss_nil)
      (pss_cons (ps_if (pt_cmpR op_eq (pv 3) pe_int (nomark _)) (pss_one (ps_ret (pe_callB (id := "max") (call_max2K rfl) (by rfl) T.b_max (by decide +kernel) (pa_cons pe_int (pa_cons (pe_callB (id := "min") (call_min2K rfl) (by rfl) T.b_min (by decide +kernel) (pa_cons pe_int (pa_cons (pe_op op_add (pe_op op_sub (pv 2) pe_int) (pe_call (ok__law_draw T) (hr.mono (by decide)) rfl T.g__law_draw T.F__law_draw.kp T.B__law_draw .nil pass0 (pa_cons (pv 0) (pa_cons pe_int pa_nil)))) pa_nil))) pa_nil))))) pss_nil)
      (pss_one (ps_ret (pe_op op_sub pe_int (pe_op op_mul pe_int (pe_call (ok__law_draw T) (hr.mono (by decide)) rfl T.g__law_draw T.F__law_draw.kp T.B__law_draw .nil pass0 (pa_cons (pv 0) (pa_cons pe_int pa_nil)))))))))))), ?_⟩
    refine st__law_count ?_
    o_args
    refine ⟨a, 5, rfl, B0, by decide, by decide, fun way H1 a1 b1 B1 s1 => ?_⟩
    o_args
    refine brD (fun q => ?_) (fun q => ?_)
    · o_args
      refine ⟨a, _, rfl, B1, by decide, by decide, fun d H2 a2 b2 B2 s2 => ?_⟩
      o_args
      exact k _ _ (by omega) (by omega) B2 (s1.trans s2)
    o_args
    refine brD (fun q => ?_) (fun q => ?_)
    · o_args
      refine ⟨a, _, rfl, B1, by decide, by decide, fun d H2 a2 b2 B2 s2 => ?_⟩
      o_args
      exact k _ _ (by omega) (by omega) B2 (s1.trans s2)
    o_args
    refine brD (fun q => ?_) (fun q => ?_)
    · o_args
      refine ⟨a, _, rfl, B1, by decide, by decide, fun d H2 a2 b2 B2 s2 => ?_⟩
      o_args
      exact k _ _ (by omega) (by omega) B2 (s1.trans s2)
    o_args
    refine brD (fun q => ?_) (fun q => ?_)
    · o_args
      refine ⟨a, _, rfl, B1, by decide, by decide, fun d H2 a2 b2 B2 s2 => ?_⟩
      o_args
      exact k _ _ (by omega) (by omega) B2 (s1.trans s2)
    o_args
    refine ⟨a, _, rfl, B1, by decide, by decide, fun d H2 a2 b2 B2 s2 => ?_⟩
    o_args
    exact k _ _ (by omega) (by omega) B2 (s1.trans s2)
def sp__law_load : Sp := fun vs H Q _ => ∃ (a : Addr) (u w c : Int), vs = [.ref a, .int u, .int w, .int c] ∧ Bx a H ∧ 1 ≤ u ∧ u ≤ 65535 ∧ ∀ n H', 0 ≤ n → Bx a H' → SameX a H H' → Q (.int n) H'
theorem ok__law_load (T : Txt K mg) : FnOk P w K mg base CX0 2 T.a__law_load T.fd__law_load ["box", "unit", "window", "count"] (sp__law_load) := by
  have S := sc__law_load
  refine T.F__law_load.ok S (fun vs H Q E h => ?_) (fun cdv A outer s H vs Q E hr h => ?_)
  · obtain ⟨a, u, w, c, rfl, _⟩ := h
    rfl
  · obtain ⟨a, u, w, c, rfl, B0, u1, u2, k⟩ := h
    refine ⟨_, (pss_cons (ps_set (i := 4) S.nd rfl (Or.inl rfl) (pe_call (ok__law_draw T) (hr.mono (by decide)) rfl T.g__law_draw T.F__law_draw.kp T.B__law_draw .nil pass0 (pa_cons (pv 0) (pa_cons pe_int pa_nil))))
      (pss_cons (ps_if (pt_cmpR op_eq (pv 4) pe_int (nomark _)) (pss_one (ps_ret (pe_call (ok__law_draw T) (hr.mono (by decide)) rfl T.g__law_draw T.F__law_draw.kp T.B__law_draw .nil pass0 (pa_cons (pv 0) (pa_cons (pe_op op_pow pe_int pe_int) pa_nil))))) pss_nil)
      (pss_cons (ps_if (pt_cmpR op_eq (pv 4) pe_int (nomark _)) (pss_one (ps_ret (pe_call (ok__law_draw T) (hr.mono (by decide)) rfl T.g__law_draw T.F__law_draw.kp T.B__law_draw .nil pass0 (pa_cons (pv 0) (pa_cons (pe_op op_mul pe_int (pv 1)) pa_nil))))) pss_nil)
      (pss_cons (ps_if (pt_cmpR op_eq (pv 4) pe_int (nomark _)) (pss_one (ps_ret (pe_callB (id := "max") (call_max2K rfl) (by rfl) T.b_max (by decide +kernel) (pa_cons pe_int (pa_cons (pe_op op_add (pe_op op_sub (pe_op op_sub (pe_op op_fdiv (pe_op op_add (pv 2) pe_int) pe_int) (pv 3)) pe_int) (pe_call (ok__law_draw T) (hr.mono (by decide)) rfl T.g__law_draw T.F__law_draw.kp T.B__law_draw .nil pass0 (pa_cons (pv 0) (pa_cons pe_int pa_nil)))) pa_nil))))) pss_nil)
      (pss_cons (ps_if (pt_cmpR op_eq (pv 4) pe_int (nomark _)) (pss_one (ps_ret (pe_callB (id := "max") (call_max2K rfl) (by rfl) T.b_max (by decide +kernel) (pa_cons pe_int (pa_cons (pe_op op_sub (pv 2) (pe_call (ok__law_draw T) (hr.mono (by decide)) rfl T.g__law_draw T.F__law_draw.kp T.B__law_draw .nil pass0 (pa_cons (pv 0) (pa_cons pe_int pa_nil)))) pa_nil))))) pss_nil)
      (pss_cons (ps_if (pt_cmpR op_eq (pv 4) pe_int (nomark _)) (pss_one (ps_ret (pe_op op_add (pe_op op_sub (pe_op op_mul pe_int (pv 1)) pe_int) (pe_call (ok__law_draw T) (hr.mono (by decide)) rfl T.g__law_draw T.F__law_draw.kp T.B__law_draw .nil pass0 (pa_cons (pv 0) (pa_cons pe_int pa_nil)))))) pss_nil)
      (pss_cons (ps_if (pt_cmpR op_eq (pv 4) pe_int (nomark _)) (pss_one (ps_ret (pe_op op_add pe_int (pe_call (ok__law_draw T) (hr.mono (by decide)) rfl T.g__law_draw T.F__law_draw.kp T.B__law_draw .nil pass0 (pa_cons (pv 0) (pa_cons pe_int pa_nil)))))) pss_nil)
      (pss_cons (ps_if (pt_cmpR op_eq (pv 4) pe_int (nomark _)) (pss_one (ps_ret (pe_op op_mul (pe_op op_mul pe_int (pv 1)) (pe_call (ok__law_draw T) (hr.mono (by decide)) rfl T.g__law_draw T.F__law_draw.kp T.B__law_draw .nil pass0 (pa_cons (pv 0) (pa_cons pe_int pa_nil)))))) pss_nil)
      (pss_one (ps_ret (pe_call (ok__law_draw T) (hr.mono (by decide)) rfl T.g__law_draw T.F__law_draw.kp T.B__law_draw .nil pass0 (pa_cons (pv 0) (pa_cons pe_int pa_nil))))))))))))), ?_⟩
    refine st__law_load ?_
    o_args
    refine ⟨a, 8, rfl, B0, by decide, by decide, fun way H1 a1 b1 B1 s1 => ?_⟩
    o_args
    refine brD (fun q => ?_) (fun q => ?_)
    · o_args
      refine ⟨a, _, rfl, B1, by decide, by decide, fun d H2 a2 b2 B2 s2 => ?_⟩
      exact k _ _ (by omega) B2 (s1.trans s2)
    o_args
    refine brD (fun q => ?_) (fun q => ?_)
    · o_args
      refine ⟨a, _, rfl, B1, by omega, by omega, fun d H2 a2 b2 B2 s2 => ?_⟩
      exact k _ _ (by omega) B2 (s1.trans s2)
    o_args
    refine brD (fun q => ?_) (fun q => ?_)
    · o_args
      refine ⟨a, _, rfl, B1, by decide, by decide, fun d H2 a2 b2 B2 s2 => ?_⟩
      o_args
      exact k _ _ (by omega) B2 (s1.trans s2)
    o_args
    refine brD (fun q => ?_) (fun q => ?_)
    · o_args
      refine ⟨a, _, rfl, B1, by decide, by decide, fun d H2 a2 b2 B2 s2 => ?_⟩
      o_args
      exact k _ _ (by omega) B2 (s1.trans s2)
    o_args
    refine brD (fun q => ?_) (fun q => ?_)
    · o_args
      refine ⟨a, _, rfl, B1, by decide, by decide, fun d H2 a2 b2 B2 s2 => ?_⟩
      o_args
      exact k _ _ (by omega) B2 (s1.trans s2)
    o_args
    refine brD (fun q => ?_) (fun q => ?_)
    · o_args
      refine ⟨a, _, rfl, B1, by decide, by decide, fun d H2 a2 b2 B2 s2 => ?_⟩
      o_args
      exact k _ _ (by omega) B2 (s1.trans s2)
    o_args
    refine brD (fun q => ?_) (fun q => ?_)
    · o_args
      refine ⟨a, _, rfl, B1, by decide, by decide, fun d H2 a2 b2 B2 s2 => ?_⟩
      refine x_mulR ⟨by omega, by omega⟩ ?_
      o_args
      exact k _ _ (Int.mul_nonneg (by omega) a2) B2 (s1.trans s2)
    o_args
    refine ⟨a, _, rfl, B1, by decide, by decide, fun d H2 a2 b2 B2 s2 => ?_⟩
    o_args
    exact k _ _ (by omega) B2 (s1.trans s2)
/-! ### a later time -/
def sp__law_later : Sp := fun vs H Q _ => ∃ (a : Addr) (n m : Int), vs = [.ref a, .int n, .int m] ∧ Bx a H ∧ ∀ t H', n ≤ t → (t ≤ n + 10000000000 ∨ t ≤ m + 1) → Bx a H' → SameX a H H' → Q (.int t) H'
theorem ok__law_later (T : Txt K mg) : FnOk P w K mg base CX0 2 T.a__law_later T.fd__law_later ["box", "now", "meet"] (sp__law_later) := by
  have S := sc__law_later
  refine T.F__law_later.ok S (fun vs H Q E h => ?_) (fun cdv A outer s H vs Q E hr h => ?_)
  · obtain ⟨a, n, m, rfl, _⟩ := h
    rfl
  · obtain ⟨a, n, m, rfl, B0, k⟩ := h
    refine ⟨_, (pss_cons (ps_set (i := 3) S.nd rfl (Or.inl rfl) (pe_call (ok__law_draw T) (hr.mono (by decide)) rfl T.g__law_draw T.F__law_draw.kp T.B__law_draw .nil pass0 (pa_cons (pv 0) (pa_cons pe_int pa_nil))))
      (pss_cons (ps_if (pt_cmpR op_eq (pv 3) pe_int (nomark _)) (pss_one (ps_ret (pe_op op_add (pv 1) (pe_call (ok__law_draw T) (hr.mono (by decide)) rfl T.g__law_draw T.F__law_draw.kp T.B__law_draw .nil pass0 (pa_cons (pv 0) (pa_cons pe_int pa_nil)))))) pss_nil)
      (pss_cons (ps_if (pt_cmpR op_eq (pv 3) pe_int (nomark _)) (pss_one (ps_ret (pe_op op_add (pv 1) (pe_call (ok__law_draw T) (hr.mono (by decide)) rfl T.g__law_draw T.F__law_draw.kp T.B__law_draw .nil pass0 (pa_cons (pv 0) (pa_cons pe_int pa_nil)))))) pss_nil)
      (pss_cons (ps_if (pt_cmpR op_eq (pv 3) pe_int (nomark _)) (pss_one (ps_ret (pe_callB (id := "max") (call_max2K rfl) (by rfl) T.b_max (by decide +kernel) (pa_cons (pv 1) (pa_cons (pe_op op_add (pe_op op_sub (pv 2) pe_int) (pe_call (ok__law_draw T) (hr.mono (by decide)) rfl T.g__law_draw T.F__law_draw.kp T.B__law_draw .nil pass0 (pa_cons (pv 0) (pa_cons pe_int pa_nil)))) pa_nil))))) pss_nil)
      (pss_one (ps_ret (pe_op op_add (pv 1) (pe_call (ok__law_draw T) (hr.mono (by decide)) rfl T.g__law_draw T.F__law_draw.kp T.B__law_draw .nil pass0 (pa_cons (pv 0) (pa_cons (pe_op op_pow pe_int pe_int) pa_nil)))))))))), ?_⟩
    refine st__law_later ?_
    o_args
    refine ⟨a, 4, rfl, B0, by decide, by decide, fun way H1 a1 b1 B1 s1 => ?_⟩
    o_args
    refine brD (fun q => ?_) (fun q => ?_)
    · o_args
      refine ⟨a, _, rfl, B1, by decide, by decide, fun d H2 a2 b2 B2 s2 => ?_⟩
      o_args
      exact k _ _ (by omega) (by omega) B2 (s1.trans s2)
    o_args
    refine brD (fun q => ?_) (fun q => ?_)
    · o_args
      refine ⟨a, _, rfl, B1, by decide, by decide, fun d H2 a2 b2 B2 s2 => ?_⟩
      o_args
      exact k _ _ (by omega) (by omega) B2 (s1.trans s2)
    o_args
    refine brD (fun q => ?_) (fun q => ?_)
    · o_args
      refine ⟨a, _, rfl, B1, by decide, by decide, fun d H2 a2 b2 B2 s2 => ?_⟩
      o_args
      exact k _ _ (by omega) (by omega) B2 (s1.trans s2)
    o_args
    refine ⟨a, _, rfl, B1, by decide, by decide, fun d H2 a2 b2 B2 s2 => ?_⟩
    have b2 : d < 10000000000 := b2
    o_args
    exact k _ _ (by omega) (by omega) B2 (s1.trans s2)
/-! ### a bad count -/
/-- no count of new bytes; it can be told and compared -/
def Bad (K : PySem.W.Frag) (H : Hp) (x : V) : Prop := Out K H x 1 65535 ∧ Vl K H x
theorem Bad.same {K : PySem.W.Frag} {H H' : Hp} {x : V} (h : Bad K H x) (s : Same H H') : Bad K H' x := ⟨h.1.same s, h.2.sm s⟩
theorem Bad.odd {K : PySem.W.Frag} {H : Hp} {x : V} (h : Odd K H x) : Bad K H x := ⟨.odd h.1, h.2⟩
/-- all stands but objects of classes -/
def LT (H H' : Hp) : Prop := ∀ a o, (∀ C dx fs, o ≠ .ins C dx fs) → H a = some o → H' a = some o
theorem LT.refl {H : Hp} : LT H H := fun _ _ _ h => h
def sp__law_bad (K : PySem.W.Frag) : Sp := fun vs H Q _ => ∃ (a : Addr), vs = [.ref a] ∧ Bx a H ∧ ∀ v H', (∀ H'', LT H' H'' → Bad K H'' v) → Bx a H' → SameX a H H' → Q v H'
theorem ok__law_bad (T : Txt K mg) : FnOk P w K mg base CX0 2 T.a__law_bad T.fd__law_bad ["box"] (sp__law_bad K) := by
  have S := sc__law_bad
  refine T.F__law_bad.ok S (fun vs H Q E h => ?_) (fun cdv A outer s H vs Q E hr h => ?_)
  · obtain ⟨a, rfl, _⟩ := h
    rfl
  · obtain ⟨a, rfl, B0, k⟩ := h
    refine ⟨_, (pss_cons (ps_set (i := 1) S.nd rfl (Or.inl rfl) (pe_call (ok__law_draw T) (hr.mono (by decide)) rfl T.g__law_draw T.F__law_draw.kp T.B__law_draw .nil pass0 (pa_cons (pv 0) (pa_cons pe_int pa_nil))))
      (pss_cons (ps_if (pt_cmpR op_eq (pv 1) pe_int (nomark _)) (pss_one (ps_ret pe_int)) pss_nil)
      (pss_cons (ps_if (pt_cmpR op_eq (pv 1) pe_int (nomark _)) (pss_one (ps_ret (pe_op op_sub (pe_un un_neg pe_int) (pe_call (ok__law_draw T) (hr.mono (by decide)) rfl T.g__law_draw T.F__law_draw.kp T.B__law_draw .nil pass0 (pa_cons (pv 0) (pa_cons (pe_op op_pow pe_int pe_int) pa_nil)))))) pss_nil)
      (pss_cons (ps_if (pt_cmpR op_eq (pv 1) pe_int (nomark _)) (pss_one (ps_ret (pe_op op_add pe_int (pe_call (ok__law_draw T) (hr.mono (by decide)) rfl T.g__law_draw T.F__law_draw.kp T.B__law_draw .nil pass0 (pa_cons (pv 0) (pa_cons (pe_op op_pow pe_int pe_int) pa_nil)))))) pss_nil)
      (pss_one (ps_ret (pe_ix ix_list (pe_lst (pa_cons pe_bl (pa_cons pe_non (pa_cons pe_str (pa_cons (pe_lst (pa_cons pe_int pa_nil)) (pa_cons (pe_tup (pa_cons pe_int pa_nil)) pa_nil)))))) (pe_op op_sub (pv 1) pe_int) (fun _ _ => rfl)))))))), ?_⟩
    refine st__law_bad ?_
    o_args
    refine ⟨a, 8, rfl, B0, by decide, by decide, fun way H1 a1 b1 B1 s1 => ?_⟩
    o_args
    refine brD (fun q => ?_) (fun q => ?_)
    · o_args
      exact k _ _ (fun _ _ => ⟨.int (by omega), .int _⟩) B1 s1
    o_args
    refine brD (fun q => ?_) (fun q => ?_)
    · o_args
      refine ⟨a, _, rfl, B1, by decide, by decide, fun d H2 a2 b2 B2 s2 => ?_⟩
      o_args
      exact k _ _ (fun _ _ => ⟨.int (by omega), .int _⟩) B2 (s1.trans s2)
    o_args
    refine brD (fun q => ?_) (fun q => ?_)
    · o_args
      refine ⟨a, _, rfl, B1, by decide, by decide, fun d H2 a2 b2 B2 s2 => ?_⟩
      o_args
      exact k _ _ (fun _ _ => ⟨.int (by omega), .int _⟩) B2 (s1.trans s2)
    o_args
    refine newList (by simp) fun l H2 hl s2 h2 => ?_
    o_args
    refine newTup (by simp) fun t H3 ht s3 h3 => ?_
    o_args
    refine newList (by simp) fun m H4 hm s4 h4 => ?_
    o_args
    have S4 : SameX a H H4 := s1.trans (SameX.of ((s2.trans s3).trans s4))
    have B4 : Bx a H4 := B1.same ((s2.trans s3).trans s4)
    obtain ⟨j, hj, jl⟩ : ∃ j : Nat, way - 3 = j ∧ j < 5 := ⟨(way - 3).toNat, by omega, by omega⟩
    rw [hj]
    have hx : ∃ v, [V.bl true, .non, .str "5", .ref l, .ref t][j]? = some v ∧ ∀ H'', LT H4 H'' → Bad K H'' v := by
      match j, jl with
      | 0, _ => exact ⟨_, rfl, fun H5 L => .odd (.mk' (.base (.bl true)) (i := true) (b := true) (by decide +kernel) (by decide +kernel) rfl (.bl true) (by decide +kernel))⟩
      | 1, _ => exact ⟨_, rfl, fun H5 L => .odd (.mk' (.base .non) (i := false) (b := false) (by decide +kernel) (by decide +kernel) rfl .non (by decide +kernel))⟩
      | 2, _ => exact ⟨_, rfl, fun H5 L => .odd (.mk' (.base (.str _)) (i := false) (b := false) (by decide +kernel) (by decide +kernel) rfl (.str _) (by decide +kernel))⟩
      | 3, _ => exact ⟨_, rfl, fun H5 L => .odd (Odd.lst (ns := [5]) (L _ _ (fun _ _ _ z => nomatch z) (s4 _ _ (s3 _ _ h2))))⟩
      | 4, _ => exact ⟨_, rfl, fun H5 L => .odd (Odd.tup (ns := [5]) (L _ _ (fun _ _ _ z => nomatch z) (s4 _ _ h3)))⟩
    obtain ⟨v, e, hb⟩ := hx
    refine ixL h4 e ?_
    exact k _ _ hb B4 S4
/-! ### all but a list's stands -/
def Off (l : List Addr) (H H' : Hp) : Prop := ∀ b o, b ∉ l → H b = some o → H' b = some o
theorem Off.refl {l : List Addr} {H : Hp} : Off l H H := fun _ _ _ h => h
theorem Off.trans {l : List Addr} {H H1 H2 : Hp} (x : Off l H H1) (y : Off l H1 H2) : Off l H H2 := fun b o n h => y b o n (x b o n h)
theorem Off.of {l : List Addr} {H H' : Hp} (s : Same H H') : Off l H H' := fun b o _ h => s b o h
theorem Off.ofX {l : List Addr} {a : Addr} {H H' : Hp} (h : a ∈ l) (s : SameX a H H') : Off l H H' := fun b o n e => s b o (fun q => n (q ▸ h)) e
theorem Off.more {l m : List Addr} {H H' : Hp} (x : Off l H H') (h : ∀ b ∈ l, b ∈ m) : Off m H H' := fun b o n e => x b o (fun q => n (h b q)) e
/-! ### whole numbers, truths -/
def sp__law_whole : Sp := fun vs H Q _ => ∃ (i j : Int), vs = [.int i, .int j] ∧ Q (.bl (decide (i = j))) H
theorem ok__law_whole (T : Txt K mg) : FnOk P w K mg base CX0 1 T.a__law_whole T.fd__law_whole ["value", "wanted"] (sp__law_whole) := by
  have S := sc__law_whole
  refine T.F__law_whole.ok S (fun vs H Q E h => ?_) (fun cdv A outer s H vs Q E hr h => ?_)
  · obtain ⟨i, j, rfl, _⟩ := h
    rfl
  · obtain ⟨i, j, rfl, k⟩ := h
    refine ⟨_, (pss_one (ps_ret (pe_and (pe_callB (id := "isinstance") call_isi (by rfl) T.b_isinstance (by decide +kernel) (pa_cons (pv 0) (pa_cons (pe_bltn (v := .ty "int") (u := .type "int") (by rfl) T.b_int (by decide +kernel) rfl) pa_nil))) (pe_and (pe_not (pe_callB (id := "isinstance") call_isi (by rfl) T.b_isinstance (by decide +kernel) (pa_cons (pv 0) (pa_cons (pe_bltn (v := .ty "bool") (u := .type "bool") (by rfl) T.b_bool (by decide +kernel) rfl) pa_nil)))) (pe_one (pe_cmpR op_eq (pv 0) (pv 1) (nomark _))))))), ?_⟩
    refine st__law_whole ?_
    o_args
    refine ⟨_, _, _, _, true, rfl, .ty _, .base (.int i), kit_ty (by decide +kernel), ?_⟩
    o_args
    refine ⟨_, _, _, _, false, rfl, .ty _, .base (.int i), kit_ty (by decide +kernel), ?_⟩
    o_args
    exact k
def sp__law_truth : Sp := fun vs H Q _ => ∃ (i j : Bool), vs = [.bl i, .bl j] ∧ Q (.bl (decide (i = j))) H
theorem ok__law_truth (T : Txt K mg) : FnOk P w K mg base CX0 1 T.a__law_truth T.fd__law_truth ["value", "wanted"] (sp__law_truth) := by
  have S := sc__law_truth
  refine T.F__law_truth.ok S (fun vs H Q E h => ?_) (fun cdv A outer s H vs Q E hr h => ?_)
  · obtain ⟨i, j, rfl, _⟩ := h
    rfl
  · obtain ⟨i, j, rfl, k⟩ := h
    refine ⟨_, (pss_one (ps_ret (pe_and (pe_callB (id := "isinstance") call_isi (by rfl) T.b_isinstance (by decide +kernel) (pa_cons (pv 0) (pa_cons (pe_bltn (v := .ty "bool") (u := .type "bool") (by rfl) T.b_bool (by decide +kernel) rfl) pa_nil))) (pe_one (pe_cmpR (op_eqD hr.units) (pv 0) (pv 1) (nomark _)))))), ?_⟩
    refine st__law_truth ?_
    o_args
    refine ⟨_, _, _, _, true, rfl, .ty _, .base (.bl i), kit_ty (by decide +kernel), ?_⟩
    o_args
    refine ⟨.bool i, .bool j, .bl i, .bl j, by cases i <;> decide +kernel, by cases j <;> decide +kernel, ?_⟩
    rw [show PyData.eqv (.bool i) (.bool j) = decide (i = j) by cases i <;> cases j <;> decide +kernel]
    exact k
/-! ### what was made, one by one -/
structure Alive (l : List Addr) (H : Hp) : Prop where
  nd : l.Nodup
  at_ : ∀ a ∈ l, ∃ o, H a = some o
theorem Alive.nil {H : Hp} : Alive [] H := ⟨List.nodup_nil, fun a h => absurd h List.not_mem_nil⟩
theorem Alive.same {l : List Addr} {H H' : Hp} (A : Alive l H) (s : Same H H') : Alive l H' := ⟨A.nd, fun a h => (A.at_ a h).elim fun o e => ⟨o, s _ _ e⟩⟩
theorem Alive.ne {l : List Addr} {H : Hp} {b : Addr} (A : Alive l H) (hb : H b = none) : b ∉ l := fun h => by
  obtain ⟨o, e⟩ := A.at_ b h
  rw [hb] at e
  cases e
theorem Alive.cons {l : List Addr} {H H' : Hp} {b : Addr} {o : HO} (A : Alive l H) (hb : H b = none) (s : Same H H') (h : H' b = some o) : Alive (b :: l) H' :=
  ⟨List.nodup_cons.mpr ⟨A.ne hb, A.nd⟩, fun a ha => by
    rcases List.mem_cons.mp ha with e | ha
    · exact ⟨o, e ▸ h⟩
    · exact (A.same s).at_ a ha⟩
theorem made_same {H H' : Hp} {x dx C : Addr} (hx : H x = none) (hdx : H dx = none) (s : SameX x (upd (upd H dx (.own x)) x (.ins C dx [])) H') : Same H H' := fun b o eb => s b o (ne_of_none eb hx) (by rw [upd_ne (ne_of_none eb hx), upd_ne (ne_of_none eb hdx)]; exact eb)
theorem Off.same {l : List Addr} {H H1 H2 : Hp} {b : Addr} (s : Same H H1) (o : SameX b H1 H2) (h : b ∈ l) : Off l H H2 := (Off.of s).trans (Off.ofX h o)
theorem notin {a b : Addr} {big l : List Addr} (h : a ∉ big) (n : a ≠ b) (sub : ∀ x ∈ l, x = b ∨ x ∈ big) : a ∉ l := fun m => by
  rcases sub a m with e | e
  · exact n e
  · exact h e
theorem ne_in {a b : Addr} {big : List Addr} (h : a ∉ big) (m : b ∈ big) : a ≠ b := fun e => h (e ▸ m)
/-! ### range of two, a comprehension whose list's place is told -/
theorem x_for2 {ta : TA} {g : TG} {ts : TS} {D : Ends} {σ : L2.St} {H : Hp} (q : ta σ H fun vs H1 => ∃ i j : Int, vs = [.int i, .int j] ∧ (-(2 ^ 62) ≤ i ∧ i < 2 ^ 62 ∧ -(2 ^ 62) ≤ j ∧ j < 2 ^ 62) ∧ forK (Itr i (j - i).toNat) g ts D σ H1) : tFor (iRng2 ta) g ts D σ H := q
/-- lc_lstN, the made list's place told -/
theorem lc_lstD {K : PySem.W.Frag} {a : Addr} {xs : List V} {te tel : TE} {σ : L2.St} {H : Hp} {Q : VK} {j : Nat} (P : Addr → Nat → List V → Hp → Prop) (hte : ∀ R' : VK, R' (.ref a) H → te σ H R') (hS : SqL K H a xs) (hz : xs.length < 100000) (h0 : ∀ D H', P D 0 [] H')
    (hw : ∀ D H1 H2 i vs, SameX D H1 H2 → P D i vs H1 → P D i vs H2)
    (hs : ∀ D i x vs H', xs[i]? = some x → Same H H' → P D i vs H' → vs.length = i → H D = none → (∃ o, H' D = some o) → ∀ Qe : VK, (∀ v H'', Same H' H'' → P D (i + 1) (vs ++ [v]) H'' → Qe v H'') → tel ((σ.set j none).set j (some x)) H' Qe)
    (hd : ∀ D vs H', H D = none → vs.length = xs.length → P D xs.length vs H' → H' D = some (.lst vs) → Same H H' → Q (.ref D) H') : tLc (iList K te) (gName j) tYes tel [j] σ H Q := by
  refine hte _ ⟨a, rfl, ⟨_, hS⟩, fun D hD => lc_list (K := K) (a := a) (xs := xs) (fun i H' => ∃ vs : List V, vs.length = i ∧ P D i vs H' ∧ H' D = some (.lst vs) ∧ SameX D H H') ⟨[], rfl, h0 _ _, upd_same, SameX.upd⟩ (fun i H' _ ⟨_, _, _, _, h⟩ => (Same.ofX hD h).seq hS) ?_ ?_⟩
  · rintro i x H' hi ⟨vs, hl, hr, h1, h2⟩
    refine ⟨?_, ?_⟩
    · show ((((σ.set j none).set j (some x)).set j none) = σ.set j none)
      rw [List.set_set, List.set_set]
    dsimp only [tYes]
    rw [if_pos rfl]
    have S0 := Same.ofX hD h2
    refine hs D i x vs H' hi S0 hr hl hD ⟨_, h1⟩ _ fun v H'' s2 r => ⟨vs, s2 _ _ h1, ?_, vs ++ [v], ?_, hw D H'' _ _ _ SameX.upd r, upd_same, (h2.trans (SameX.of s2)).upd'⟩
    · have := getq_lt hi
      exact Nat.lt_of_lt_of_le (show vs.length < 100000 by omega) (by decide)
    · rw [List.length_append, hl]; rfl
  · rintro H' ⟨vs, hl, hr, h1, h2⟩
    exact hd D vs H' hD hl hr h1 (Same.ofX hD h2)
theorem seqA {K : PySem.W.Frag} {H H' : Hp} {a : Addr} {xs : List V} (h : SqL K H a xs) (k : ∀ o, H a = some o → H' a = some o) : SqL K H' a xs := by
  rcases h with (h | ⟨o, h⟩) | h
  · exact .inl (.inl (k _ h))
  · exact .inl (.inr ⟨o, k _ h⟩)
  · exact .inr h

/-! ### the law's looks -/
def Cs.row (x : Cs) : List V := [.int x.u, .int x.w, .int x.t, .int x.c, .bl x.st]
def Ob (Cb Cf : Addr) (fx : Bool) (x : Cs) (a : Addr) (H : Hp) : Prop := (fx = false ∧ NB.CtAt Cb H a x) ∨ (fx = true ∧ NF.CtAt Cf H a x)
theorem Ob.off {Cb Cf : Addr} {fx : Bool} {x : Cs} {a : Addr} {l : List Addr} {H H' : Hp} (h : Ob Cb Cf fx x a H) (s : Off l H H') (n : a ∉ l) : Ob Cb Cf fx x a H' := h.elim (fun ⟨e, dx, h⟩ => .inl ⟨e, dx, s _ _ n h⟩) fun ⟨e, dx, h⟩ => .inr ⟨e, dx, s _ _ n h⟩
theorem Ob.on {Cb Cf : Addr} {fx : Bool} {x : Cs} {a b : Addr} {H H' : Hp} (h : Ob Cb Cf fx x a H) (s : SameX b H H') (n : a ≠ b) : Ob Cb Cf fx x a H' := h.off (l := [b]) (Off.ofX (by simp) s) (by simp [n])
theorem Ob.same {Cb Cf : Addr} {fx : Bool} {x : Cs} {a : Addr} {H H' : Hp} (h : Ob Cb Cf fx x a H) (s : Same H H') : Ob Cb Cf fx x a H' := h.off (l := []) (Off.of s) (by simp)
theorem Ob.kind {Cb Cf : Addr} {fx : Bool} {x : Cs} {a : Addr} {H : Hp} (h : Ob Cb Cf fx x a H) : ∃ C dx fs, H a = some (.ins C dx fs) := h.elim (fun ⟨_, _, h⟩ => ⟨_, _, _, h⟩) fun ⟨_, _, h⟩ => ⟨_, _, _, h⟩
theorem Ob.ne {Cb Cf : Addr} {fx : Bool} {x : Cs} {a b : Addr} {H : Hp} {xs : List V} (h : Ob Cb Cf fx x a H) (g : H b = some (.lst xs)) : a ≠ b := fun e => by
  obtain ⟨C, dx, fs, h⟩ := h.kind
  rw [e, g] at h
  cases h
structure Good (x : Cs) : Prop where
  u1 : 1 ≤ x.u
  u2 : x.u ≤ 65535
  c0 : x.c = 0
def ack (fx : Bool) (x : Cs) (n f : Int) : Cs := if fx = true then { x with st := false } else NB.Cs.acked x n f
def los (fx : Bool) (x : Cs) (f : Int) : Cs := if fx = true then x else NB.Cs.lost x f
def exp (fx : Bool) (x : Cs) (f : Int) : Cs := if fx = true then { x with st := true } else NB.Cs.expired x f
theorem Good.ack {x : Cs} (G : Good x) (fx : Bool) (n f : Int) : Good (My.ack fx x n f) := by
  unfold My.ack NB.Cs.acked
  split
  · exact ⟨G.u1, G.u2, G.c0⟩
  · split
    · exact ⟨G.u1, G.u2, G.c0⟩
    · split <;> exact ⟨G.u1, G.u2, G.c0⟩
theorem Good.los {x : Cs} (G : Good x) (fx : Bool) (f : Int) : Good (My.los fx x f) := by
  unfold My.los
  split
  · exact G
  · exact ⟨G.u1, G.u2, rfl⟩
theorem Good.exp {x : Cs} (G : Good x) (fx : Bool) (f : Int) : Good (My.exp fx x f) := by
  unfold My.exp
  split
  · exact ⟨G.u1, G.u2, G.c0⟩
  · exact ⟨G.u1, G.u2, rfl⟩
def sp__law_base (Cb Cf : Addr) : Sp := fun vs H Q _ => ∃ (e r : Addr) (x : Cs) (fx : Bool), vs = [.ref e, .ref r] ∧ Ob Cb Cf fx x e H ∧ H r = some (.lst x.row) ∧ Q (.bl true) H
theorem ok__law_base (T : Txt K mg) : FnOk P w K mg base CX0 3 T.a__law_base T.fd__law_base ["control", "state"] (sp__law_base T.c_Control T.c_Fixed) := by
  have S := sc__law_base
  refine T.F__law_base.ok S (fun vs H Q E h => ?_) (fun cdv A outer s H vs Q E hr h => ?_)
  · obtain ⟨e, r, x, fx, rfl, _⟩ := h
    rfl
  · obtain ⟨e, r, x, fx, rfl, hE, hr', k⟩ := h
    unfold Cs.row at hr'
    refine ⟨_, (pss_cons (ps_if (PW.pt (pw_or (pt_not (pt_val (pe_call (ok__law_whole T) (hr.mono (by decide)) rfl T.g__law_whole T.F__law_whole.kp T.B__law_whole .nil pass0 (pa_cons (pe_fld (pv 0) rfl) (pa_cons (pe_ix ix_list (pv 1) pe_int (fun _ _ => rfl)) pa_nil))))) (pw_or1 (pt_not (pt_val (pe_call (ok__law_whole T) (hr.mono (by decide)) rfl T.g__law_whole T.F__law_whole.kp T.B__law_whole .nil pass0 (pa_cons (pe_fld (pv 0) rfl) (pa_cons (pe_ix ix_list (pv 1) pe_int (fun _ _ => rfl)) pa_nil)))))))) (pss_one (ps_ret pe_bl)) pss_nil)
      (pss_cons (ps_if (PW.pt (pw_or (pt_not (pt_val (pe_call (ok__law_whole T) (hr.mono (by decide)) rfl T.g__law_whole T.F__law_whole.kp T.B__law_whole .nil pass0 (pa_cons (pe_fld (pv 0) rfl) (pa_cons (pe_ix ix_list (pv 1) pe_int (fun _ _ => rfl)) pa_nil))))) (pw_or1 (pt_not (pt_val (pe_call (ok__law_whole T) (hr.mono (by decide)) rfl T.g__law_whole T.F__law_whole.kp T.B__law_whole .nil pass0 (pa_cons (pe_fld (pv 0) rfl) (pa_cons (pe_ix ix_list (pv 1) pe_int (fun _ _ => rfl)) pa_nil)))))))) (pss_one (ps_ret pe_bl)) pss_nil)
      (pss_one (ps_ret (pe_and (pe_call (ok__law_truth T) (hr.mono (by decide)) rfl T.g__law_truth T.F__law_truth.kp T.B__law_truth .nil pass0 (pa_cons (pe_fld (pv 0) rfl) (pa_cons (pe_ix ix_list (pv 1) pe_int (fun _ _ => rfl)) pa_nil))) (pe_one (pe_call (ok__law_truth T) (hr.mono (by decide)) rfl T.g__law_truth T.F__law_truth.kp T.B__law_truth .nil pass0 (pa_cons (pe_ei (pe_prop (pv 0) T.cl_Control T.PR_Control_starting (NB.ok_Control_starting T) (hr.mono (by decide)) T.B_Control_starting .nil pass0 rfl) (pe_prop (pv 0) T.cl_Fixed T.PR_Fixed_starting (NF.ok_Control_starting T) (hr.mono (by decide)) T.B_Control_starting .nil pass0 rfl)) (pa_cons (pe_cmpR op_lt (pe_ix ix_list (pv 1) pe_int (fun _ _ => rfl)) (pe_ix ix_list (pv 1) pe_int (fun _ _ => rfl)) (nomark _)) pa_nil))))))))), ?_⟩
    refine st__law_base ?_
    o_args
    rcases hE with ⟨_, dx, he⟩ | ⟨_, dx, he⟩
    · refine fget he T.cl_Control T.n_Control_unit rfl ?_
      o_args
      refine ⟨_, _, rfl, ?_⟩
      rw [decide_eq_true rfl]
      o_args
      refine fget he T.cl_Control T.n_Control_window rfl ?_
      o_args
      refine ⟨_, _, rfl, ?_⟩
      rw [decide_eq_true rfl]
      o_args
      refine fget he T.cl_Control T.n_Control_threshold rfl ?_
      o_args
      refine ⟨_, _, rfl, ?_⟩
      rw [decide_eq_true rfl]
      o_args
      refine fget he T.cl_Control T.n_Control_credit rfl ?_
      o_args
      refine ⟨_, _, rfl, ?_⟩
      rw [decide_eq_true rfl]
      o_args
      refine fget he T.cl_Control T.n_Control_stalled rfl ?_
      o_args
      refine ⟨_, _, rfl, ?_⟩
      rw [decide_eq_true rfl]
      o_args
      refine .inl ?_
      o_args
      refine ⟨e, dx, _, rfl, he, e, x, rfl, ⟨dx, he⟩, ?_⟩
      o_args
      refine ⟨_, _, rfl, ?_⟩
      rw [decide_eq_true rfl]
      exact k
    · refine fget he T.cl_Fixed T.n_Fixed_unit rfl ?_
      o_args
      refine ⟨_, _, rfl, ?_⟩
      rw [decide_eq_true rfl]
      o_args
      refine fget he T.cl_Fixed T.n_Fixed_window rfl ?_
      o_args
      refine ⟨_, _, rfl, ?_⟩
      rw [decide_eq_true rfl]
      o_args
      refine fget he T.cl_Fixed T.n_Fixed_threshold rfl ?_
      o_args
      refine ⟨_, _, rfl, ?_⟩
      rw [decide_eq_true rfl]
      o_args
      refine fget he T.cl_Fixed T.n_Fixed_credit rfl ?_
      o_args
      refine ⟨_, _, rfl, ?_⟩
      rw [decide_eq_true rfl]
      o_args
      refine fget he T.cl_Fixed T.n_Fixed_stalled rfl ?_
      o_args
      refine ⟨_, _, rfl, ?_⟩
      rw [decide_eq_true rfl]
      o_args
      refine .inr ?_
      o_args
      refine ⟨e, dx, _, rfl, he, e, x, rfl, ⟨dx, he⟩, ?_⟩
      o_args
      refine ⟨_, _, rfl, ?_⟩
      rw [decide_eq_true rfl]
      exact k
def sp__law_state : Sp := fun vs H Q _ => ∃ (u t : Int), vs = [.int u, .int t] ∧ 1 ≤ u ∧ u ≤ 65535 ∧ ∀ l H', H l = none → Same H H' → H' l = some (.lst (Cs.row ⟨u, u * t, 4194304, 0, false⟩)) → Q (.ref l) H'
theorem ok__law_state (T : Txt K mg) : FnOk P w K mg base CX0 1 T.a__law_state T.fd__law_state ["unit", "times"] (sp__law_state) := by
  have S := sc__law_state
  refine T.F__law_state.ok S (fun vs H Q E h => ?_) (fun cdv A outer s H vs Q E hr h => ?_)
  · obtain ⟨u, t, rfl, _⟩ := h
    rfl
  · obtain ⟨u, t, rfl, u1, u2, k⟩ := h
    refine ⟨_, (pss_one (ps_ret (pe_lst (pa_cons (pv 0) (pa_cons (pe_op op_mul (pv 0) (pv 1)) (pa_cons pe_int (pa_cons pe_int (pa_cons pe_bl pa_nil)))))))), ?_⟩
    refine st__law_state ?_
    o_args
    refine x_mulL ⟨by omega, by omega⟩ ?_
    o_args
    refine newList (by simp) fun l H1 nl s1 h1 => ?_
    o_args
    exact k l H1 nl s1 h1
def sp__law_acked : Sp := fun vs H Q _ => ∃ (r : Addr) (x : Cs) (fx : Bool) (n f : Int), vs = [.ref r, .bl fx, .int n, .int f] ∧ H r = some (.lst x.row) ∧ ∀ H', SameX r H H' → H' r = some (.lst (Cs.row (ack fx x n f))) → Q .non H'
theorem ok__law_acked (T : Txt K mg) : FnOk P w K mg base CX0 1 T.a__law_acked T.fd__law_acked ["state", "fixed", "count", "load"] (sp__law_acked) := by
  have S := sc__law_acked
  refine T.F__law_acked.ok S (fun vs H Q E h => ?_) (fun cdv A outer s H vs Q E hr h => ?_)
  · obtain ⟨r, x, fx, n, f, rfl, _⟩ := h
    rfl
  · obtain ⟨r, x, fx, n, f, rfl, hr', k⟩ := h
    unfold Cs.row at hr'
    unfold ack NB.Cs.acked at k
    refine ⟨_, (pss_cons (ps_asg pe_bl (pg_sub (pv 0) pe_int set_list))
      (pss_one (ps_if (PW.pt (pw_and (pt_not (pt_val (pv 1))) (pw_and (pt_cmpR op_ge (pe_op op_mul pe_int (pe_op op_add (pv 3) (pv 2))) (pe_ix ix_list (pv 0) pe_int (fun _ _ => rfl)) (nomark _)) (pw_and1 (pt_cmpR op_lt (pe_ix ix_list (pv 0) pe_int (fun _ _ => rfl)) (pe_ix ix_list (pv 0) pe_int (fun _ _ => rfl)) (nomark _)))))) (pss_one (ps_asg (pe_callB (id := "min") (call_min2K rfl) (by rfl) T.b_min (by decide +kernel) (pa_cons pe_int (pa_cons (pe_op op_add (pe_ix ix_list (pv 0) pe_int (fun _ _ => rfl)) (pe_callB (id := "min") (call_min2K rfl) (by rfl) T.b_min (by decide +kernel) (pa_cons (pv 2) (pa_cons (pe_ix ix_list (pv 0) pe_int (fun _ _ => rfl)) pa_nil)))) pa_nil))) (pg_sub (pv 0) pe_int set_list))) pss_nil))), ?_⟩
    refine st__law_acked ?_
    o_args
    refine setL (i := 4) hr' (by simp) fun H1 s1 h1 => ?_
    have h1 : H1 r = some (.lst [.int x.u, .int x.w, .int x.t, .int x.c, .bl false]) := h1
    o_args
    cases fx with
    | true =>
      rw [if_pos rfl] at k
      o_args
      exact k H1 s1 h1
    | false =>
      rw [if_neg Bool.false_ne_true] at k
      o_args
      refine brD (fun q => ?_) (fun q => ?_)
      · rw [if_neg (by omega)] at k
        o_args
        refine brD (fun q' => ?_) (fun q' => ?_)
        · rw [if_pos q'] at k
          o_args
          refine setL (i := 1) h1 (by simp) fun H2 s2 h2 => ?_
          o_args
          refine k H2 (s1.trans s2) ?_
          rw [h2, show min 4194304 (x.w + min n x.u) = min (x.w + min n x.u) 4194304 by omega]
          rfl
        · rw [if_neg q'] at k
          o_args
          exact k H1 s1 h1
      · rw [if_pos (by omega)] at k
        o_args
        exact k H1 s1 h1
def sp__law_lost : Sp := fun vs H Q _ => ∃ (r : Addr) (x : Cs) (fx : Bool) (f : Int), vs = [.ref r, .bl fx, .int f] ∧ H r = some (.lst x.row) ∧ Good x ∧ ∀ H', SameX r H H' → H' r = some (.lst (Cs.row (los fx x f))) → Q .non H'
theorem ok__law_lost (T : Txt K mg) : FnOk P w K mg base CX0 1 T.a__law_lost T.fd__law_lost ["state", "fixed", "load"] (sp__law_lost) := by
  have S := sc__law_lost
  refine T.F__law_lost.ok S (fun vs H Q E h => ?_) (fun cdv A outer s H vs Q E hr h => ?_)
  · obtain ⟨r, x, fx, f, rfl, _⟩ := h
    rfl
  · obtain ⟨r, x, fx, f, rfl, hr', G, k⟩ := h
    have hr0 := hr'
    unfold Cs.row at hr'
    unfold los at k
    refine ⟨_, (pss_one (ps_if (pt_not (pt_val (pv 1))) (pss_cons (ps_asg (pe_callB (id := "max") (call_max2K rfl) (by rfl) T.b_max (by decide +kernel) (pa_cons (pe_op op_fdiv (pv 2) pe_int) (pa_cons (pe_op op_mul pe_int (pe_ix ix_list (pv 0) pe_int (fun _ _ => rfl))) pa_nil))) (pg_sub (pv 0) pe_int set_list))
      (pss_one (ps_asg (pe_callB (id := "min") (call_min2K rfl) (by rfl) T.b_min (by decide +kernel) (pa_cons pe_int (pa_cons (pe_ix ix_list (pv 0) pe_int (fun _ _ => rfl)) pa_nil))) (pg_sub (pv 0) pe_int set_list)))) pss_nil)), ?_⟩
    refine st__law_lost ?_
    o_args
    cases fx with
    | true =>
      rw [if_pos rfl] at k
      o_args
      exact k H SameX.refl hr0
    | false =>
      rw [if_neg Bool.false_ne_true] at k
      o_args
      refine setL (i := 2) hr' (by simp) fun H1 s1 h1 => ?_
      have h1 : H1 r = some (.lst [.int x.u, .int x.w, .int (max (f / 2) (2 * x.u)), .int x.c, .bl x.st]) := h1
      o_args
      refine setL (i := 1) h1 (by simp) fun H2 s2 h2 => ?_
      o_args
      refine k H2 (s1.trans s2) ?_
      rw [h2, show min 4194304 (max (f / 2) (2 * x.u)) = min (max (f / 2) (2 * x.u)) 4194304 by omega, G.c0]
      rfl
def sp__law_expired : Sp := fun vs H Q _ => ∃ (r : Addr) (x : Cs) (fx : Bool) (f : Int), vs = [.ref r, .bl fx, .int f] ∧ H r = some (.lst x.row) ∧ Good x ∧ ∀ H', SameX r H H' → H' r = some (.lst (Cs.row (exp fx x f))) → Q .non H'
theorem ok__law_expired (T : Txt K mg) : FnOk P w K mg base CX0 1 T.a__law_expired T.fd__law_expired ["state", "fixed", "load"] (sp__law_expired) := by
  have S := sc__law_expired
  refine T.F__law_expired.ok S (fun vs H Q E h => ?_) (fun cdv A outer s H vs Q E hr h => ?_)
  · obtain ⟨r, x, fx, f, rfl, _⟩ := h
    rfl
  · obtain ⟨r, x, fx, f, rfl, hr', G, k⟩ := h
    unfold Cs.row at hr'
    refine ⟨_, (C8.pss_cut (ps_if (pt_not (pt_val (pv 1))) (C8.pss_cut (ps_if (pt_not (pt_val (pe_ix ix_list (pv 0) pe_int (fun _ _ => rfl)))) (pss_one (ps_asg (pe_callB (id := "max") (call_max2K rfl) (by rfl) T.b_max (by decide +kernel) (pa_cons (pe_op op_fdiv (pv 2) pe_int) (pa_cons (pe_op op_mul pe_int (pe_ix ix_list (pv 0) pe_int (fun _ _ => rfl))) pa_nil))) (pg_sub (pv 0) pe_int set_list))) pss_nil)
      (pss_one (ps_asg (pe_ix ix_list (pv 0) pe_int (fun _ _ => rfl)) (pg_sub (pv 0) pe_int set_list)))) pss_nil)
      (pss_one (ps_asg pe_bl (pg_sub (pv 0) pe_int set_list)))), ?_⟩
    refine st__law_expired ?_
    o_args
    refine ⟨fun σ H' => σ = [some (.ref r), some (.bl fx), some (.int f)] ∧ SameX r H H' ∧ H' r = some (.lst [.int x.u, .int (if fx = true then x.w else x.u), .int (if fx = true then x.t else if x.st = true then x.t else max (f / 2) (2 * x.u)), .int x.c, .bl x.st]), ?_, ?_⟩
    · cases fx with
      | true =>
        o_args
        exact ⟨rfl, SameX.refl, by rw [if_pos rfl, if_pos rfl]; exact hr'⟩
      | false =>
        o_args
        refine ⟨fun σ H' => σ = [some (.ref r), some (.bl false), some (.int f)] ∧ SameX r H H' ∧ H' r = some (.lst [.int x.u, .int x.w, .int (if x.st = true then x.t else max (f / 2) (2 * x.u)), .int x.c, .bl x.st]), ?_, ?_⟩
        · o_args
          cases hst : x.st with
          | true =>
            rw [hst] at hr'
            o_args
            exact ⟨rfl, SameX.refl, by rw [if_pos rfl]; exact hr'⟩
          | false =>
            rw [hst] at hr'
            o_args
            refine setL (i := 2) hr' (by simp) fun H1 s1 h1 => ?_
            o_args
            exact ⟨rfl, s1, by rw [if_neg Bool.false_ne_true]; exact h1⟩
        rintro σ H1 ⟨rfl, s1, h1⟩
        o_args
        refine setL (i := 1) h1 (by simp) fun H2 s2 h2 => ?_
        o_args
        exact ⟨rfl, s1.trans s2, by rw [if_neg Bool.false_ne_true, if_neg Bool.false_ne_true]; exact h2⟩
    rintro σ H1 ⟨rfl, s1, h1⟩
    o_args
    refine setL (i := 4) h1 (by simp) fun H2 s2 h2 => ?_
    o_args
    refine k H2 (s1.trans s2) ?_
    rw [h2]
    unfold exp NB.Cs.expired Cs.row
    cases fx with
    | true => rfl
    | false => rw [if_neg Bool.false_ne_true, if_neg Bool.false_ne_true, if_neg Bool.false_ne_true, G.c0]; rfl
def sp__law_refused (K : PySem.W.Frag) (Cb Cf : Addr) : Sp := fun vs H Q _ => ∃ (e : Addr) (b : V) (f : Int) (now : V) (x : Cs) (fx : Bool), vs = [.ref e, b, .int f, now] ∧ Ob Cb Cf fx x e H ∧ Bad K H b ∧ ∀ H', Same H H' → Q (.bl true) H'
theorem ok__law_refused (T : Txt K mg) : FnOk P w K mg base CX0 9 T.a__law_refused T.fd__law_refused ["control", "bad", "load", "now"] (sp__law_refused K T.c_Control T.c_Fixed) := by
  have S := sc__law_refused
  refine T.F__law_refused.ok S (fun vs H Q E h => ?_) (fun cdv A outer s H vs Q E hr h => ?_)
  · obtain ⟨e, b, f, now, x, fx, rfl, _⟩ := h
    rfl
  · obtain ⟨e, b, f, now, x, fx, rfl, hE, hb, k⟩ := h
    refine ⟨_, (pss_cons (ps_set (i := 4) S.nd rfl (Or.inl rfl) pe_int)
      (pss_cons (ps_for PassesOwn.never rfl (pi_range1 (by rfl) T.b_range (pa_cons pe_int pa_nil)) (pg_name (i := 5) S.nd rfl (Or.inl rfl)) (pss_one (ps_try_cl rfl rfl takes0 (fun W pn xe tk po => (pss_one (ps_if (pt_cmpR op_eq (pv 5) pe_int (nomark _)) (pss_one (ps_expr (pe_ei (pe_methX (pv 0) T.cl_Control T.m_Control_on_ack (NB.ok_Control_on_ack T) (hr.mono (by decide)) T.B_Control_on_ack (fun σ => passAt tk σ) (pa_cons (pv 1) (pa_cons (pv 2) (pa_cons (pv 3) pa_nil)))) (pe_methX (pv 0) T.cl_Fixed T.m_Fixed_on_ack (NF.ok_Fixed_on_ack T) (hr.mono (by decide)) T.B_Fixed_on_ack (fun σ => passAt tk σ) (pa_cons (pv 1) (pa_cons (pv 2) (pa_cons (pv 3) pa_nil))))))) (pss_one (ps_expr (pe_ei (pe_methX (pv 0) T.cl_Control T.m_Control_grow (NB.ok_Control_grow T) (hr.mono (by decide)) T.B_Control_grow (fun σ => passAt tk σ) (pa_cons (pv 1) (pa_cons (pv 3) pa_nil))) (pe_methX (pv 0) T.cl_Fixed T.m_Fixed_grow (NF.ok_Fixed_grow T) (hr.mono (by decide)) T.B_Fixed_grow (fun σ => passAt tk σ) (pa_cons (pv 1) (pa_cons (pv 3) pa_nil)))))))))
      (ClOk.named (i := 6) S.nd rfl rfl ⟨rfl, by decide, .inl T.X_InvalidNumber.g⟩ (fun a oe cls d pn hz hf => (pss_cons (ps_if (PW.pt (pw_or (pt_cmpR (show OpR _ _ (rNeD K) from op_neD hr.units) (pe_xg hz hf (pv 6)) (pv 1) (nomark _)) (pw_or1 (pt_cmpR op_ne (pe_callB (id := "isinstance") (show CallR _ (.builtin "isinstance") (rIsi K) from call_isi) (by rfl) T.b_isinstance (by decide +kernel) (pa_cons (pe_xg hz hf (pv 6)) (pa_cons (pe_bltn (v := .ty "bool") (u := .type "bool") (by rfl) T.b_bool (by decide +kernel) rfl) pa_nil))) (pe_callB (id := "isinstance") (show CallR _ (.builtin "isinstance") (rIsi K) from call_isi) (by rfl) T.b_isinstance (by decide +kernel) (pa_cons (pv 1) (pa_cons (pe_bltn (v := .ty "bool") (u := .type "bool") (by rfl) T.b_bool (by decide +kernel) rfl) pa_nil))) (nomark _))))) (pss_one (ps_ret pe_bl)) pss_nil)
      (pss_one (ps_aug (i := 4) S.nd rfl (.inl rfl) pe_int ip_add))))
      ClOk.nil))))
      (pss_one (ps_ret (pe_cmpR op_eq (pv 4) pe_int (nomark _)))))), ?_⟩
    refine st__law_refused ?_
    o_args
    refine rngF (n := 2) (by decide) (by decide) (for_rangeK (lo := 0) (n := (2 : Int).toNat) (fun i σ H' => ∃ v v' j, σ = [some (.ref e), some b, some (.int f), some now, some (.int j), v, v'] ∧ j = (i : Int) ∧ Same H H') ⟨none, none, 0, rfl, rfl, Same.refl _⟩ ?_ ?_)
    · rintro i σ H1 hi ⟨v, v', j, rfl, hj, s1⟩
      have hE1 := hE.same s1
      have hb1 := hb.same s1
      obtain ⟨t, bb, dd, h1, h2, h3, h4⟩ := hb1.2.ex
      have eqq := PySem.SeqAt.eqv_refl _ (PySem.SeqAt.canLay_of_shaped h4)
      o_args
      refine brD (fun q => ?_) (fun q => ?_)
      · o_args
        rcases hE1 with ⟨_, hE2⟩ | ⟨_, hE2⟩
        · obtain ⟨dx, he⟩ := id hE2
          refine .inl ?_
          o_args
          refine ⟨e, dx, _, rfl, he, rfl, ?_⟩
          o_args
          refine ⟨e, b, _, f, x, rfl, hE2, .inr ⟨hb1.1, fun d H2 s2 hx => ?_⟩⟩
          refine ⟨true, T.Me_InvalidNumber_InvalidNumber, fun _ a ha => ?_, fun z => nomatch z⟩
          o_args
          refine errF T.X_InvalidNumber.x T.nX_InvalidNumber hx rfl ?_
          o_args
          refine ⟨dd, dd, Dp.sm s2 _ _ h3, Dp.sm s2 _ _ h3, h4, h4, ?_⟩
          rw [eqq]
          o_args
          refine errF T.X_InvalidNumber.x T.nX_InvalidNumber hx rfl ?_
          o_args
          refine ⟨_, _, _, _, bb, rfl, .ty _, tyX_same h1 s2, h2, ?_⟩
          o_args
          refine ⟨_, _, _, _, bb, rfl, .ty _, tyX_same h1 s2, h2, ?_⟩
          refine ⟨rfl, ?_⟩
          rw [show (!decide (V.bl bb = V.bl bb)) = false by simp]
          o_args
          refine ⟨_, rfl, _, _, rfl, rfl, ?_⟩
          exact ⟨_, _, _, rfl, by show j + 1 = _; omega, s1.trans s2⟩
        · obtain ⟨dx, he⟩ := id hE2
          refine .inr ?_
          o_args
          refine ⟨e, dx, _, rfl, he, rfl, ?_⟩
          o_args
          refine ⟨e, b, _, f, x, rfl, hE2, .inr ⟨hb1.1, fun d H2 s2 hx => ?_⟩⟩
          refine ⟨true, T.Me_InvalidNumber_InvalidNumber, fun _ a ha => ?_, fun z => nomatch z⟩
          o_args
          refine errF T.X_InvalidNumber.x T.nX_InvalidNumber hx rfl ?_
          o_args
          refine ⟨dd, dd, Dp.sm s2 _ _ h3, Dp.sm s2 _ _ h3, h4, h4, ?_⟩
          rw [eqq]
          o_args
          refine errF T.X_InvalidNumber.x T.nX_InvalidNumber hx rfl ?_
          o_args
          refine ⟨_, _, _, _, bb, rfl, .ty _, tyX_same h1 s2, h2, ?_⟩
          o_args
          refine ⟨_, _, _, _, bb, rfl, .ty _, tyX_same h1 s2, h2, ?_⟩
          refine ⟨rfl, ?_⟩
          rw [show (!decide (V.bl bb = V.bl bb)) = false by simp]
          o_args
          refine ⟨_, rfl, _, _, rfl, rfl, ?_⟩
          exact ⟨_, _, _, rfl, by show j + 1 = _; omega, s1.trans s2⟩
      · o_args
        rcases hE1 with ⟨_, hE2⟩ | ⟨_, hE2⟩
        · obtain ⟨dx, he⟩ := id hE2
          refine .inl ?_
          o_args
          refine ⟨e, dx, _, rfl, he, rfl, ?_⟩
          o_args
          refine ⟨e, b, _, x, rfl, hE2, .inr ⟨hb1.1, fun d H2 s2 hx => ?_⟩⟩
          refine ⟨true, T.Me_InvalidNumber_InvalidNumber, fun _ a ha => ?_, fun z => nomatch z⟩
          o_args
          refine errF T.X_InvalidNumber.x T.nX_InvalidNumber hx rfl ?_
          o_args
          refine ⟨dd, dd, Dp.sm s2 _ _ h3, Dp.sm s2 _ _ h3, h4, h4, ?_⟩
          rw [eqq]
          o_args
          refine errF T.X_InvalidNumber.x T.nX_InvalidNumber hx rfl ?_
          o_args
          refine ⟨_, _, _, _, bb, rfl, .ty _, tyX_same h1 s2, h2, ?_⟩
          o_args
          refine ⟨_, _, _, _, bb, rfl, .ty _, tyX_same h1 s2, h2, ?_⟩
          refine ⟨rfl, ?_⟩
          rw [show (!decide (V.bl bb = V.bl bb)) = false by simp]
          o_args
          refine ⟨_, rfl, _, _, rfl, rfl, ?_⟩
          exact ⟨_, _, _, rfl, by show j + 1 = _; omega, s1.trans s2⟩
        · obtain ⟨dx, he⟩ := id hE2
          refine .inr ?_
          o_args
          refine ⟨e, dx, _, rfl, he, rfl, ?_⟩
          o_args
          refine ⟨e, b, _, x, rfl, hE2, .inr ⟨hb1.1, fun d H2 s2 hx => ?_⟩⟩
          refine ⟨true, T.Me_InvalidNumber_InvalidNumber, fun _ a ha => ?_, fun z => nomatch z⟩
          o_args
          refine errF T.X_InvalidNumber.x T.nX_InvalidNumber hx rfl ?_
          o_args
          refine ⟨dd, dd, Dp.sm s2 _ _ h3, Dp.sm s2 _ _ h3, h4, h4, ?_⟩
          rw [eqq]
          o_args
          refine errF T.X_InvalidNumber.x T.nX_InvalidNumber hx rfl ?_
          o_args
          refine ⟨_, _, _, _, bb, rfl, .ty _, tyX_same h1 s2, h2, ?_⟩
          o_args
          refine ⟨_, _, _, _, bb, rfl, .ty _, tyX_same h1 s2, h2, ?_⟩
          refine ⟨rfl, ?_⟩
          rw [show (!decide (V.bl bb = V.bl bb)) = false by simp]
          o_args
          refine ⟨_, rfl, _, _, rfl, rfl, ?_⟩
          exact ⟨_, _, _, rfl, by show j + 1 = _; omega, s1.trans s2⟩
    · rintro σ H1 ⟨v, v', j, rfl, hj, s1⟩
      have hj : j = 2 := hj
      subst hj
      o_args
      exact k H1 s1

/-! ### a deed -/
structure Trio (Cb Cf : Addr) (fx : Bool) (e r : Addr) (x : Cs) (H : Hp) : Prop where
  ob : Ob Cb Cf fx x e H
  hr : H r = some (.lst x.row)
  g : Good x
theorem Trio.off {Cb Cf : Addr} {fx : Bool} {e r : Addr} {x : Cs} {l : List Addr} {H H' : Hp} (t : Trio Cb Cf fx e r x H) (o : Off l H H') (h1 : e ∉ l) (h2 : r ∉ l) : Trio Cb Cf fx e r x H' := ⟨t.ob.off o h1, o _ _ h2 t.hr, t.g⟩
def sp__law_many (K : PySem.W.Frag) (Cb Cf : Addr) : Sp := fun vs H Q _ => ∃ (e r a p : Addr) (x : Cs) (fx : Bool) (now left : Int), vs = [.ref e, .ref r, .bl fx, .ref a, .ref p] ∧ Trio Cb Cf fx e r x H ∧ Bx a H ∧ H p = some (.lst [.int now, .int left]) ∧ 0 ≤ left ∧ left ≤ 140 ∧
  ∀ H' y left', Trio Cb Cf fx e r y H' → Bx a H' → H' p = some (.lst [.int now, .int left']) → 0 ≤ left' → left' ≤ 140 → Off [e, r, a, p] H H' → Q (.bl true) H'
theorem ok__law_many (T : Txt K mg) : FnOk P w K mg base CX0 9 T.a__law_many T.fd__law_many ["control", "state", "fixed", "box", "clock"] (sp__law_many K T.c_Control T.c_Fixed) := by
  have S := sc__law_many
  refine T.F__law_many.ok S (fun vs H Q E h => ?_) (fun cdv A outer s H vs Q E hr h => ?_)
  · obtain ⟨e, r, a, p, x, fx, now, left, rfl, _⟩ := h
    rfl
  · obtain ⟨e, r, a, p, x, fx, now, left, rfl, t, B0, hP, f0, f1, k⟩ := h
    have er : e ≠ r := t.ob.ne t.hr
    have ra : r ≠ a := B0.ne t.hr (by intro _ _ _ e; unfold Cs.row at e; cases e)
    have pa : p ≠ a := B0.ne hP
    have pr : p ≠ r := fun q => by rw [q, t.hr] at hP; unfold Cs.row at hP; cases hP
    have ea : e ≠ a := by obtain ⟨_, _, _, hb, _⟩ := id B0; exact t.ob.ne hb
    have ep : e ≠ p := t.ob.ne hP
    have hR := t.hr
    unfold Cs.row at hR
    refine ⟨_, (pss_cons (ps_set (i := 5) S.nd rfl (Or.inl rfl) (pe_callB (id := "min") (call_min2K rfl) (by rfl) T.b_min (by decide +kernel) (pa_cons (pe_ix ix_list (pv 4) pe_int (fun _ _ => rfl)) (pa_cons (pe_op op_add pe_int (pe_call (ok__law_draw T) (hr.mono (by decide)) rfl T.g__law_draw T.F__law_draw.kp T.B__law_draw .nil pass0 (pa_cons (pv 3) (pa_cons pe_int pa_nil)))) pa_nil))))
      (pss_cons (ps_set (i := 6) S.nd rfl (Or.inl rfl) (pe_call (ok__law_count T) (hr.mono (by decide)) rfl T.g__law_count T.F__law_count.kp T.B__law_count .nil pass0 (pa_cons (pv 3) (pa_cons (pe_ix ix_list (pv 1) pe_int (fun _ _ => rfl)) (pa_cons (pe_ix ix_list (pv 1) pe_int (fun _ _ => rfl)) pa_nil)))))
      (pss_cons (ps_augS (pv 4) pe_int (show PGet _ (rIxL K) from pget_list) (pv 5) ip_sub set_list)
      (pss_cons (ps_for PassesOwn.never rfl (pi_range1 (by rfl) T.b_range (pa_cons (pv 5) pa_nil)) (pg_name (i := 7) S.nd rfl (Or.inl rfl)) (pss_cons (ps_set (i := 8) S.nd rfl (Or.inl rfl) (pe_ix ix_list (pv 1) pe_int (fun _ _ => rfl)))
      (pss_cons (ps_expr (pe_call (ok__law_acked T) (hr.mono (by decide)) rfl T.g__law_acked T.F__law_acked.kp T.B__law_acked .nil pass0 (pa_cons (pv 1) (pa_cons (pv 2) (pa_cons (pv 6) (pa_cons (pv 8) pa_nil))))))
      (pss_one (ps_if (pt_cmpR op_notN (pe_ei (pe_meth (pv 0) T.cl_Control T.m_Control_on_ack (NB.ok_Control_on_ack T) (hr.mono (by decide)) T.B_Control_on_ack .nil passL (pa_cons (pv 6) (pa_cons (pv 8) (pa_cons (pe_ix ix_list (pv 4) pe_int (fun _ _ => rfl)) pa_nil)))) (pe_meth (pv 0) T.cl_Fixed T.m_Fixed_on_ack (NF.ok_Fixed_on_ack T) (hr.mono (by decide)) T.B_Fixed_on_ack .nil passL (pa_cons (pv 6) (pa_cons (pv 8) (pa_cons (pe_ix ix_list (pv 4) pe_int (fun _ _ => rfl)) pa_nil))))) pe_non (nomark _)) (pss_one (ps_ret pe_bl)) pss_nil)))))
      (pss_one (ps_ret pe_bl)))))), ?_⟩
    refine st__law_many ?_
    o_args
    refine ⟨a, _, rfl, B0, by decide, by decide, fun c H1 a1 b1 B1 s1 => ?_⟩
    have t1 := t.off (l := [a]) (Off.ofX (by simp) s1) (by simp [ea]) (by simp [ra])
    have hR1 := t1.hr
    unfold Cs.row at hR1
    have hP1 := s1 _ _ pa hP
    clear hR hP
    o_args
    refine ⟨a, _, _, rfl, B1, fun n H2 n1 n2 B2 s2 => ?_⟩
    have t2 := t1.off (l := [a]) (Off.ofX (by simp) s2) (by simp [ea]) (by simp [ra])
    have hP2 := s2 _ _ pa hP1
    clear hR1 hP1
    o_args
    refine setL (i := 1) hP2 (by simp) fun H3 s3 h3 => ?_
    have h3 : H3 p = some (.lst [.int now, .int (left - min left (1 + c))]) := h3
    have t3 := t2.off (l := [p]) (Off.ofX (by simp) s3) (by simp [ep]) (by simp [Ne.symm pr])
    have B3 := B2.on s3 (Ne.symm pa)
    have O3 : Off [e, r, a, p] H H3 := ((Off.ofX (by simp) s1).trans (Off.ofX (by simp) s2)).trans (Off.ofX (by simp) s3)
    clear hP2
    o_args
    refine rngF (n := min left (1 + c)) (by omega) (by omega) (for_rangeK (lo := 0) (n := (min left (1 + c)).toNat) (fun i σ H' => ∃ y v v2, σ = [some (.ref e), some (.ref r), some (.bl fx), some (.ref a), some (.ref p), some (.int (min left (1 + c))), some (.int n), v, v2] ∧ Trio T.c_Control T.c_Fixed fx e r y H' ∧ Off [e, r, a, p] H H' ∧ Off [e, r] H3 H') ⟨x, none, none, rfl, t3, O3, Off.refl⟩ ?_ ?_)
    · rintro i σ H4 hi ⟨y, v, v2, rfl, t4, O4, O4'⟩
      have hR4 := t4.hr
      have hR4' := hR4
      unfold Cs.row at hR4'
      o_args
      refine ⟨r, y, fx, n, y.w, rfl, hR4, fun H5 s5 h5 => ?_⟩
      have hE := t4.ob.on s5 er
      have hP5 := s5 _ _ pr (O4' _ _ (by simp [Ne.symm ep, pr]) h3)
      clear hR4' hR4 h3
      o_args
      rcases hE with ⟨rfl, hE⟩ | ⟨rfl, hE⟩
      · refine .inl ?_
        obtain ⟨dx, he⟩ := id hE
        o_args
        refine ⟨e, dx, _, rfl, he, rfl, ?_⟩
        o_args
        refine ⟨e, _, _, y.w, y, rfl, hE, .inl ⟨n, rfl, n1, n2, fun H6 s6 h6 => ?_⟩⟩
        o_args
        exact ⟨_, _, _, rfl, ⟨.inl ⟨rfl, h6⟩, s6 _ _ (Ne.symm er) h5, t4.g.ack false n y.w⟩, (O4.trans (Off.ofX (by simp) s5)).trans (Off.ofX (by simp) s6), (O4'.trans (Off.ofX (by simp) s5)).trans (Off.ofX (by simp) s6)⟩
      · refine .inr ?_
        obtain ⟨dx, he⟩ := id hE
        o_args
        refine ⟨e, dx, _, rfl, he, rfl, ?_⟩
        o_args
        refine ⟨e, _, _, y.w, y, rfl, hE, .inl ⟨n, rfl, n1, n2, fun H6 s6 h6 => ?_⟩⟩
        o_args
        exact ⟨_, _, _, rfl, ⟨.inr ⟨rfl, h6⟩, s6 _ _ (Ne.symm er) h5, t4.g.ack true n y.w⟩, (O4.trans (Off.ofX (by simp) s5)).trans (Off.ofX (by simp) s6), (O4'.trans (Off.ofX (by simp) s5)).trans (Off.ofX (by simp) s6)⟩
    · rintro σ H4 ⟨y, v, v2, rfl, t4, O4, O4'⟩
      o_args
      obtain ⟨bx, by_, bz, hb, b0⟩ := B3
      exact k H4 y _ t4 ⟨bx, by_, bz, O4' _ _ (by simp [Ne.symm ea, Ne.symm ra]) hb, b0⟩ (O4' _ _ (by simp [Ne.symm ep, pr]) h3) (by omega) (by omega) O4
def sp__law_deed (K : PySem.W.Frag) (Cb Cf : Addr) : Sp := sp__law_many K Cb Cf
set_option maxHeartbeats 0 in
theorem ok__law_deed (T : Txt K mg) : FnOk P w K mg base CX0 10 T.a__law_deed T.fd__law_deed ["control", "state", "fixed", "box", "clock"] (sp__law_deed K T.c_Control T.c_Fixed) := by
  have S := sc__law_deed
  refine T.F__law_deed.ok S (fun vs H Q E h => ?_) (fun cdv A outer s H vs Q E hr h => ?_)
  · obtain ⟨e, r, a, p, x, fx, now, left, rfl, _⟩ := h
    rfl
  · obtain ⟨e, r, a, p, x, fx, now, left, rfl, t, B0, hP, f0, f1, k⟩ := h
    have er : e ≠ r := t.ob.ne t.hr
    have ra : r ≠ a := B0.ne t.hr (by intro _ _ _ e; unfold Cs.row at e; cases e)
    have pa : p ≠ a := B0.ne hP
    have pr : p ≠ r := fun q => by rw [q, t.hr] at hP; unfold Cs.row at hP; cases hP
    have ea : e ≠ a := by obtain ⟨_, _, _, hb, _⟩ := id B0; exact t.ob.ne hb
    have ep : e ≠ p := t.ob.ne hP
    have u1 := t.g.u1
    have u2 := t.g.u2
    have box : ∀ {H1 H2 : Hp}, Trio T.c_Control T.c_Fixed fx e r x H1 → SameX a H1 H2 → Trio T.c_Control T.c_Fixed fx e r x H2 := fun t s => t.off (l := [a]) (Off.ofX (by simp) s) (by simp [ea]) (by simp [ra])
    have fin : ∀ {H1 H2 H3 : Hp} {y : Cs}, Bx a H1 → H1 p = some (.lst [.int now, .int left]) → Off [e, r, a, p] H H1 → SameX r H1 H2 → SameX e H2 H3 → Trio T.c_Control T.c_Fixed fx e r y H3 → Q (.bl true) H3 := fun B1 p1 O1 s2 s3 ty =>
      k _ _ _ ty ((B1.on s2 (Ne.symm ra)).on s3 (Ne.symm ea)) (s3 _ _ (Ne.symm ep) (s2 _ _ pr p1)) f0 f1 ((O1.trans (Off.ofX (by simp) s2)).trans (Off.ofX (by simp) s3))
    refine ⟨_, (pss_cons (ps_set (i := 5) S.nd rfl (Or.inl rfl) (pe_call (ok__law_draw T) (hr.mono (by decide)) rfl T.g__law_draw T.F__law_draw.kp T.B__law_draw .nil pass0 (pa_cons (pv 3) (pa_cons pe_int pa_nil))))
      (pss_cons (ps_if (pt_cmpR op_lt (pv 5) pe_int (nomark _)) (pss_cons (ps_set (i := 6) S.nd rfl (Or.inl rfl) (pe_call (ok__law_count T) (hr.mono (by decide)) rfl T.g__law_count T.F__law_count.kp T.B__law_count .nil pass0 (pa_cons (pv 3) (pa_cons (pe_ix ix_list (pv 1) pe_int (fun _ _ => rfl)) (pa_cons (pe_ix ix_list (pv 1) pe_int (fun _ _ => rfl)) pa_nil)))))
      (pss_cons (ps_set (i := 7) S.nd rfl (Or.inl rfl) (pe_call (ok__law_load T) (hr.mono (by decide)) rfl T.g__law_load T.F__law_load.kp T.B__law_load .nil pass0 (pa_cons (pv 3) (pa_cons (pe_ix ix_list (pv 1) pe_int (fun _ _ => rfl)) (pa_cons (pe_ix ix_list (pv 1) pe_int (fun _ _ => rfl)) (pa_cons (pv 6) pa_nil))))))
      (pss_cons (ps_expr (pe_call (ok__law_acked T) (hr.mono (by decide)) rfl T.g__law_acked T.F__law_acked.kp T.B__law_acked .nil pass0 (pa_cons (pv 1) (pa_cons (pv 2) (pa_cons (pv 6) (pa_cons (pv 7) pa_nil))))))
      (pss_one (ps_ret (pe_cmpR op_isN (pe_ei (pe_meth (pv 0) T.cl_Control T.m_Control_on_ack (NB.ok_Control_on_ack T) (hr.mono (by decide)) T.B_Control_on_ack .nil passL (pa_cons (pv 6) (pa_cons (pv 7) (pa_cons (pe_ix ix_list (pv 4) pe_int (fun _ _ => rfl)) pa_nil)))) (pe_meth (pv 0) T.cl_Fixed T.m_Fixed_on_ack (NF.ok_Fixed_on_ack T) (hr.mono (by decide)) T.B_Fixed_on_ack .nil passL (pa_cons (pv 6) (pa_cons (pv 7) (pa_cons (pe_ix ix_list (pv 4) pe_int (fun _ _ => rfl)) pa_nil))))) pe_non (nomark _))))))) pss_nil)
      (pss_cons (ps_if (pt_cmpR op_eq (pv 5) pe_int (nomark _)) (pss_one (ps_ret (pe_call (ok__law_many T) (hr.mono (by decide)) rfl T.g__law_many T.F__law_many.kp T.B__law_many .nil pass0 (pa_cons (pv 0) (pa_cons (pv 1) (pa_cons (pv 2) (pa_cons (pv 3) (pa_cons (pv 4) pa_nil)))))))) pss_nil)
      (pss_cons (ps_if (pt_cmpR op_eq (pv 5) pe_int (nomark _)) (pss_cons (ps_set (i := 7) S.nd rfl (Or.inl rfl) (pe_call (ok__law_load T) (hr.mono (by decide)) rfl T.g__law_load T.F__law_load.kp T.B__law_load .nil pass0 (pa_cons (pv 3) (pa_cons (pe_ix ix_list (pv 1) pe_int (fun _ _ => rfl)) (pa_cons (pe_ix ix_list (pv 1) pe_int (fun _ _ => rfl)) (pa_cons pe_int pa_nil))))))
      (pss_cons (ps_expr (pe_call (ok__law_lost T) (hr.mono (by decide)) rfl T.g__law_lost T.F__law_lost.kp T.B__law_lost .nil pass0 (pa_cons (pv 1) (pa_cons (pv 2) (pa_cons (pv 7) pa_nil)))))
      (pss_one (ps_ret (pe_cmpR op_isN (pe_ei (pe_meth (pv 0) T.cl_Control T.m_Control_on_loss (NB.ok_Control_on_loss T) (hr.mono (by decide)) T.B_Control_on_loss .nil pass0 (pa_cons (pv 7) (pa_cons (pe_ix ix_list (pv 4) pe_int (fun _ _ => rfl)) pa_nil))) (pe_meth (pv 0) T.cl_Fixed T.m_Fixed_on_loss (NF.ok_Fixed_on_loss T) (hr.mono (by decide)) T.B_Fixed_on_loss .nil pass0 (pa_cons (pv 7) (pa_cons (pe_ix ix_list (pv 4) pe_int (fun _ _ => rfl)) pa_nil)))) pe_non (nomark _)))))) pss_nil)
      (pss_cons (ps_if (pt_cmpR op_eq (pv 5) pe_int (nomark _)) (pss_cons (ps_set (i := 7) S.nd rfl (Or.inl rfl) (pe_call (ok__law_load T) (hr.mono (by decide)) rfl T.g__law_load T.F__law_load.kp T.B__law_load .nil pass0 (pa_cons (pv 3) (pa_cons (pe_ix ix_list (pv 1) pe_int (fun _ _ => rfl)) (pa_cons (pe_ix ix_list (pv 1) pe_int (fun _ _ => rfl)) (pa_cons pe_int pa_nil))))))
      (pss_cons (ps_expr (pe_call (ok__law_expired T) (hr.mono (by decide)) rfl T.g__law_expired T.F__law_expired.kp T.B__law_expired .nil pass0 (pa_cons (pv 1) (pa_cons (pv 2) (pa_cons (pv 7) pa_nil)))))
      (pss_one (ps_ret (pe_cmpR op_isN (pe_ei (pe_meth (pv 0) T.cl_Control T.m_Control_on_expiry (NB.ok_Control_on_expiry T) (hr.mono (by decide)) T.B_Control_on_expiry .nil pass0 (pa_cons (pv 7) (pa_cons (pe_ix ix_list (pv 4) pe_int (fun _ _ => rfl)) pa_nil))) (pe_meth (pv 0) T.cl_Fixed T.m_Fixed_on_expiry (NF.ok_Fixed_on_expiry T) (hr.mono (by decide)) T.B_Fixed_on_expiry .nil pass0 (pa_cons (pv 7) (pa_cons (pe_ix ix_list (pv 4) pe_int (fun _ _ => rfl)) pa_nil)))) pe_non (nomark _)))))) pss_nil)
      (pss_cons (ps_if (pt_cmpR op_eq (pv 5) pe_int (nomark _)) (pss_cons (ps_set (i := 6) S.nd rfl (Or.inl rfl) (pe_call (ok__law_count T) (hr.mono (by decide)) rfl T.g__law_count T.F__law_count.kp T.B__law_count .nil pass0 (pa_cons (pv 3) (pa_cons (pe_ix ix_list (pv 1) pe_int (fun _ _ => rfl)) (pa_cons (pe_ix ix_list (pv 1) pe_int (fun _ _ => rfl)) pa_nil)))))
      (pss_one (ps_ret (pe_and (pe_cmpR op_isN (pe_ei (pe_meth (pv 0) T.cl_Control T.m_Control_on_sample (NB.ok_Control_on_sample T) (hr.mono (by decide)) T.B_Control_on_sample .nil pass0 (pa_cons (pe_call (ok__law_draw T) (hr.mono (by decide)) rfl T.g__law_draw T.F__law_draw.kp T.B__law_draw .nil pass0 (pa_cons (pv 3) (pa_cons (pe_op op_pow pe_int pe_int) pa_nil))) pa_nil)) (pe_meth (pv 0) T.cl_Fixed T.m_Fixed_on_sample (NF.ok_Fixed_on_sample T) (hr.mono (by decide)) T.B_Fixed_on_sample .nil pass0 (pa_cons (pe_call (ok__law_draw T) (hr.mono (by decide)) rfl T.g__law_draw T.F__law_draw.kp T.B__law_draw .nil pass0 (pa_cons (pv 3) (pa_cons (pe_op op_pow pe_int pe_int) pa_nil))) pa_nil))) pe_non (nomark _)) (pe_one (pe_cmpR op_isN (pe_ei (pe_meth (pv 0) T.cl_Control T.m_Control_grow (NB.ok_Control_grow T) (hr.mono (by decide)) T.B_Control_grow .nil passL (pa_cons (pv 6) (pa_cons (pe_ix ix_list (pv 4) pe_int (fun _ _ => rfl)) pa_nil))) (pe_meth (pv 0) T.cl_Fixed T.m_Fixed_grow (NF.ok_Fixed_grow T) (hr.mono (by decide)) T.B_Fixed_grow .nil passL (pa_cons (pv 6) (pa_cons (pe_ix ix_list (pv 4) pe_int (fun _ _ => rfl)) pa_nil)))) pe_non (nomark _))))))) pss_nil)
      (pss_one (ps_ret (pe_call (ok__law_refused T) (hr.mono (by decide)) rfl T.g__law_refused T.F__law_refused.kp T.B__law_refused .nil pass0 (pa_cons (pv 0) (pa_cons (pe_call (ok__law_bad T) (hr.mono (by decide)) rfl T.g__law_bad T.F__law_bad.kp T.B__law_bad .nil pass0 (pa_cons (pv 3) pa_nil)) (pa_cons (pe_ix ix_list (pv 1) pe_int (fun _ _ => rfl)) (pa_cons (pe_ix ix_list (pv 4) pe_int (fun _ _ => rfl)) pa_nil))))))))))))), ?_⟩
    refine st__law_deed ?_
    o_args
    refine ⟨a, _, rfl, B0, by decide, by decide, fun ch H1 a1 b1 B1 s1 => ?_⟩
    have t1 := box t s1
    have hP1 := s1 _ _ pa hP
    have hR1 := t1.hr
    unfold Cs.row at hR1
    have O1 : Off [e, r, a, p] H H1 := Off.ofX (by simp) s1
    clear hP
    o_args
    refine brD (fun q => ?_) (fun q => ?_)
    · o_args
      refine ⟨a, _, _, rfl, B1, fun n H2 n1 n2 B2 s2 => ?_⟩
      have t2 := box t1 s2
      have hP2 := s2 _ _ pa hP1
      have hR2 := t2.hr
      unfold Cs.row at hR2
      clear hR1 hP1
      o_args
      refine ⟨a, _, _, _, rfl, B2, u1, u2, fun f H3 g0 B3 s3 => ?_⟩
      have t3 := box t2 s3
      have hP3 := s3 _ _ pa hP2
      have O3 : Off [e, r, a, p] H H3 := (O1.trans (Off.ofX (by simp) s2)).trans (Off.ofX (by simp) s3)
      clear hR2 hP2
      o_args
      refine ⟨r, x, fx, n, f, rfl, t3.hr, fun H4 s4 h4 => ?_⟩
      have hE := t3.ob.on s4 er
      have hP4 := s4 _ _ pr hP3
      o_args
      rcases hE with ⟨rfl, hE⟩ | ⟨rfl, hE⟩
      · refine .inl ?_
        obtain ⟨dx, he⟩ := id hE
        o_args
        refine ⟨e, dx, _, rfl, he, rfl, ?_⟩
        o_args
        refine ⟨e, _, _, f, x, rfl, hE, .inl ⟨n, rfl, n1, n2, fun H6 s6 h6 => ?_⟩⟩
        o_args
        exact fin B3 hP3 O3 s4 s6 ⟨.inl ⟨rfl, h6⟩, s6 _ _ (Ne.symm er) h4, t3.g.ack false n f⟩
      · refine .inr ?_
        obtain ⟨dx, he⟩ := id hE
        o_args
        refine ⟨e, dx, _, rfl, he, rfl, ?_⟩
        o_args
        refine ⟨e, _, _, f, x, rfl, hE, .inl ⟨n, rfl, n1, n2, fun H6 s6 h6 => ?_⟩⟩
        o_args
        exact fin B3 hP3 O3 s4 s6 ⟨.inr ⟨rfl, h6⟩, s6 _ _ (Ne.symm er) h4, t3.g.ack true n f⟩
    o_args
    refine brD (fun q => ?_) (fun q => ?_)
    · o_args
      exact ⟨e, r, a, p, x, fx, now, left, rfl, t1, B1, hP1, f0, f1, fun H' y left' g1 g2 g3 g4 g5 g6 => k H' y left' g1 g2 g3 g4 g5 (O1.trans g6)⟩
    o_args
    refine brD (fun q => ?_) (fun q => ?_)
    · o_args
      refine ⟨a, _, _, _, rfl, B1, u1, u2, fun f H3 g0 B3 s3 => ?_⟩
      have t3 := box t1 s3
      have hP3 := s3 _ _ pa hP1
      have O3 : Off [e, r, a, p] H H3 := O1.trans (Off.ofX (by simp) s3)
      clear hR1 hP1
      o_args
      refine ⟨r, x, fx, f, rfl, t3.hr, t3.g, fun H4 s4 h4 => ?_⟩
      have hE := t3.ob.on s4 er
      have hP4 := s4 _ _ pr hP3
      o_args
      rcases hE with ⟨rfl, hE⟩ | ⟨rfl, hE⟩
      · refine .inl ?_
        obtain ⟨dx, he⟩ := id hE
        o_args
        refine ⟨e, dx, _, rfl, he, rfl, ?_⟩
        o_args
        refine ⟨e, x, f, _, rfl, hE, g0, fun H6 s6 h6 => ?_⟩
        o_args
        exact fin B3 hP3 O3 s4 s6 ⟨.inl ⟨rfl, h6⟩, s6 _ _ (Ne.symm er) h4, t3.g.los false f⟩
      · refine .inr ?_
        obtain ⟨dx, he⟩ := id hE
        o_args
        refine ⟨e, dx, _, rfl, he, rfl, ?_⟩
        o_args
        refine ⟨_, _, _, rfl, ?_⟩
        o_args
        exact fin B3 hP3 O3 s4 SameX.refl ⟨.inr ⟨rfl, hE⟩, h4, t3.g.los true f⟩
    o_args
    refine brD (fun q => ?_) (fun q => ?_)
    · o_args
      refine ⟨a, _, _, _, rfl, B1, u1, u2, fun f H3 g0 B3 s3 => ?_⟩
      have t3 := box t1 s3
      have hP3 := s3 _ _ pa hP1
      have O3 : Off [e, r, a, p] H H3 := O1.trans (Off.ofX (by simp) s3)
      clear hR1 hP1
      o_args
      refine ⟨r, x, fx, f, rfl, t3.hr, t3.g, fun H4 s4 h4 => ?_⟩
      have hE := t3.ob.on s4 er
      have hP4 := s4 _ _ pr hP3
      o_args
      rcases hE with ⟨rfl, hE⟩ | ⟨rfl, hE⟩
      · refine .inl ?_
        obtain ⟨dx, he⟩ := id hE
        o_args
        refine ⟨e, dx, _, rfl, he, rfl, ?_⟩
        o_args
        refine ⟨e, x, f, _, rfl, hE, g0, fun H6 s6 h6 => ?_⟩
        o_args
        exact fin B3 hP3 O3 s4 s6 ⟨.inl ⟨rfl, h6⟩, s6 _ _ (Ne.symm er) h4, t3.g.exp false f⟩
      · refine .inr ?_
        obtain ⟨dx, he⟩ := id hE
        o_args
        refine ⟨e, dx, _, rfl, he, rfl, ?_⟩
        o_args
        refine ⟨e, _, _, x, rfl, hE, fun H6 s6 h6 => ?_⟩
        o_args
        exact fin B3 hP3 O3 s4 s6 ⟨.inr ⟨rfl, h6⟩, s6 _ _ (Ne.symm er) h4, t3.g.exp true f⟩
    o_args
    refine brD (fun q => ?_) (fun q => ?_)
    · o_args
      refine ⟨a, _, _, rfl, B1, fun n H2 n1 n2 B2 s2 => ?_⟩
      have t2 := box t1 s2
      have hP2 := s2 _ _ pa hP1
      have O2 : Off [e, r, a, p] H H2 := O1.trans (Off.ofX (by simp) s2)
      clear hR1 hP1
      have hE := t2.ob
      o_args
      rcases hE with ⟨rfl, hE⟩ | ⟨rfl, hE⟩
      · refine .inl ?_
        obtain ⟨dx, he⟩ := id hE
        o_args
        refine ⟨e, dx, _, rfl, he, rfl, ?_⟩
        o_args
        refine ⟨a, _, rfl, B2, by decide, by decide, fun tk H3 _ _ B3 s3 => ?_⟩
        have t3 := box t2 s3
        have hP3 := s3 _ _ pa hP2
        clear hP2
        obtain ⟨_, hE3⟩ | ⟨z, _⟩ := t3.ob
        · obtain ⟨dx3, he3⟩ := id hE3
          o_args
          refine ⟨_, _, rfl, ?_⟩
          o_args
          refine .inl ?_
          o_args
          refine ⟨e, dx3, _, rfl, he3, rfl, ?_⟩
          o_args
          refine ⟨e, _, _, x, rfl, hE3, .inl ⟨n, rfl, n1, n2, ?_⟩⟩
          o_args
          exact fin B3 hP3 (O2.trans (Off.ofX (by simp) s3)) SameX.refl SameX.refl t3
        · cases z
      · refine .inr ?_
        obtain ⟨dx, he⟩ := id hE
        o_args
        refine ⟨e, dx, _, rfl, he, rfl, ?_⟩
        o_args
        refine ⟨a, _, rfl, B2, by decide, by decide, fun tk H3 _ _ B3 s3 => ?_⟩
        have t3 := box t2 s3
        have hP3 := s3 _ _ pa hP2
        clear hP2
        obtain ⟨z, _⟩ | ⟨_, hE3⟩ := t3.ob
        · cases z
        · obtain ⟨dx3, he3⟩ := id hE3
          o_args
          refine ⟨_, _, rfl, ?_⟩
          o_args
          refine .inr ?_
          o_args
          refine ⟨e, dx3, _, rfl, he3, rfl, ?_⟩
          o_args
          refine ⟨e, _, _, x, rfl, hE3, .inl ⟨n, rfl, n1, n2, ?_⟩⟩
          o_args
          exact fin B3 hP3 (O2.trans (Off.ofX (by simp) s3)) SameX.refl SameX.refl t3
    o_args
    refine ⟨a, rfl, B1, fun b H2 hb B2 s2 => ?_⟩
    have t2 := box t1 s2
    have hP2 := s2 _ _ pa hP1
    have hR2 := t2.hr
    unfold Cs.row at hR2
    clear hR1 hP1
    o_args
    refine ⟨e, b, _, _, x, fx, rfl, t2.ob, hb H2 LT.refl, fun H3 s3 => ?_⟩
    exact k H3 x left (t2.off (l := []) (Off.of s3) (by simp) (by simp)) (B2.same s3) (s3 _ _ hP2) f0 f1 ((O1.trans (Off.ofX (by simp) s2)).trans (Off.of s3))

/-! ### the law -/
def odd (i : Nat) : Bool := i % 2 == 1
def refs (f : Nat → Addr) : List V := [.ref (f 0), .ref (f 1), .ref (f 2), .ref (f 3)]
theorem refs_at (f : Nat → Addr) {i : Nat} (h : i < 4) : (refs f)[i]? = some (.ref (f i)) := by
  match i, h with
  | 0, _ => rfl
  | 1, _ => rfl
  | 2, _ => rfl
  | 3, _ => rfl
structure Quad (Cb Cf L1 L3 : Addr) (e r : Nat → Addr) (x : Nat → Cs) (H : Hp) : Prop where
  t : ∀ i, i < 4 → Trio Cb Cf (odd i) (e i) (r i) (x i) H
  l1 : H L1 = some (.lst (refs e))
  l3 : H L3 = some (.lst (refs r))
  ei : ∀ i j, i < 4 → j < 4 → i ≠ j → e i ≠ e j
  ri : ∀ i j, i < 4 → j < 4 → i ≠ j → r i ≠ r j
def sp__law_all_hold (Cb Cf : Addr) : Sp := fun vs H Q _ => ∃ (L1 L3 : Addr) (e r : Nat → Addr) (x : Nat → Cs), vs = [.ref L1, .ref L3] ∧ Quad Cb Cf L1 L3 e r x H ∧ Q (.bl true) H
theorem ok__law_all_hold (T : Txt K mg) : FnOk P w K mg base CX0 4 T.a__law_all_hold T.fd__law_all_hold ["controls", "states"] (sp__law_all_hold T.c_Control T.c_Fixed) := by
  have S := sc__law_all_hold
  refine T.F__law_all_hold.ok S (fun vs H Q E h => ?_) (fun cdv A outer s H vs Q E hr h => ?_)
  · obtain ⟨L1, L3, e, r, x, rfl, _⟩ := h
    rfl
  · obtain ⟨L1, L3, e, r, x, rfl, D, k⟩ := h
    refine ⟨_, (pss_cons (ps_for PassesOwn.never rfl (pi_range1 (by rfl) T.b_range (pa_cons (pe_callB (id := "len") (call_lenK (K := K) rfl) (by rfl) T.b_len (by decide +kernel) (pa_cons (pv 0) pa_nil)) pa_nil)) (pg_name (i := 2) S.nd rfl (Or.inl rfl)) (pss_one (ps_if (pt_not (pt_val (pe_call (ok__law_base T) (hr.mono (by decide)) rfl T.g__law_base T.F__law_base.kp T.B__law_base .nil pass0 (pa_cons (pe_ix ix_list (pv 0) (pv 2) (fun _ _ => rfl)) (pa_cons (pe_ix ix_list (pv 1) (pv 2) (fun _ _ => rfl)) pa_nil))))) (pss_one (ps_ret pe_bl)) pss_nil)))
      (pss_one (ps_ret pe_bl))), ?_⟩
    refine st__law_all_hold ?_
    o_args
    refine lenA (SeqA.lst D.l1) ?_
    o_args
    refine rngF (n := ((refs e).length : Int)) (by show (-100000 : Int) ≤ 4; decide) (by show (4 : Int) ≤ 100000; decide) (for_rangeK (lo := 0) (n := (((refs e).length : Int)).toNat) (fun i σ H' => ∃ v1, σ = [some (.ref L1), some (.ref L3), v1] ∧ H' = H) ⟨none, rfl, rfl⟩ ?_ ?_)
    · rintro i σ H15 hi ⟨v, rfl, rfl⟩
      have hi : i < 4 := hi
      o_args
      rw [show (0 : Int) + (i : Int) = (i : Int) by omega]
      refine ixL D.l1 (refs_at e hi) ?_
      o_args
      refine ixL D.l3 (refs_at r hi) ?_
      o_args
      refine ⟨e i, r i, x i, odd i, rfl, (D.t i hi).ob, (D.t i hi).hr, ?_⟩
      o_args
      exact ⟨_, rfl, rfl⟩
    · rintro σ H15 ⟨v, rfl, rfl⟩
      o_args
      exact k
theorem Quad.rlen {Cb Cf L1 L3 : Addr} {e r : Nat → Addr} {x : Nat → Cs} {H : Hp} (D : Quad Cb Cf L1 L3 e r x H) {i : Nat} (hi : i < 4) {b : Addr} {xs : List V} (h : H b = some (.lst xs)) (n : xs.length ≠ 5) : r i ≠ b := fun z => by
  have := (D.t i hi).hr
  rw [z, h] at this
  cases this
  exact n rfl
theorem Quad.off {Cb Cf L1 L3 : Addr} {e r : Nat → Addr} {x : Nat → Cs} {H H' : Hp} {l : List Addr} (D : Quad Cb Cf L1 L3 e r x H) (o : Off l H H') (n1 : ∀ i, i < 4 → e i ∉ l) (n2 : ∀ i, i < 4 → r i ∉ l) (n3 : L1 ∉ l) (n4 : L3 ∉ l) : Quad Cb Cf L1 L3 e r x H' :=
  ⟨fun i hi => (D.t i hi).off o (n1 i hi) (n2 i hi), o _ _ n3 D.l1, o _ _ n4 D.l3, D.ei, D.ri⟩
theorem Quad.same {Cb Cf L1 L3 : Addr} {e r : Nat → Addr} {x : Nat → Cs} {H H' : Hp} (D : Quad Cb Cf L1 L3 e r x H) (s : Same H H') : Quad Cb Cf L1 L3 e r x H' := D.off (l := []) (Off.of s) (by simp) (by simp) (by simp) (by simp)
theorem len_ne {H : Hp} {a b : Addr} {xs ys : List V} (h : H a = some (.lst xs)) (g : H b = some (.lst ys)) (n : xs.length ≠ ys.length) : a ≠ b := fun z => by
  rw [z, g] at h
  cases h
  exact n rfl
/-- a list of another length than those of the four is none of them -/
theorem Quad.lst {Cb Cf L1 L3 : Addr} {e r : Nat → Addr} {x : Nat → Cs} {H H' : Hp} {b : Addr} {xs : List V} (D : Quad Cb Cf L1 L3 e r x H) (h : H b = some (.lst xs)) (n4 : xs.length ≠ 4) (n5 : xs.length ≠ 5) (s : SameX b H H') : Quad Cb Cf L1 L3 e r x H' :=
  D.off (l := [b]) (Off.ofX (by simp) s) (fun i hi => by simp; exact (D.t i hi).ob.ne h) (fun i hi => by simp; exact D.rlen hi h n5) (by simp; exact len_ne D.l1 h (Ne.symm n4)) (by simp; exact len_ne D.l3 h (Ne.symm n4))
theorem Quad.go {Cb Cf L1 L3 b p : Addr} {e r : Nat → Addr} {x : Nat → Cs} {H H' : Hp} {i : Nat} {y : Cs} {bs ps : List V} (D : Quad Cb Cf L1 L3 e r x H) (hi : i < 4) (hb : H b = some (.lst bs)) (lb : bs.length = 3) (hp : H p = some (.lst ps)) (lp : ps.length = 2) (o : Off [e i, r i, b, p] H H') (ty : Trio Cb Cf (odd i) (e i) (r i) y H') :
    Quad Cb Cf L1 L3 e r (fun j => if j = i then y else x j) H' := by
  have ne1 : ∀ {j : Nat} (hj : j < 4), e j ≠ b := fun hj => (D.t _ hj).ob.ne hb
  have ne2 : ∀ {j : Nat} (hj : j < 4), e j ≠ p := fun hj => (D.t _ hj).ob.ne hp
  have ne3 : ∀ {j : Nat} (hj : j < 4), r j ≠ b := fun hj => D.rlen hj hb (by omega)
  have ne4 : ∀ {j : Nat} (hj : j < 4), r j ≠ p := fun hj => D.rlen hj hp (by omega)
  refine ⟨fun j hj => ?_, o _ _ ?_ D.l1, o _ _ ?_ D.l3, D.ei, D.ri⟩
  · by_cases z : j = i
    · subst z
      rw [if_pos rfl]
      exact ty
    · rw [if_neg z]
      refine (D.t j hj).off o ?_ ?_ <;> simp only [List.mem_cons, List.not_mem_nil, or_false, not_or]
      · exact ⟨D.ei _ _ hj hi z, (D.t j hj).ob.ne (D.t i hi).hr, ne1 hj, ne2 hj⟩
      · exact ⟨fun q => (D.t i hi).ob.ne (D.t j hj).hr q.symm, D.ri _ _ hj hi z, ne3 hj, ne4 hj⟩
  · simp only [List.mem_cons, List.not_mem_nil, or_false, not_or]
    exact ⟨fun q => (D.t i hi).ob.ne D.l1 q.symm, len_ne D.l1 (D.t i hi).hr (by show (4 : Nat) ≠ 5; decide), len_ne D.l1 hb (by rw [lb]; show (4 : Nat) ≠ 3; decide), len_ne D.l1 hp (by rw [lp]; show (4 : Nat) ≠ 2; decide)⟩
  · simp only [List.mem_cons, List.not_mem_nil, or_false, not_or]
    exact ⟨fun q => (D.t i hi).ob.ne D.l3 q.symm, len_ne D.l3 (D.t i hi).hr (by show (4 : Nat) ≠ 5; decide), len_ne D.l3 hb (by rw [lb]; show (4 : Nat) ≠ 3; decide), len_ne D.l3 hp (by rw [lp]; show (4 : Nat) ≠ 2; decide)⟩
theorem Quad.bx {Cb Cf L1 L3 b : Addr} {e r : Nat → Addr} {x : Nat → Cs} {H H' : Hp} (D : Quad Cb Cf L1 L3 e r x H) (B : Bx b H) (s : SameX b H H') : Quad Cb Cf L1 L3 e r x H' := by
  obtain ⟨_, _, _, hb, _⟩ := B
  exact D.lst hb (by simp) (by simp) s
theorem Quad.goB {Cb Cf L1 L3 b p : Addr} {e r : Nat → Addr} {x : Nat → Cs} {H H' : Hp} {i : Nat} {y : Cs} {ps : List V} (D : Quad Cb Cf L1 L3 e r x H) (hi : i < 4) (B : Bx b H) (hp : H p = some (.lst ps)) (lp : ps.length = 2) (o : Off [e i, r i, b, p] H H') (ty : Trio Cb Cf (odd i) (e i) (r i) y H') :
    Quad Cb Cf L1 L3 e r (fun j => if j = i then y else x j) H' := by
  obtain ⟨_, _, _, hb, _⟩ := B
  exact D.go hi hb rfl hp lp o ty
def four {α : Type} (a b c d : α) : Nat → α := fun i => match i with | 0 => a | 1 => b | 2 => c | _ => d
theorem four_inj {a b c d : Addr} (h : [a, b, c, d].Nodup) : ∀ i j, i < 4 → j < 4 → i ≠ j → four a b c d i ≠ four a b c d j := by
  have nd := h
  simp only [List.nodup_cons, List.mem_cons, List.not_mem_nil, or_false, not_or, List.nodup_nil, and_true, not_false_eq_true] at nd
  obtain ⟨⟨h1, h2, h3⟩, ⟨h4, h5⟩, h6⟩ := nd
  intro i j hi hj n
  match i, j, hi, hj, n with
  | 0, 1, _, _, _ => exact h1
  | 0, 2, _, _, _ => exact h2
  | 0, 3, _, _, _ => exact h3
  | 1, 2, _, _, _ => exact h4
  | 1, 3, _, _, _ => exact h5
  | 2, 3, _, _, _ => exact h6
  | 1, 0, _, _, _ => exact Ne.symm h1
  | 2, 0, _, _, _ => exact Ne.symm h2
  | 3, 0, _, _, _ => exact Ne.symm h3
  | 2, 1, _, _, _ => exact Ne.symm h4
  | 3, 1, _, _, _ => exact Ne.symm h5
  | 3, 2, _, _, _ => exact Ne.symm h6
  | 3, j + 3, _, hj, n => omega
theorem rev4 {a b c d : Addr} (nd : [a, b, c, d].Nodup) : [d, c, b, a].Nodup := by
  (simp only [List.nodup_cons, List.mem_cons, List.not_mem_nil, or_false, not_or, List.nodup_nil, and_true, not_false_eq_true, ne_eq] at nd ⊢; grind only)
def sp_law (K : PySem.W.Frag) : Sp := fun vs H Q _ => ∃ (a : Addr) (ns : List Int), vs = [.ref a] ∧ SqL K H a (ns.map V.int) ∧ ns.length ≤ 63 ∧ ∀ H', Q (.bl true) H'
set_option maxHeartbeats 0 in
theorem ok_law (T : Txt K mg) : FnOk P w K mg base CX0 12 T.a_law T.fd_law ["script"] (sp_law K) := by
  have S := sc_law
  refine T.F_law.ok S (fun vs H Q E h => ?_) (fun cdv A outer s H vs Q E hr h => ?_)
  · obtain ⟨a, ns, rfl, _⟩ := h
    rfl
  · obtain ⟨a, ns, rfl, hS, hl, k⟩ := h
    refine ⟨_, (pss_cons (ps_set (i := 1) S.nd rfl (Or.inl rfl) (pe_call (ok__law_box T) (hr.mono (by decide)) rfl T.g__law_box T.F__law_box.kp T.B__law_box .nil pass0 (pa_cons (pe_call (ok__law_cell T) (hr.mono (by decide)) rfl T.g__law_cell T.F__law_cell.kp T.B__law_cell .nil pass0 (pa_cons (pv 0) (pa_cons pe_int pa_nil))) pa_nil)))
      (pss_cons (ps_set (i := 2) S.nd rfl (Or.inl rfl) (pe_lst (pa_cons (pe_call (ok__law_unit T) (hr.mono (by decide)) rfl T.g__law_unit T.F__law_unit.kp T.B__law_unit .nil pass0 (pa_cons (pv 1) pa_nil)) (pa_cons (pe_call (ok__law_unit T) (hr.mono (by decide)) rfl T.g__law_unit T.F__law_unit.kp T.B__law_unit .nil pass0 (pa_cons (pv 1) pa_nil)) (pa_cons (pe_call (ok__law_unit T) (hr.mono (by decide)) rfl T.g__law_unit T.F__law_unit.kp T.B__law_unit .nil pass0 (pa_cons (pv 1) pa_nil)) pa_nil)))))
      (pss_cons (ps_set (i := 3) S.nd rfl (Or.inl rfl) (pe_op op_add pe_int (pe_call (ok__law_draw T) (hr.mono (by decide)) rfl T.g__law_draw T.F__law_draw.kp T.B__law_draw .nil pass0 (pa_cons (pv 1) (pa_cons pe_int pa_nil)))))
      (pss_cons (ps_set (i := 4) S.nd rfl (Or.inl rfl) (pe_lst (pa_cons (pe_make T.M_Control (NB.ok_Control_init_ T) (hr.mono (by decide)) rfl T.g_Control T.B_Control_init_ .nil passL (pa_cons (pe_ix ix_list (pv 2) pe_int (fun _ _ => rfl)) pa_nil)) (pa_cons (pe_make T.M_Fixed (NF.ok_Fixed_init_ T) (hr.mono (by decide)) rfl T.g_Fixed T.B_Fixed_init_ .nil passL (pa_cons (pe_ix ix_list (pv 2) pe_int (fun _ _ => rfl)) (pa_cons (pv 3) pa_nil))) (pa_cons (pe_make T.M_Control (NB.ok_Control_init_ T) (hr.mono (by decide)) rfl T.g_Control T.B_Control_init_ .nil passL (pa_cons (pe_ix ix_list (pv 2) pe_int (fun _ _ => rfl)) pa_nil)) (pa_cons (pe_make T.M_Fixed (NF.ok_Fixed_init_ T) (hr.mono (by decide)) rfl T.g_Fixed T.BD_Fixed_init_ T.VD_Fixed_init_ passL (pa_cons (pe_ix ix_list (pv 2) pe_int (fun _ _ => rfl)) pa_nil)) pa_nil))))))
      (pss_cons (ps_set (i := 5) S.nd rfl (Or.inl rfl) (pe_lst (pa_cons (pe_call (ok__law_state T) (hr.mono (by decide)) rfl T.g__law_state T.F__law_state.kp T.B__law_state .nil pass0 (pa_cons (pe_ix ix_list (pv 2) pe_int (fun _ _ => rfl)) (pa_cons pe_int pa_nil))) (pa_cons (pe_call (ok__law_state T) (hr.mono (by decide)) rfl T.g__law_state T.F__law_state.kp T.B__law_state .nil pass0 (pa_cons (pe_ix ix_list (pv 2) pe_int (fun _ _ => rfl)) (pa_cons (pv 3) pa_nil))) pa_nil))))
      (pss_cons (ps_set (i := 5) S.nd rfl (Or.inl rfl) (pe_op op_cat (pv 5) (pe_lst (pa_cons (pe_call (ok__law_state T) (hr.mono (by decide)) rfl T.g__law_state T.F__law_state.kp T.B__law_state .nil pass0 (pa_cons (pe_ix ix_list (pv 2) pe_int (fun _ _ => rfl)) (pa_cons pe_int pa_nil))) (pa_cons (pe_call (ok__law_state T) (hr.mono (by decide)) rfl T.g__law_state T.F__law_state.kp T.B__law_state .nil pass0 (pa_cons (pe_ix ix_list (pv 2) pe_int (fun _ _ => rfl)) (pa_cons pe_int pa_nil))) pa_nil)))))
      (pss_cons (ps_if (pt_not (pt_val (pe_call (ok__law_all_hold T) (hr.mono (by decide)) rfl T.g__law_all_hold T.F__law_all_hold.kp T.B__law_all_hold .nil pass0 (pa_cons (pv 4) (pa_cons (pv 5) pa_nil))))) (pss_one (ps_ret pe_bl)) pss_nil)
      (pss_cons (ps_set (i := 6) S.nd rfl (Or.inl rfl) (pe_lst (pa_cons pe_int (pa_cons pe_int pa_nil))))
      (pss_cons (ps_for PassesOwn.never rfl (pi_range2 (by rfl) T.b_range (pa_cons pe_int (pa_cons (pe_op op_add pe_int (pe_call (ok__law_rounds T) (hr.mono (by decide)) rfl T.g__law_rounds T.F__law_rounds.kp T.B__law_rounds .nil pass0 (pa_cons (pv 0) pa_nil))) pa_nil))) (pg_name (i := 7) S.nd rfl (Or.inl rfl)) (pss_cons (ps_set (i := 1) S.nd rfl (Or.inl rfl) (pe_call (ok__law_box T) (hr.mono (by decide)) rfl T.g__law_box T.F__law_box.kp T.B__law_box .nil pass0 (pa_cons (pe_call (ok__law_cell T) (hr.mono (by decide)) rfl T.g__law_cell T.F__law_cell.kp T.B__law_cell .nil pass0 (pa_cons (pv 0) (pa_cons (pv 7) pa_nil))) pa_nil)))
      (pss_cons (ps_set (i := 8) S.nd rfl (Or.inl rfl) (pe_call (ok__law_draw T) (hr.mono (by decide)) rfl T.g__law_draw T.F__law_draw.kp T.B__law_draw .nil pass0 (pa_cons (pv 1) (pa_cons pe_int pa_nil))))
      (pss_cons (ps_asg (pe_call (ok__law_later T) (hr.mono (by decide)) rfl T.g__law_later T.F__law_later.kp T.B__law_later .nil pass0 (pa_cons (pv 1) (pa_cons (pe_ix ix_list (pv 6) pe_int (fun _ _ => rfl)) (pa_cons (pe_ix ix_list (pv 6) pe_int (fun _ _ => rfl)) pa_nil)))) (pg_sub (pv 6) pe_int set_list))
      (pss_cons (ps_if (pt_not (pt_val (pe_call (ok__law_deed T) (hr.mono (by decide)) rfl T.g__law_deed T.F__law_deed.kp T.B__law_deed .nil pass0 (pa_cons (pe_ix ix_list (pv 4) (pv 8) (fun _ _ => rfl)) (pa_cons (pe_ix ix_list (pv 5) (pv 8) (fun _ _ => rfl)) (pa_cons (pe_or (pe_cmpR op_eq (pv 8) pe_int (nomark _)) (pe_one (pe_cmpR op_eq (pv 8) pe_int (nomark _)))) (pa_cons (pv 1) (pa_cons (pv 6) pa_nil)))))))) (pss_one (ps_ret pe_bl)) pss_nil)
      (pss_one (ps_if (PW.pt (pw_and (pt_cmpR op_gt (pe_call (ok__law_draw T) (hr.mono (by decide)) rfl T.g__law_draw T.F__law_draw.kp T.B__law_draw .nil pass0 (pa_cons (pv 1) (pa_cons pe_int pa_nil))) pe_int (nomark _)) (pw_and1 (pt_not (pt_val (pe_call (ok__law_base T) (hr.mono (by decide)) rfl T.g__law_base T.F__law_base.kp T.B__law_base .nil pass0 (pa_cons (pe_ix ix_list (pv 4) (pv 8) (fun _ _ => rfl)) (pa_cons (pe_ix ix_list (pv 5) (pv 8) (fun _ _ => rfl)) pa_nil)))))))) (pss_one (ps_ret pe_bl)) pss_nil)))))))
      (pss_one (ps_ret (pe_call (ok__law_all_hold T) (hr.mono (by decide)) rfl T.g__law_all_hold T.F__law_all_hold.kp T.B__law_all_hold .nil pass0 (pa_cons (pv 4) (pa_cons (pv 5) pa_nil)))))))))))))), ?_⟩
    refine st_law ?_
    o_args
    refine ⟨a, ns, _, rfl, hS, Int.le_refl 0, fun c0 H1 s1 => ?_⟩
    o_args
    refine ⟨c0, rfl, fun b H2 nb s2 B2 => ?_⟩
    o_args
    refine ⟨b, rfl, B2, fun u0 H3 u01 u02 B3 s3 => ?_⟩
    o_args
    refine ⟨b, rfl, B3, fun u1 H4 u11 u12 B4 s4 => ?_⟩
    o_args
    refine ⟨b, rfl, B4, fun u2 H5 u21 u22 B5 s5 => ?_⟩
    o_args
    refine newList (by simp) fun U H6 nU s6 h6 => ?_
    have Ub : U ≠ b := by obtain ⟨_, _, _, hb, _⟩ := id B5; exact (ne_of_none hb nU).symm
    have B6 := B5.same s6
    o_args
    refine ⟨b, _, rfl, B6, by decide, by decide, fun pc H7 p0 p1 B7 s7 => ?_⟩
    have U7 : H7 U = some (.lst [.int u0, .int u1, .int u2]) := s7 _ _ Ub h6
    have kA7 : ∀ o, H a = some o → H7 a = some o := fun o ho => by
      have f1 := s1 _ _ ho
      have nab := ne_of_none f1 nb
      exact s7 _ _ nab (s6 _ _ (s5 _ _ nab (s4 _ _ nab (s3 _ _ nab (s2 _ _ f1)))))
    clear h6
    o_args
    intro e0 q0 ne0 nq0 nd0
    refine ⟨e0, q0, u0, rfl, upd_same, u01, u02, fun H10 s10 c10 => ⟨rfl, ?_⟩⟩
    have S10 := made_same ne0 nq0 s10
    have c10 : NB.CtAt T.c_Control H10 e0 ⟨u0, 2 * u0, 4194304, 0, false⟩ := c10
    have A10 : Alive [e0] H10 := by obtain ⟨_, h⟩ := id c10; exact Alive.nil.cons ne0 S10 h
    have U10 := S10 _ _ U7
    clear U7
    o_args
    intro e1 q1 ne1 nq1 nd1
    refine ⟨e1, q1, u1, 1 + pc, rfl, upd_same, u11, u12, by omega, by omega, fun H11 s11 c11 => ⟨rfl, ?_⟩⟩
    have S11 := made_same ne1 nq1 s11
    have c11 : NF.CtAt T.c_Fixed H11 e1 ⟨u1, u1 * (1 + pc), 4194304, 0, false⟩ := c11
    have A11 : Alive [e1, e0] H11 := by obtain ⟨_, h⟩ := id c11; exact A10.cons ne1 S11 h
    have U11 := S11 _ _ U10
    clear U10
    o_args
    intro e2 q2 ne2 nq2 nd2
    refine ⟨e2, q2, u2, rfl, upd_same, u21, u22, fun H12 s12 c12 => ⟨rfl, ?_⟩⟩
    have S12 := made_same ne2 nq2 s12
    have c12 : NB.CtAt T.c_Control H12 e2 ⟨u2, 2 * u2, 4194304, 0, false⟩ := c12
    have A12 : Alive [e2, e1, e0] H12 := by obtain ⟨_, h⟩ := id c12; exact A11.cons ne2 S12 h
    have U12 := S12 _ _ U11
    clear U11
    o_args
    intro e3 q3 ne3 nq3 nd3
    refine ⟨e3, q3, u0, 8, rfl, upd_same, u01, u02, by decide, by decide, fun H13 s13 c13 => ⟨rfl, ?_⟩⟩
    have S13 := made_same ne3 nq3 s13
    have c13 : NF.CtAt T.c_Fixed H13 e3 ⟨u0, u0 * 8, 4194304, 0, false⟩ := c13
    have A13 : Alive [e3, e2, e1, e0] H13 := by obtain ⟨_, h⟩ := id c13; exact A12.cons ne3 S13 h
    have U13 := S13 _ _ U12
    clear U12
    o_args
    refine newList (by simp) fun L1 H14 nL1 s14 h14 => ?_
    have U14 := s14 _ _ U13
    clear U13
    o_args
    refine ⟨u0, 2, rfl, u01, u02, fun r0 H15 nr0 s15 h15 => ?_⟩
    have R15 : Alive [r0] H15 := Alive.nil.cons nr0 s15 h15
    have U15 := s15 _ _ U14
    clear U14
    o_args
    refine ⟨u1, 1 + pc, rfl, u11, u12, fun r1 H16 nr1 s16 h16 => ?_⟩
    have R16 : Alive [r1, r0] H16 := R15.cons nr1 s16 h16
    have U16 := s16 _ _ U15
    clear U15
    o_args
    refine newList (by simp) fun M1 H17 nM1 s17 h17 => ?_
    have R17 := R16.same s17
    have U17 := s17 _ _ U16
    clear U16
    o_args
    refine ⟨u2, 2, rfl, u21, u22, fun r2 H18 nr2 s18 h18 => ?_⟩
    have R18 : Alive [r2, r1, r0] H18 := R17.cons nr2 s18 h18
    have U18 := s18 _ _ U17
    clear U17
    o_args
    refine ⟨u0, 8, rfl, u01, u02, fun r3 H19 nr3 s19 h19 => ?_⟩
    have R19 : Alive [r3, r2, r1, r0] H19 := R18.cons nr3 s19 h19
    have U19 := s19 _ _ U18
    clear U18
    o_args
    refine newList (by simp) fun M2 H20 nM2 s20 h20 => ?_
    have M20 := s20 _ _ (s19 _ _ (s18 _ _ h17))
    o_args
    refine catList M20 h20 (by simp) fun L3 H21 nL3 s21 h21 => ?_
    have kA21 : ∀ o, H a = some o → H21 a = some o := fun o ho => s21 _ _ (s20 _ _ (s19 _ _ (s18 _ _ (s17 _ _ (s16 _ _ (s15 _ _ (s14 _ _ (S13 _ _ (S12 _ _ (S11 _ _ (S10 _ _ (kA7 o ho))))))))))))
    have s1421 : Same H14 H21 := (((((s15.trans s16).trans s17).trans s18).trans s19).trans s20).trans s21
    have D : Quad T.c_Control T.c_Fixed L1 L3 (four e0 e1 e2 e3) (four r0 r1 r2 r3) (four ⟨u0, u0 * 2, 4194304, 0, false⟩ ⟨u1, u1 * (1 + pc), 4194304, 0, false⟩ ⟨u2, u2 * 2, 4194304, 0, false⟩ ⟨u0, u0 * 8, 4194304, 0, false⟩) H21 := by
      have S1321 := s14.trans s1421
      refine ⟨fun i hi => ?_, s1421 _ _ h14, h21, four_inj ?_, four_inj ?_⟩
      · match i, hi with
        | 0, _ => exact ⟨.inl ⟨rfl, by rw [show u0 * 2 = 2 * u0 by omega]; exact ((((c10.same S11).same S12).same S13).same S1321)⟩, s21 _ _ (s20 _ _ (s19 _ _ (s18 _ _ (s17 _ _ (s16 _ _ h15))))), ⟨u01, u02, rfl⟩⟩
        | 1, _ => exact ⟨.inr ⟨rfl, (((c11.same S12).same S13).same S1321)⟩, s21 _ _ (s20 _ _ (s19 _ _ (s18 _ _ (s17 _ _ h16)))), ⟨u11, u12, rfl⟩⟩
        | 2, _ => exact ⟨.inl ⟨rfl, by rw [show u2 * 2 = 2 * u2 by omega]; exact ((c12.same S13).same S1321)⟩, s21 _ _ (s20 _ _ (s19 _ _ h18)), ⟨u21, u22, rfl⟩⟩
        | 3, _ => exact ⟨.inr ⟨rfl, c13.same S1321⟩, s21 _ _ (s20 _ _ h19), ⟨u01, u02, rfl⟩⟩
      · exact rev4 A13.nd
      · exact rev4 R19.nd
    clear U19 h14 h17 h20 h21 M20
    o_args
    refine ⟨L1, L3, _, _, _, rfl, D, ?_⟩
    o_args
    refine newList (by simp) fun p H22 np s22 h22 => ?_
    have D22 := D.same s22
    have kA22 : ∀ o, H a = some o → H22 a = some o ∧ a ≠ p := fun o ho => ⟨s22 _ _ (kA21 o ho), ne_of_none (kA21 o ho) np⟩
    have kE : ∀ o, H a = some o → ∀ i, i < 4 → a ≠ four e0 e1 e2 e3 i ∧ a ≠ four r0 r1 r2 r3 i := fun o ho i hi => by
      have f7 := kA7 o ho
      have f10 := S10 _ _ f7
      have f11 := S11 _ _ f10
      have f12 := S12 _ _ f11
      have f14 := s14 _ _ (S13 _ _ f12)
      have f15 := s15 _ _ f14
      have f17 := s17 _ _ (s16 _ _ f15)
      have f18 := s18 _ _ f17
      match i, hi with
      | 0, _ => exact ⟨ne_of_none f7 ne0, ne_of_none f14 nr0⟩
      | 1, _ => exact ⟨ne_of_none f10 ne1, ne_of_none f15 nr1⟩
      | 2, _ => exact ⟨ne_of_none f11 ne2, ne_of_none f17 nr2⟩
      | 3, _ => exact ⟨ne_of_none f12 ne3, ne_of_none f18 nr3⟩
    clear kA7 s1421
    generalize four e0 e1 e2 e3 = e at D22 kE
    generalize four r0 r1 r2 r3 = r at D22 kE
    o_args
    refine x_for2 ?_
    o_args
    refine ⟨a, _, rfl, seqA hS fun o ho => (kA22 o ho).1, fun n n1 n2 => ?_⟩
    o_args
    refine ⟨1, 1 + n, rfl, ⟨by omega, by omega, by omega, by omega⟩, ?_⟩
    refine for_rangeK (lo := 1) (n := (1 + n - 1).toNat) (fun i σ H' => ∃ bx v1 v2 x now left, σ = [some (.ref a), bx, some (.ref U), some (.int (1 + pc)), some (.ref L1), some (.ref L3), some (.ref p), v1, v2] ∧ Quad T.c_Control T.c_Fixed L1 L3 e r x H' ∧ H' p = some (.lst [.int now, .int left]) ∧ 0 ≤ left ∧ left ≤ 140 ∧ ∀ o, H a = some o → H' a = some o) ⟨_, none, none, _, _, _, rfl, D22, h22, by decide, by decide, fun o ho => (kA22 o ho).1⟩ ?_ ?_
    · rintro i σ H23 hi ⟨bx, v1, v2, x, now, left, rfl, D23, h23, f0, f1, kA⟩
      clear D h22
      o_args
      refine ⟨a, ns, 1 + (i : Int), rfl, seqA hS kA, by omega, fun c2 H24 s24 => ?_⟩
      o_args
      refine ⟨c2, rfl, fun b H25 nb s25 B25 => ?_⟩
      have D24 := D23.same s24
      have D25 := D24.same s25
      have h25 := s25 _ _ (s24 _ _ h23)
      have pb : p ≠ b := ne_of_none (s24 _ _ h23) nb
      have k25 : ∀ o, H a = some o → H25 a = some o ∧ a ≠ b := fun o ho => by
        have h := s24 _ _ (kA o ho)
        exact ⟨s25 _ _ h, ne_of_none h nb⟩
      clear h23
      o_args
      refine ⟨b, _, rfl, B25, by decide, by decide, fun wh H26 w0 w1 B26 s26 => ?_⟩
      have D26 := D25.bx B25 s26
      have h26 := s26 _ _ pb h25
      have k26 : ∀ o, H a = some o → H26 a = some o ∧ a ≠ b := fun o ho => ⟨s26 _ _ (k25 o ho).2 (k25 o ho).1, (k25 o ho).2⟩
      clear h25
      o_args
      refine ⟨b, now, now, rfl, B26, fun t' H27 t1 t2 B27 s27 => ?_⟩
      have D27 := D26.bx B26 s27
      have h27 := s27 _ _ pb h26
      have k27 : ∀ o, H a = some o → H27 a = some o ∧ a ≠ b := fun o ho => ⟨s27 _ _ (k26 o ho).2 (k26 o ho).1, (k26 o ho).2⟩
      clear h26
      o_args
      refine setL (i := 0) h27 (by simp) fun H28 s28 h28 => ?_
      have h28 : H28 p = some (.lst [.int t', .int left]) := h28
      have D28 := D27.lst h27 (by simp) (by simp) s28
      have B28 := B27.on s28 (Ne.symm pb)
      have k28 : ∀ o, H a = some o → H28 a = some o ∧ a ≠ b := fun o ho => ⟨s28 _ _ (kA22 o ho).2 (k27 o ho).1, (k27 o ho).2⟩
      clear h27
      have fin : ∀ {j : Nat} {H29 H30 : Hp} {y : Cs} {left' : Int}, j < 4 → Trio T.c_Control T.c_Fixed (odd j) (e j) (r j) y H29 → Bx b H29 → H29 p = some (.lst [.int t', .int left']) → 0 ≤ left' → left' ≤ 140 → Off [e j, r j, b, p] H28 H29 → SameX b H29 H30 →
          ∀ (v1' v2' : Option V), ∃ bx v1 v2 x now left, [some (.ref a), some (.ref b), some (.ref U), some (.int (1 + pc)), some (.ref L1), some (.ref L3), some (.ref p), v1', v2'] = [some (.ref a), bx, some (.ref U), some (.int (1 + pc)), some (.ref L1), some (.ref L3), some (.ref p), v1, v2] ∧ Quad T.c_Control T.c_Fixed L1 L3 e r x H30 ∧ H30 p = some (.lst [.int now, .int left]) ∧ 0 ≤ left ∧ left ≤ 140 ∧ ∀ o, H a = some o → H30 a = some o := fun {j H29 H30 y left'} hj ty By hy g0 g1 O s30 v1' v2' => by
        obtain ⟨_, _, _, hb, _⟩ := id B28
        have D29 := D28.go hj hb rfl h28 rfl O ty
        obtain ⟨_, _, _, hb', _⟩ := id By
        refine ⟨_, _, _, _, _, _, rfl, D29.lst hb' (by simp) (by simp) s30, s30 _ _ pb hy, g0, g1, fun o ho => s30 _ _ (k28 o ho).2 (O _ _ ?_ (k28 o ho).1)⟩
        simp only [List.mem_cons, List.not_mem_nil, or_false, not_or]
        exact ⟨(kE o ho j hj).1, (kE o ho j hj).2, (k28 o ho).2, (kA22 o ho).2⟩
      obtain ⟨j, rfl⟩ : ∃ j : Nat, wh = j := ⟨wh.toNat, by omega⟩
      have hj : j < 4 := by omega
      have t28 := D28.t j hj
      o_args
      refine ixL D28.l1 (refs_at e hj) ?_
      o_args
      refine ixL D28.l3 (refs_at r hj) ?_
      match j, hj with
      | 0, _ =>
        o_args
        refine ⟨e 0, r 0, b, p, x 0, odd 0, t', left, rfl, t28, B28, h28, f0, f1, fun H29 y left' ty By hy g0 g1 O29 => ?_⟩
        have D29 := D28.goB (i := 0) (by decide) B28 h28 rfl O29 ty
        o_args
        refine ⟨b, _, rfl, By, by decide, by decide, fun q1 H30 q11 q12 B30 s30 => ?_⟩
        have D30 := D29.bx By s30
        have t30 := D30.t 0 (by decide)
        rw [if_pos rfl] at t30
        o_args
        refine brD (fun q => ?_) (fun q => ?_)
        · o_args
          refine ixL D30.l1 (refs_at e (i := 0) (by decide)) ?_
          o_args
          refine ixL D30.l3 (refs_at r (i := 0) (by decide)) ?_
          o_args
          refine ⟨e 0, r 0, y, odd 0, rfl, t30.ob, t30.hr, ?_⟩
          o_args
          exact fin (j := 0) (by decide) ty By hy g0 g1 O29 s30 _ _
        · o_args
          exact fin (j := 0) (by decide) ty By hy g0 g1 O29 s30 _ _
      | 1, _ =>
        o_args
        refine ⟨e 1, r 1, b, p, x 1, odd 1, t', left, rfl, t28, B28, h28, f0, f1, fun H29 y left' ty By hy g0 g1 O29 => ?_⟩
        have D29 := D28.goB (i := 1) (by decide) B28 h28 rfl O29 ty
        o_args
        refine ⟨b, _, rfl, By, by decide, by decide, fun q1 H30 q11 q12 B30 s30 => ?_⟩
        have D30 := D29.bx By s30
        have t30 := D30.t 1 (by decide)
        rw [if_pos rfl] at t30
        o_args
        refine brD (fun q => ?_) (fun q => ?_)
        · o_args
          refine ixL D30.l1 (refs_at e (i := 1) (by decide)) ?_
          o_args
          refine ixL D30.l3 (refs_at r (i := 1) (by decide)) ?_
          o_args
          refine ⟨e 1, r 1, y, odd 1, rfl, t30.ob, t30.hr, ?_⟩
          o_args
          exact fin (j := 1) (by decide) ty By hy g0 g1 O29 s30 _ _
        · o_args
          exact fin (j := 1) (by decide) ty By hy g0 g1 O29 s30 _ _
      | 2, _ =>
        o_args
        refine ⟨e 2, r 2, b, p, x 2, odd 2, t', left, rfl, t28, B28, h28, f0, f1, fun H29 y left' ty By hy g0 g1 O29 => ?_⟩
        have D29 := D28.goB (i := 2) (by decide) B28 h28 rfl O29 ty
        o_args
        refine ⟨b, _, rfl, By, by decide, by decide, fun q1 H30 q11 q12 B30 s30 => ?_⟩
        have D30 := D29.bx By s30
        have t30 := D30.t 2 (by decide)
        rw [if_pos rfl] at t30
        o_args
        refine brD (fun q => ?_) (fun q => ?_)
        · o_args
          refine ixL D30.l1 (refs_at e (i := 2) (by decide)) ?_
          o_args
          refine ixL D30.l3 (refs_at r (i := 2) (by decide)) ?_
          o_args
          refine ⟨e 2, r 2, y, odd 2, rfl, t30.ob, t30.hr, ?_⟩
          o_args
          exact fin (j := 2) (by decide) ty By hy g0 g1 O29 s30 _ _
        · o_args
          exact fin (j := 2) (by decide) ty By hy g0 g1 O29 s30 _ _
      | 3, _ =>
        o_args
        refine ⟨e 3, r 3, b, p, x 3, odd 3, t', left, rfl, t28, B28, h28, f0, f1, fun H29 y left' ty By hy g0 g1 O29 => ?_⟩
        have D29 := D28.goB (i := 3) (by decide) B28 h28 rfl O29 ty
        o_args
        refine ⟨b, _, rfl, By, by decide, by decide, fun q1 H30 q11 q12 B30 s30 => ?_⟩
        have D30 := D29.bx By s30
        have t30 := D30.t 3 (by decide)
        rw [if_pos rfl] at t30
        o_args
        refine brD (fun q => ?_) (fun q => ?_)
        · o_args
          refine ixL D30.l1 (refs_at e (i := 3) (by decide)) ?_
          o_args
          refine ixL D30.l3 (refs_at r (i := 3) (by decide)) ?_
          o_args
          refine ⟨e 3, r 3, y, odd 3, rfl, t30.ob, t30.hr, ?_⟩
          o_args
          exact fin (j := 3) (by decide) ty By hy g0 g1 O29 s30 _ _
        · o_args
          exact fin (j := 3) (by decide) ty By hy g0 g1 O29 s30 _ _
    · rintro σ H23 ⟨bx, v1, v2, x, now, left, rfl, D23, h23, f0, f1, kA⟩
      o_args
      exact ⟨L1, L3, e, r, x, rfl, D23, k _⟩
end
set_option maxHeartbeats 0 in
theorem all_mk {l : PySem.W.OpenLaw} [SupP l.prog] {w : World} {K : PySem.W.Frag} {h : Heap} {mg : Str → Option Value} {fa : Addr} (X : K.In h) (G : h.Ns mainGlobals mg) (hfa : mg "law" = some (.ref fa))
    {c_Control c_Fixed c_LossError c_InvalidNumber c_InvalidSetting a_InvalidNumber_init_ a_InvalidSetting_init_ a_is_integer a_is_between a_require_new_bytes a_Control_init_ a_Control_starting p_Control_starting a_Control_on_ack a_Control_grow a_Control_on_loss a_Control_on_expiry a_Control_on_sample a_Control_set_window a_Fixed_init_ cda_Fixed_init_ cc_Fixed_init_ a_Fixed_on_ack a_Fixed_grow a_Fixed_on_loss a_Fixed_on_expiry a_Fixed_on_sample a__law_cell a__law_rounds a__law_box a__law_draw a__law_unit a__law_count a__law_load a__law_later a__law_bad a__law_refused a__law_whole a__law_truth a__law_base a__law_state a__law_acked a__law_many a__law_lost a__law_expired a__law_deed a__law_all_hold a_law dP_Fixed_init_ : Addr}
    {od_InvalidNumber_init_ an_InvalidNumber_init_ od_InvalidSetting_init_ an_InvalidSetting_init_ od_is_integer an_is_integer od_is_between an_is_between od_require_new_bytes an_require_new_bytes od_Control_init_ an_Control_init_ od_Control_starting an_Control_starting od_Control_on_ack an_Control_on_ack od_Control_grow an_Control_grow od_Control_on_loss an_Control_on_loss od_Control_on_expiry an_Control_on_expiry od_Control_on_sample an_Control_on_sample od_Control_set_window an_Control_set_window od_Fixed_init_ an_Fixed_init_ od_Fixed_on_ack an_Fixed_on_ack od_Fixed_grow an_Fixed_grow od_Fixed_on_loss an_Fixed_on_loss od_Fixed_on_expiry an_Fixed_on_expiry od_Fixed_on_sample an_Fixed_on_sample od__law_cell an__law_cell od__law_rounds an__law_rounds od__law_box an__law_box od__law_draw an__law_draw od__law_unit an__law_unit od__law_count an__law_count od__law_load an__law_load od__law_later an__law_later od__law_bad an__law_bad od__law_refused an__law_refused od__law_whole an__law_whole od__law_truth an__law_truth od__law_base an__law_base od__law_state an__law_state od__law_acked an__law_acked od__law_many an__law_many od__law_lost an__law_lost od__law_expired an__law_expired od__law_deed an__law_deed od__law_all_hold an__law_all_hold od_law an_law : Option Addr} {sl_InvalidNumber_init_ sl_InvalidSetting_init_ sl_is_integer sl_is_between sl_require_new_bytes sl_Control_init_ sl_Control_starting sl_Control_on_ack sl_Control_grow sl_Control_on_loss sl_Control_on_expiry sl_Control_on_sample sl_Control_set_window sl_Fixed_init_ sl_Fixed_on_ack sl_Fixed_grow sl_Fixed_on_loss sl_Fixed_on_expiry sl_Fixed_on_sample sl__law_cell sl__law_rounds sl__law_box sl__law_draw sl__law_unit sl__law_count sl__law_load sl__law_later sl__law_bad sl__law_refused sl__law_whole sl__law_truth sl__law_base sl__law_state sl__law_acked sl__law_many sl__law_lost sl__law_expired sl__law_deed sl__law_all_hold sl_law : Array (Option Value)}
    {gl_Fixed_init_ hl_Fixed_init_ : Value} {gd_Fixed_init_ hd'_Fixed_init_ : Option Addr} {gs_Fixed_init_ hs_Fixed_init_ : Array (Option Value)} {gv_Fixed_init_ : Array Value} {gk_Fixed_init_ : Tok}
    {cD_Fixed : ClassData}
    {oc_InvalidNumber_init_ kV_InvalidNumber_init_ dc_InvalidNumber_init_ pm_InvalidNumber_init_ cd_InvalidNumber_init_ ct_InvalidNumber_init_ oc_InvalidSetting_init_ kV_InvalidSetting_init_ dc_InvalidSetting_init_ pm_InvalidSetting_init_ cd_InvalidSetting_init_ ct_InvalidSetting_init_ oc_is_integer kV_is_integer dc_is_integer pm_is_integer cd_is_integer ct_is_integer oc_is_between kV_is_between dc_is_between pm_is_between cd_is_between ct_is_between oc_require_new_bytes kV_require_new_bytes dc_require_new_bytes pm_require_new_bytes cd_require_new_bytes ct_require_new_bytes oc_Control_init_ kV_Control_init_ dc_Control_init_ pm_Control_init_ cd_Control_init_ ct_Control_init_ oc_Control_starting kV_Control_starting dc_Control_starting pm_Control_starting cd_Control_starting ct_Control_starting oc_Control_on_ack kV_Control_on_ack dc_Control_on_ack pm_Control_on_ack cd_Control_on_ack ct_Control_on_ack oc_Control_grow kV_Control_grow dc_Control_grow pm_Control_grow cd_Control_grow ct_Control_grow oc_Control_on_loss kV_Control_on_loss dc_Control_on_loss pm_Control_on_loss cd_Control_on_loss ct_Control_on_loss oc_Control_on_expiry kV_Control_on_expiry dc_Control_on_expiry pm_Control_on_expiry cd_Control_on_expiry ct_Control_on_expiry oc_Control_on_sample kV_Control_on_sample dc_Control_on_sample pm_Control_on_sample cd_Control_on_sample ct_Control_on_sample oc_Control_set_window kV_Control_set_window dc_Control_set_window pm_Control_set_window cd_Control_set_window ct_Control_set_window oc_Fixed_init_ kV_Fixed_init_ dc_Fixed_init_ pm_Fixed_init_ ct_Fixed_init_ oc_Fixed_on_ack kV_Fixed_on_ack dc_Fixed_on_ack pm_Fixed_on_ack cd_Fixed_on_ack ct_Fixed_on_ack oc_Fixed_grow kV_Fixed_grow dc_Fixed_grow pm_Fixed_grow cd_Fixed_grow ct_Fixed_grow oc_Fixed_on_loss kV_Fixed_on_loss dc_Fixed_on_loss pm_Fixed_on_loss cd_Fixed_on_loss ct_Fixed_on_loss oc_Fixed_on_expiry kV_Fixed_on_expiry dc_Fixed_on_expiry pm_Fixed_on_expiry cd_Fixed_on_expiry ct_Fixed_on_expiry oc_Fixed_on_sample kV_Fixed_on_sample dc_Fixed_on_sample pm_Fixed_on_sample cd_Fixed_on_sample ct_Fixed_on_sample oc__law_cell kV__law_cell dc__law_cell pm__law_cell cd__law_cell ct__law_cell oc__law_rounds kV__law_rounds dc__law_rounds pm__law_rounds cd__law_rounds ct__law_rounds oc__law_box kV__law_box dc__law_box pm__law_box cd__law_box ct__law_box oc__law_draw kV__law_draw dc__law_draw pm__law_draw cd__law_draw ct__law_draw oc__law_unit kV__law_unit dc__law_unit pm__law_unit cd__law_unit ct__law_unit oc__law_count kV__law_count dc__law_count pm__law_count cd__law_count ct__law_count oc__law_load kV__law_load dc__law_load pm__law_load cd__law_load ct__law_load oc__law_later kV__law_later dc__law_later pm__law_later cd__law_later ct__law_later oc__law_bad kV__law_bad dc__law_bad pm__law_bad cd__law_bad ct__law_bad oc__law_refused kV__law_refused dc__law_refused pm__law_refused cd__law_refused ct__law_refused oc__law_whole kV__law_whole dc__law_whole pm__law_whole cd__law_whole ct__law_whole oc__law_truth kV__law_truth dc__law_truth pm__law_truth cd__law_truth ct__law_truth oc__law_base kV__law_base dc__law_base pm__law_base cd__law_base ct__law_base oc__law_state kV__law_state dc__law_state pm__law_state cd__law_state ct__law_state oc__law_acked kV__law_acked dc__law_acked pm__law_acked cd__law_acked ct__law_acked oc__law_many kV__law_many dc__law_many pm__law_many cd__law_many ct__law_many oc__law_lost kV__law_lost dc__law_lost pm__law_lost cd__law_lost ct__law_lost oc__law_expired kV__law_expired dc__law_expired pm__law_expired cd__law_expired ct__law_expired oc__law_deed kV__law_deed dc__law_deed pm__law_deed cd__law_deed ct__law_deed oc__law_all_hold kV__law_all_hold dc__law_all_hold pm__law_all_hold cd__law_all_hold ct__law_all_hold oc_law kV_law dc_law pm_law cd_law ct_law : Value}
    {td_D_Fixed_init_ : Option Addr} {tu_D_Fixed_init_ : Array Value} {tn_D_Fixed_init_ : Nat} {ts_D_Fixed_init_ : Array (Option Value)}
    {u_Control_GREATEST u_MOST_PIECES : Value}
    {rs_Control_starting : List Value}
    {xn_InvalidNumber xq_InvalidNumber : Str} {xN_InvalidNumber : Addr} {xb_InvalidNumber xm_InvalidNumber : List Value} {xs_InvalidNumber : List Str} {xu_InvalidNumber : List Value} {xa_InvalidNumber : Bool} {xo_InvalidNumber : _} {xd_InvalidNumber : Option Addr} {x0_InvalidNumber x1_InvalidNumber x2_InvalidNumber x3_InvalidNumber x5_InvalidNumber : Option Value}
    {xn_InvalidSetting xq_InvalidSetting : Str} {xN_InvalidSetting : Addr} {xb_InvalidSetting xm_InvalidSetting : List Value} {xs_InvalidSetting : List Str} {xu_InvalidSetting : List Value} {xa_InvalidSetting : Bool} {xo_InvalidSetting : _} {xd_InvalidSetting : Option Addr} {x0_InvalidSetting x1_InvalidSetting x2_InvalidSetting x3_InvalidSetting x5_InvalidSetting : Option Value}
    (aC_Control : PySem.W.nsIn K mainGlobals "Control" = some (some (.ref c_Control)))
    (pg_Control : PySem.W.plainGet K c_Control Str.empty = true)
    (hd_Control : PySem.W.hasDictIn K c_Control = true)
    (po_Control : PySem.W.plainOver K c_Control = true)
    (sa_Control : PySem.W.findIn K (.ref c_Control) "__setattr__" = some (some (.builtin "object.__setattr__")))
    (mk_Control : PySem.W.makesIn K c_Control = true)
    (kc_Control : PySem.W.keepIn K (.ref c_Control) = true)
    (n_Control_unit : PySem.W.findIn K (.ref c_Control) "unit" = some none)
    (n_Control_window : PySem.W.findIn K (.ref c_Control) "window" = some none)
    (n_Control_threshold : PySem.W.findIn K (.ref c_Control) "threshold" = some none)
    (n_Control_credit : PySem.W.findIn K (.ref c_Control) "credit" = some none)
    (n_Control_stalled : PySem.W.findIn K (.ref c_Control) "stalled" = some none)
    (rd_Control : PySem.W.readsIn K c_Control (.type "type") = true)
    (ga_Control : PySem.W.specialIn K (.ref c_Control) "__getattribute__" = some (some (.builtin "type.__getattribute__")))
    (va_Control_GREATEST : PySem.W.findCls K (.ref c_Control) (.type "type") "GREATEST" = some (.val u_Control_GREATEST))
    (aC_Fixed : PySem.W.nsIn K mainGlobals "Fixed" = some (some (.ref c_Fixed)))
    (pg_Fixed : PySem.W.plainGet K c_Fixed Str.empty = true)
    (hd_Fixed : PySem.W.hasDictIn K c_Fixed = true)
    (po_Fixed : PySem.W.plainOver K c_Fixed = true)
    (sa_Fixed : PySem.W.findIn K (.ref c_Fixed) "__setattr__" = some (some (.builtin "object.__setattr__")))
    (mk_Fixed : PySem.W.makesIn K c_Fixed = true)
    (kc_Fixed : PySem.W.keepIn K (.ref c_Fixed) = true)
    (n_Fixed_unit : PySem.W.findIn K (.ref c_Fixed) "unit" = some none)
    (n_Fixed_window : PySem.W.findIn K (.ref c_Fixed) "window" = some none)
    (n_Fixed_threshold : PySem.W.findIn K (.ref c_Fixed) "threshold" = some none)
    (n_Fixed_credit : PySem.W.findIn K (.ref c_Fixed) "credit" = some none)
    (n_Fixed_stalled : PySem.W.findIn K (.ref c_Fixed) "stalled" = some none)
    (aC_LossError : PySem.W.nsIn K mainGlobals "LossError" = some (some (.ref c_LossError)))
    (aC_InvalidNumber : PySem.W.nsIn K mainGlobals "InvalidNumber" = some (some (.ref c_InvalidNumber)))
    (xl_InvalidNumber : K.lookup c_InvalidNumber = some (excClassObj xn_InvalidNumber xq_InvalidNumber c_InvalidNumber xN_InvalidNumber xb_InvalidNumber xm_InvalidNumber true xs_InvalidNumber xu_InvalidNumber xa_InvalidNumber xo_InvalidNumber xd_InvalidNumber x0_InvalidNumber x1_InvalidNumber x2_InvalidNumber x3_InvalidNumber x5_InvalidNumber "ValueError.__new__"))
    (sa_InvalidNumber : PySem.W.findIn K (.ref c_InvalidNumber) "__setattr__" = some (some (.builtin "object.__setattr__")))
    (xx_InvalidNumber : PySem.W.subIn K (.ref c_InvalidNumber) (.type "BaseException") = some true)
    (xt_InvalidNumber : PySem.W.typeIn K (.ref c_InvalidNumber) = some (.type "type"))
    (xk_InvalidNumber : PySem.W.keepIn K (.ref c_InvalidNumber) = true)
    (xi_InvalidNumber : PySem.W.findIn K (.ref c_InvalidNumber) "__init__" = some (some (.ref a_InvalidNumber_init_)))
    (xg_InvalidNumber : PySem.W.findIn K (.ref c_InvalidNumber) "__getattribute__" = some (some (.builtin "BaseException.__getattribute__")))
    (xh_InvalidNumber : PySem.W.findIn K (.ref c_InvalidNumber) "__getattr__" = some none)
    (xy_InvalidNumber : PySem.W.hasDictIn K c_InvalidNumber = true)
    (xc_InvalidNumber : PySem.W.findIn K (.ref c_InvalidNumber) "__class__" = some (some (.builtin "object.__class__")))
    (xr_InvalidNumber : PySem.W.mroIn K c_InvalidNumber (.type "object") = some true)
    (nX_InvalidNumber : PySem.W.findIn K (.ref c_InvalidNumber) "number" = some none)
    (aC_InvalidSetting : PySem.W.nsIn K mainGlobals "InvalidSetting" = some (some (.ref c_InvalidSetting)))
    (xl_InvalidSetting : K.lookup c_InvalidSetting = some (excClassObj xn_InvalidSetting xq_InvalidSetting c_InvalidSetting xN_InvalidSetting xb_InvalidSetting xm_InvalidSetting true xs_InvalidSetting xu_InvalidSetting xa_InvalidSetting xo_InvalidSetting xd_InvalidSetting x0_InvalidSetting x1_InvalidSetting x2_InvalidSetting x3_InvalidSetting x5_InvalidSetting "ValueError.__new__"))
    (sa_InvalidSetting : PySem.W.findIn K (.ref c_InvalidSetting) "__setattr__" = some (some (.builtin "object.__setattr__")))
    (xx_InvalidSetting : PySem.W.subIn K (.ref c_InvalidSetting) (.type "BaseException") = some true)
    (xt_InvalidSetting : PySem.W.typeIn K (.ref c_InvalidSetting) = some (.type "type"))
    (xk_InvalidSetting : PySem.W.keepIn K (.ref c_InvalidSetting) = true)
    (xi_InvalidSetting : PySem.W.findIn K (.ref c_InvalidSetting) "__init__" = some (some (.ref a_InvalidSetting_init_)))
    (xg_InvalidSetting : PySem.W.findIn K (.ref c_InvalidSetting) "__getattribute__" = some (some (.builtin "BaseException.__getattribute__")))
    (xh_InvalidSetting : PySem.W.findIn K (.ref c_InvalidSetting) "__getattr__" = some none)
    (xy_InvalidSetting : PySem.W.hasDictIn K c_InvalidSetting = true)
    (xc_InvalidSetting : PySem.W.findIn K (.ref c_InvalidSetting) "__class__" = some (some (.builtin "object.__class__")))
    (xr_InvalidSetting : PySem.W.mroIn K c_InvalidSetting (.type "object") = some true)
    (nX_InvalidSetting : PySem.W.findIn K (.ref c_InvalidSetting) "setting" = some none)
    (x_get : PySem.W.specialIn K (.builtin "object.__class__") "__get__" = some (some (.builtin "getset_descriptor.__get__")))
    (x_tk : PySem.W.takesIn K (.builtin "object.__class__") = some true)
    (Me_InvalidNumber_InvalidNumber : PySem.W.exmOne K (.ref c_InvalidNumber) (.ref c_InvalidNumber) = some true)
    (xf_InvalidNumber_init_ : PySem.W.typeIn K (.ref a_InvalidNumber_init_) = some (.type "function"))
    (l_InvalidNumber_init_ : K.lookup a_InvalidNumber_init_ = some ⟨oc_InvalidNumber_init_, od_InvalidNumber_init_, .func (PySem.W.fnOf "__init__" "InvalidNumber.__init__" (defArgs s_InvalidNumber_init_) (defBody s_InvalidNumber_init_) (defScope s_InvalidNumber_init_) .none kV_InvalidNumber_init_ dc_InvalidNumber_init_ pm_InvalidNumber_init_ an_InvalidNumber_init_ cd_InvalidNumber_init_ ct_InvalidNumber_init_), sl_InvalidNumber_init_⟩)
    (e_InvalidNumber_init_ : PySem.W.codeIn K cd_InvalidNumber_init_ "InvalidNumber.__init__" = true)
    (k_InvalidNumber_init_ : PySem.W.keepIn K (.ref a_InvalidNumber_init_) = true)
    (xf_InvalidSetting_init_ : PySem.W.typeIn K (.ref a_InvalidSetting_init_) = some (.type "function"))
    (l_InvalidSetting_init_ : K.lookup a_InvalidSetting_init_ = some ⟨oc_InvalidSetting_init_, od_InvalidSetting_init_, .func (PySem.W.fnOf "__init__" "InvalidSetting.__init__" (defArgs s_InvalidSetting_init_) (defBody s_InvalidSetting_init_) (defScope s_InvalidSetting_init_) .none kV_InvalidSetting_init_ dc_InvalidSetting_init_ pm_InvalidSetting_init_ an_InvalidSetting_init_ cd_InvalidSetting_init_ ct_InvalidSetting_init_), sl_InvalidSetting_init_⟩)
    (e_InvalidSetting_init_ : PySem.W.codeIn K cd_InvalidSetting_init_ "InvalidSetting.__init__" = true)
    (k_InvalidSetting_init_ : PySem.W.keepIn K (.ref a_InvalidSetting_init_) = true)
    (a_is_integer' : PySem.W.nsIn K mainGlobals "is_integer" = some (some (.ref a_is_integer)))
    (l_is_integer : K.lookup a_is_integer = some ⟨oc_is_integer, od_is_integer, .func (PySem.W.fnOf "is_integer" "is_integer" (defArgs s_is_integer) (defBody s_is_integer) (defScope s_is_integer) .none kV_is_integer dc_is_integer pm_is_integer an_is_integer cd_is_integer ct_is_integer), sl_is_integer⟩)
    (e_is_integer : PySem.W.codeIn K cd_is_integer "is_integer" = true)
    (k_is_integer : PySem.W.keepIn K (.ref a_is_integer) = true)
    (a_is_between' : PySem.W.nsIn K mainGlobals "is_between" = some (some (.ref a_is_between)))
    (l_is_between : K.lookup a_is_between = some ⟨oc_is_between, od_is_between, .func (PySem.W.fnOf "is_between" "is_between" (defArgs s_is_between) (defBody s_is_between) (defScope s_is_between) .none kV_is_between dc_is_between pm_is_between an_is_between cd_is_between ct_is_between), sl_is_between⟩)
    (e_is_between : PySem.W.codeIn K cd_is_between "is_between" = true)
    (k_is_between : PySem.W.keepIn K (.ref a_is_between) = true)
    (a_require_new_bytes' : PySem.W.nsIn K mainGlobals "require_new_bytes" = some (some (.ref a_require_new_bytes)))
    (l_require_new_bytes : K.lookup a_require_new_bytes = some ⟨oc_require_new_bytes, od_require_new_bytes, .func (PySem.W.fnOf "require_new_bytes" "require_new_bytes" (defArgs s_require_new_bytes) (defBody s_require_new_bytes) (defScope s_require_new_bytes) .none kV_require_new_bytes dc_require_new_bytes pm_require_new_bytes an_require_new_bytes cd_require_new_bytes ct_require_new_bytes), sl_require_new_bytes⟩)
    (e_require_new_bytes : PySem.W.codeIn K cd_require_new_bytes "require_new_bytes" = true)
    (k_require_new_bytes : PySem.W.keepIn K (.ref a_require_new_bytes) = true)
    (a_Control_init_' : PySem.W.findIn K (.ref c_Control) "__init__" = some (some (.ref a_Control_init_)))
    (i_Control_init_ : PySem.W.isFn K (.ref a_Control_init_) = true)
    (l_Control_init_ : K.lookup a_Control_init_ = some ⟨oc_Control_init_, od_Control_init_, .func (PySem.W.fnOf "__init__" "Control.__init__" (defArgs s_Control_init_) (defBody s_Control_init_) (defScope s_Control_init_) .none kV_Control_init_ dc_Control_init_ pm_Control_init_ an_Control_init_ cd_Control_init_ ct_Control_init_), sl_Control_init_⟩)
    (e_Control_init_ : PySem.W.codeIn K cd_Control_init_ "Control.__init__" = true)
    (k_Control_init_ : PySem.W.keepIn K (.ref a_Control_init_) = true)
    (a_Control_starting' : PySem.W.findIn K (.ref c_Control) "starting" = some (some (.ref p_Control_starting)))
    (pg_Control_starting : PySem.W.specialIn K (.ref p_Control_starting) "__get__" = some (some (.builtin "property.__get__")))
    (pt_Control_starting : PySem.W.takesIn K (.ref p_Control_starting) = some true)
    (rc_Control_starting : PySem.W.recIn K p_Control_starting "property" = some (.ref a_Control_starting :: rs_Control_starting))
    (l_Control_starting : K.lookup a_Control_starting = some ⟨oc_Control_starting, od_Control_starting, .func (PySem.W.fnOf "starting" "Control.starting" (defArgs s_Control_starting) (defBody s_Control_starting) (defScope s_Control_starting) .none kV_Control_starting dc_Control_starting pm_Control_starting an_Control_starting cd_Control_starting ct_Control_starting), sl_Control_starting⟩)
    (e_Control_starting : PySem.W.codeIn K cd_Control_starting "Control.starting" = true)
    (k_Control_starting : PySem.W.keepIn K (.ref a_Control_starting) = true)
    (a_Control_on_ack' : PySem.W.findIn K (.ref c_Control) "on_ack" = some (some (.ref a_Control_on_ack)))
    (i_Control_on_ack : PySem.W.isFn K (.ref a_Control_on_ack) = true)
    (l_Control_on_ack : K.lookup a_Control_on_ack = some ⟨oc_Control_on_ack, od_Control_on_ack, .func (PySem.W.fnOf "on_ack" "Control.on_ack" (defArgs s_Control_on_ack) (defBody s_Control_on_ack) (defScope s_Control_on_ack) .none kV_Control_on_ack dc_Control_on_ack pm_Control_on_ack an_Control_on_ack cd_Control_on_ack ct_Control_on_ack), sl_Control_on_ack⟩)
    (e_Control_on_ack : PySem.W.codeIn K cd_Control_on_ack "Control.on_ack" = true)
    (k_Control_on_ack : PySem.W.keepIn K (.ref a_Control_on_ack) = true)
    (a_Control_grow' : PySem.W.findIn K (.ref c_Control) "grow" = some (some (.ref a_Control_grow)))
    (i_Control_grow : PySem.W.isFn K (.ref a_Control_grow) = true)
    (l_Control_grow : K.lookup a_Control_grow = some ⟨oc_Control_grow, od_Control_grow, .func (PySem.W.fnOf "grow" "Control.grow" (defArgs s_Control_grow) (defBody s_Control_grow) (defScope s_Control_grow) .none kV_Control_grow dc_Control_grow pm_Control_grow an_Control_grow cd_Control_grow ct_Control_grow), sl_Control_grow⟩)
    (e_Control_grow : PySem.W.codeIn K cd_Control_grow "Control.grow" = true)
    (k_Control_grow : PySem.W.keepIn K (.ref a_Control_grow) = true)
    (a_Control_on_loss' : PySem.W.findIn K (.ref c_Control) "on_loss" = some (some (.ref a_Control_on_loss)))
    (i_Control_on_loss : PySem.W.isFn K (.ref a_Control_on_loss) = true)
    (l_Control_on_loss : K.lookup a_Control_on_loss = some ⟨oc_Control_on_loss, od_Control_on_loss, .func (PySem.W.fnOf "on_loss" "Control.on_loss" (defArgs s_Control_on_loss) (defBody s_Control_on_loss) (defScope s_Control_on_loss) .none kV_Control_on_loss dc_Control_on_loss pm_Control_on_loss an_Control_on_loss cd_Control_on_loss ct_Control_on_loss), sl_Control_on_loss⟩)
    (e_Control_on_loss : PySem.W.codeIn K cd_Control_on_loss "Control.on_loss" = true)
    (k_Control_on_loss : PySem.W.keepIn K (.ref a_Control_on_loss) = true)
    (a_Control_on_expiry' : PySem.W.findIn K (.ref c_Control) "on_expiry" = some (some (.ref a_Control_on_expiry)))
    (i_Control_on_expiry : PySem.W.isFn K (.ref a_Control_on_expiry) = true)
    (l_Control_on_expiry : K.lookup a_Control_on_expiry = some ⟨oc_Control_on_expiry, od_Control_on_expiry, .func (PySem.W.fnOf "on_expiry" "Control.on_expiry" (defArgs s_Control_on_expiry) (defBody s_Control_on_expiry) (defScope s_Control_on_expiry) .none kV_Control_on_expiry dc_Control_on_expiry pm_Control_on_expiry an_Control_on_expiry cd_Control_on_expiry ct_Control_on_expiry), sl_Control_on_expiry⟩)
    (e_Control_on_expiry : PySem.W.codeIn K cd_Control_on_expiry "Control.on_expiry" = true)
    (k_Control_on_expiry : PySem.W.keepIn K (.ref a_Control_on_expiry) = true)
    (a_Control_on_sample' : PySem.W.findIn K (.ref c_Control) "on_sample" = some (some (.ref a_Control_on_sample)))
    (i_Control_on_sample : PySem.W.isFn K (.ref a_Control_on_sample) = true)
    (l_Control_on_sample : K.lookup a_Control_on_sample = some ⟨oc_Control_on_sample, od_Control_on_sample, .func (PySem.W.fnOf "on_sample" "Control.on_sample" (defArgs s_Control_on_sample) (defBody s_Control_on_sample) (defScope s_Control_on_sample) .none kV_Control_on_sample dc_Control_on_sample pm_Control_on_sample an_Control_on_sample cd_Control_on_sample ct_Control_on_sample), sl_Control_on_sample⟩)
    (e_Control_on_sample : PySem.W.codeIn K cd_Control_on_sample "Control.on_sample" = true)
    (k_Control_on_sample : PySem.W.keepIn K (.ref a_Control_on_sample) = true)
    (a_Control_set_window' : PySem.W.findIn K (.ref c_Control) "_set_window" = some (some (.ref a_Control_set_window)))
    (i_Control_set_window : PySem.W.isFn K (.ref a_Control_set_window) = true)
    (l_Control_set_window : K.lookup a_Control_set_window = some ⟨oc_Control_set_window, od_Control_set_window, .func (PySem.W.fnOf "_set_window" "Control._set_window" (defArgs s_Control_set_window) (defBody s_Control_set_window) (defScope s_Control_set_window) .none kV_Control_set_window dc_Control_set_window pm_Control_set_window an_Control_set_window cd_Control_set_window ct_Control_set_window), sl_Control_set_window⟩)
    (e_Control_set_window : PySem.W.codeIn K cd_Control_set_window "Control._set_window" = true)
    (k_Control_set_window : PySem.W.keepIn K (.ref a_Control_set_window) = true)
    (a_Fixed_init_' : PySem.W.findIn K (.ref c_Fixed) "__init__" = some (some (.ref a_Fixed_init_)))
    (i_Fixed_init_ : PySem.W.isFn K (.ref a_Fixed_init_) = true)
    (l_Fixed_init_ : K.lookup a_Fixed_init_ = some ⟨oc_Fixed_init_, od_Fixed_init_, .func (PySem.W.fnX "__init__" "Fixed.__init__" (defArgs s_Fixed_init_) (defBody s_Fixed_init_) (defScope s_Fixed_init_) [("__class__", cc_Fixed_init_)] (.ref dP_Fixed_init_) kV_Fixed_init_ dc_Fixed_init_ pm_Fixed_init_ an_Fixed_init_ (.ref cda_Fixed_init_) ct_Fixed_init_), sl_Fixed_init_⟩)
    (e_Fixed_init_ : PySem.W.codeIn K (.ref cda_Fixed_init_) "Fixed.__init__" = true)
    (k_Fixed_init_ : PySem.W.keepIn K (.ref a_Fixed_init_) = true)
    (lk_Fixed_init_ : K.lookup cda_Fixed_init_ = some ⟨gl_Fixed_init_, gd_Fixed_init_, .fields gv_Fixed_init_, gs_Fixed_init_⟩)
    (lx_Fixed_init_ : K.lookup cc_Fixed_init_ = some ⟨hl_Fixed_init_, hd'_Fixed_init_, .cell (some (.ref c_Fixed)), hs_Fixed_init_⟩)
    (a_Fixed_on_ack' : PySem.W.findIn K (.ref c_Fixed) "on_ack" = some (some (.ref a_Fixed_on_ack)))
    (i_Fixed_on_ack : PySem.W.isFn K (.ref a_Fixed_on_ack) = true)
    (l_Fixed_on_ack : K.lookup a_Fixed_on_ack = some ⟨oc_Fixed_on_ack, od_Fixed_on_ack, .func (PySem.W.fnOf "on_ack" "Fixed.on_ack" (defArgs s_Fixed_on_ack) (defBody s_Fixed_on_ack) (defScope s_Fixed_on_ack) .none kV_Fixed_on_ack dc_Fixed_on_ack pm_Fixed_on_ack an_Fixed_on_ack cd_Fixed_on_ack ct_Fixed_on_ack), sl_Fixed_on_ack⟩)
    (e_Fixed_on_ack : PySem.W.codeIn K cd_Fixed_on_ack "Fixed.on_ack" = true)
    (k_Fixed_on_ack : PySem.W.keepIn K (.ref a_Fixed_on_ack) = true)
    (a_Fixed_grow' : PySem.W.findIn K (.ref c_Fixed) "grow" = some (some (.ref a_Fixed_grow)))
    (i_Fixed_grow : PySem.W.isFn K (.ref a_Fixed_grow) = true)
    (l_Fixed_grow : K.lookup a_Fixed_grow = some ⟨oc_Fixed_grow, od_Fixed_grow, .func (PySem.W.fnOf "grow" "Fixed.grow" (defArgs s_Fixed_grow) (defBody s_Fixed_grow) (defScope s_Fixed_grow) .none kV_Fixed_grow dc_Fixed_grow pm_Fixed_grow an_Fixed_grow cd_Fixed_grow ct_Fixed_grow), sl_Fixed_grow⟩)
    (e_Fixed_grow : PySem.W.codeIn K cd_Fixed_grow "Fixed.grow" = true)
    (k_Fixed_grow : PySem.W.keepIn K (.ref a_Fixed_grow) = true)
    (a_Fixed_on_loss' : PySem.W.findIn K (.ref c_Fixed) "on_loss" = some (some (.ref a_Fixed_on_loss)))
    (i_Fixed_on_loss : PySem.W.isFn K (.ref a_Fixed_on_loss) = true)
    (l_Fixed_on_loss : K.lookup a_Fixed_on_loss = some ⟨oc_Fixed_on_loss, od_Fixed_on_loss, .func (PySem.W.fnOf "on_loss" "Fixed.on_loss" (defArgs s_Fixed_on_loss) (defBody s_Fixed_on_loss) (defScope s_Fixed_on_loss) .none kV_Fixed_on_loss dc_Fixed_on_loss pm_Fixed_on_loss an_Fixed_on_loss cd_Fixed_on_loss ct_Fixed_on_loss), sl_Fixed_on_loss⟩)
    (e_Fixed_on_loss : PySem.W.codeIn K cd_Fixed_on_loss "Fixed.on_loss" = true)
    (k_Fixed_on_loss : PySem.W.keepIn K (.ref a_Fixed_on_loss) = true)
    (a_Fixed_on_expiry' : PySem.W.findIn K (.ref c_Fixed) "on_expiry" = some (some (.ref a_Fixed_on_expiry)))
    (i_Fixed_on_expiry : PySem.W.isFn K (.ref a_Fixed_on_expiry) = true)
    (l_Fixed_on_expiry : K.lookup a_Fixed_on_expiry = some ⟨oc_Fixed_on_expiry, od_Fixed_on_expiry, .func (PySem.W.fnOf "on_expiry" "Fixed.on_expiry" (defArgs s_Fixed_on_expiry) (defBody s_Fixed_on_expiry) (defScope s_Fixed_on_expiry) .none kV_Fixed_on_expiry dc_Fixed_on_expiry pm_Fixed_on_expiry an_Fixed_on_expiry cd_Fixed_on_expiry ct_Fixed_on_expiry), sl_Fixed_on_expiry⟩)
    (e_Fixed_on_expiry : PySem.W.codeIn K cd_Fixed_on_expiry "Fixed.on_expiry" = true)
    (k_Fixed_on_expiry : PySem.W.keepIn K (.ref a_Fixed_on_expiry) = true)
    (a_Fixed_on_sample' : PySem.W.findIn K (.ref c_Fixed) "on_sample" = some (some (.ref a_Fixed_on_sample)))
    (i_Fixed_on_sample : PySem.W.isFn K (.ref a_Fixed_on_sample) = true)
    (l_Fixed_on_sample : K.lookup a_Fixed_on_sample = some ⟨oc_Fixed_on_sample, od_Fixed_on_sample, .func (PySem.W.fnOf "on_sample" "Fixed.on_sample" (defArgs s_Fixed_on_sample) (defBody s_Fixed_on_sample) (defScope s_Fixed_on_sample) .none kV_Fixed_on_sample dc_Fixed_on_sample pm_Fixed_on_sample an_Fixed_on_sample cd_Fixed_on_sample ct_Fixed_on_sample), sl_Fixed_on_sample⟩)
    (e_Fixed_on_sample : PySem.W.codeIn K cd_Fixed_on_sample "Fixed.on_sample" = true)
    (k_Fixed_on_sample : PySem.W.keepIn K (.ref a_Fixed_on_sample) = true)
    (a__law_cell' : PySem.W.nsIn K mainGlobals "_law_cell" = some (some (.ref a__law_cell)))
    (l__law_cell : K.lookup a__law_cell = some ⟨oc__law_cell, od__law_cell, .func (PySem.W.fnOf "_law_cell" "_law_cell" (defArgs s__law_cell) (defBody s__law_cell) (defScope s__law_cell) .none kV__law_cell dc__law_cell pm__law_cell an__law_cell cd__law_cell ct__law_cell), sl__law_cell⟩)
    (e__law_cell : PySem.W.codeIn K cd__law_cell "_law_cell" = true)
    (k__law_cell : PySem.W.keepIn K (.ref a__law_cell) = true)
    (a__law_rounds' : PySem.W.nsIn K mainGlobals "_law_rounds" = some (some (.ref a__law_rounds)))
    (l__law_rounds : K.lookup a__law_rounds = some ⟨oc__law_rounds, od__law_rounds, .func (PySem.W.fnOf "_law_rounds" "_law_rounds" (defArgs s__law_rounds) (defBody s__law_rounds) (defScope s__law_rounds) .none kV__law_rounds dc__law_rounds pm__law_rounds an__law_rounds cd__law_rounds ct__law_rounds), sl__law_rounds⟩)
    (e__law_rounds : PySem.W.codeIn K cd__law_rounds "_law_rounds" = true)
    (k__law_rounds : PySem.W.keepIn K (.ref a__law_rounds) = true)
    (a__law_box' : PySem.W.nsIn K mainGlobals "_law_box" = some (some (.ref a__law_box)))
    (l__law_box : K.lookup a__law_box = some ⟨oc__law_box, od__law_box, .func (PySem.W.fnOf "_law_box" "_law_box" (defArgs s__law_box) (defBody s__law_box) (defScope s__law_box) .none kV__law_box dc__law_box pm__law_box an__law_box cd__law_box ct__law_box), sl__law_box⟩)
    (e__law_box : PySem.W.codeIn K cd__law_box "_law_box" = true)
    (k__law_box : PySem.W.keepIn K (.ref a__law_box) = true)
    (a__law_draw' : PySem.W.nsIn K mainGlobals "_law_draw" = some (some (.ref a__law_draw)))
    (l__law_draw : K.lookup a__law_draw = some ⟨oc__law_draw, od__law_draw, .func (PySem.W.fnOf "_law_draw" "_law_draw" (defArgs s__law_draw) (defBody s__law_draw) (defScope s__law_draw) .none kV__law_draw dc__law_draw pm__law_draw an__law_draw cd__law_draw ct__law_draw), sl__law_draw⟩)
    (e__law_draw : PySem.W.codeIn K cd__law_draw "_law_draw" = true)
    (k__law_draw : PySem.W.keepIn K (.ref a__law_draw) = true)
    (a__law_unit' : PySem.W.nsIn K mainGlobals "_law_unit" = some (some (.ref a__law_unit)))
    (l__law_unit : K.lookup a__law_unit = some ⟨oc__law_unit, od__law_unit, .func (PySem.W.fnOf "_law_unit" "_law_unit" (defArgs s__law_unit) (defBody s__law_unit) (defScope s__law_unit) .none kV__law_unit dc__law_unit pm__law_unit an__law_unit cd__law_unit ct__law_unit), sl__law_unit⟩)
    (e__law_unit : PySem.W.codeIn K cd__law_unit "_law_unit" = true)
    (k__law_unit : PySem.W.keepIn K (.ref a__law_unit) = true)
    (a__law_count' : PySem.W.nsIn K mainGlobals "_law_count" = some (some (.ref a__law_count)))
    (l__law_count : K.lookup a__law_count = some ⟨oc__law_count, od__law_count, .func (PySem.W.fnOf "_law_count" "_law_count" (defArgs s__law_count) (defBody s__law_count) (defScope s__law_count) .none kV__law_count dc__law_count pm__law_count an__law_count cd__law_count ct__law_count), sl__law_count⟩)
    (e__law_count : PySem.W.codeIn K cd__law_count "_law_count" = true)
    (k__law_count : PySem.W.keepIn K (.ref a__law_count) = true)
    (a__law_load' : PySem.W.nsIn K mainGlobals "_law_load" = some (some (.ref a__law_load)))
    (l__law_load : K.lookup a__law_load = some ⟨oc__law_load, od__law_load, .func (PySem.W.fnOf "_law_load" "_law_load" (defArgs s__law_load) (defBody s__law_load) (defScope s__law_load) .none kV__law_load dc__law_load pm__law_load an__law_load cd__law_load ct__law_load), sl__law_load⟩)
    (e__law_load : PySem.W.codeIn K cd__law_load "_law_load" = true)
    (k__law_load : PySem.W.keepIn K (.ref a__law_load) = true)
    (a__law_later' : PySem.W.nsIn K mainGlobals "_law_later" = some (some (.ref a__law_later)))
    (l__law_later : K.lookup a__law_later = some ⟨oc__law_later, od__law_later, .func (PySem.W.fnOf "_law_later" "_law_later" (defArgs s__law_later) (defBody s__law_later) (defScope s__law_later) .none kV__law_later dc__law_later pm__law_later an__law_later cd__law_later ct__law_later), sl__law_later⟩)
    (e__law_later : PySem.W.codeIn K cd__law_later "_law_later" = true)
    (k__law_later : PySem.W.keepIn K (.ref a__law_later) = true)
    (a__law_bad' : PySem.W.nsIn K mainGlobals "_law_bad" = some (some (.ref a__law_bad)))
    (l__law_bad : K.lookup a__law_bad = some ⟨oc__law_bad, od__law_bad, .func (PySem.W.fnOf "_law_bad" "_law_bad" (defArgs s__law_bad) (defBody s__law_bad) (defScope s__law_bad) .none kV__law_bad dc__law_bad pm__law_bad an__law_bad cd__law_bad ct__law_bad), sl__law_bad⟩)
    (e__law_bad : PySem.W.codeIn K cd__law_bad "_law_bad" = true)
    (k__law_bad : PySem.W.keepIn K (.ref a__law_bad) = true)
    (a__law_refused' : PySem.W.nsIn K mainGlobals "_law_refused" = some (some (.ref a__law_refused)))
    (l__law_refused : K.lookup a__law_refused = some ⟨oc__law_refused, od__law_refused, .func (PySem.W.fnOf "_law_refused" "_law_refused" (defArgs s__law_refused) (defBody s__law_refused) (defScope s__law_refused) .none kV__law_refused dc__law_refused pm__law_refused an__law_refused cd__law_refused ct__law_refused), sl__law_refused⟩)
    (e__law_refused : PySem.W.codeIn K cd__law_refused "_law_refused" = true)
    (k__law_refused : PySem.W.keepIn K (.ref a__law_refused) = true)
    (a__law_whole' : PySem.W.nsIn K mainGlobals "_law_whole" = some (some (.ref a__law_whole)))
    (l__law_whole : K.lookup a__law_whole = some ⟨oc__law_whole, od__law_whole, .func (PySem.W.fnOf "_law_whole" "_law_whole" (defArgs s__law_whole) (defBody s__law_whole) (defScope s__law_whole) .none kV__law_whole dc__law_whole pm__law_whole an__law_whole cd__law_whole ct__law_whole), sl__law_whole⟩)
    (e__law_whole : PySem.W.codeIn K cd__law_whole "_law_whole" = true)
    (k__law_whole : PySem.W.keepIn K (.ref a__law_whole) = true)
    (a__law_truth' : PySem.W.nsIn K mainGlobals "_law_truth" = some (some (.ref a__law_truth)))
    (l__law_truth : K.lookup a__law_truth = some ⟨oc__law_truth, od__law_truth, .func (PySem.W.fnOf "_law_truth" "_law_truth" (defArgs s__law_truth) (defBody s__law_truth) (defScope s__law_truth) .none kV__law_truth dc__law_truth pm__law_truth an__law_truth cd__law_truth ct__law_truth), sl__law_truth⟩)
    (e__law_truth : PySem.W.codeIn K cd__law_truth "_law_truth" = true)
    (k__law_truth : PySem.W.keepIn K (.ref a__law_truth) = true)
    (a__law_base' : PySem.W.nsIn K mainGlobals "_law_base" = some (some (.ref a__law_base)))
    (l__law_base : K.lookup a__law_base = some ⟨oc__law_base, od__law_base, .func (PySem.W.fnOf "_law_base" "_law_base" (defArgs s__law_base) (defBody s__law_base) (defScope s__law_base) .none kV__law_base dc__law_base pm__law_base an__law_base cd__law_base ct__law_base), sl__law_base⟩)
    (e__law_base : PySem.W.codeIn K cd__law_base "_law_base" = true)
    (k__law_base : PySem.W.keepIn K (.ref a__law_base) = true)
    (a__law_state' : PySem.W.nsIn K mainGlobals "_law_state" = some (some (.ref a__law_state)))
    (l__law_state : K.lookup a__law_state = some ⟨oc__law_state, od__law_state, .func (PySem.W.fnOf "_law_state" "_law_state" (defArgs s__law_state) (defBody s__law_state) (defScope s__law_state) .none kV__law_state dc__law_state pm__law_state an__law_state cd__law_state ct__law_state), sl__law_state⟩)
    (e__law_state : PySem.W.codeIn K cd__law_state "_law_state" = true)
    (k__law_state : PySem.W.keepIn K (.ref a__law_state) = true)
    (a__law_acked' : PySem.W.nsIn K mainGlobals "_law_acked" = some (some (.ref a__law_acked)))
    (l__law_acked : K.lookup a__law_acked = some ⟨oc__law_acked, od__law_acked, .func (PySem.W.fnOf "_law_acked" "_law_acked" (defArgs s__law_acked) (defBody s__law_acked) (defScope s__law_acked) .none kV__law_acked dc__law_acked pm__law_acked an__law_acked cd__law_acked ct__law_acked), sl__law_acked⟩)
    (e__law_acked : PySem.W.codeIn K cd__law_acked "_law_acked" = true)
    (k__law_acked : PySem.W.keepIn K (.ref a__law_acked) = true)
    (a__law_many' : PySem.W.nsIn K mainGlobals "_law_many" = some (some (.ref a__law_many)))
    (l__law_many : K.lookup a__law_many = some ⟨oc__law_many, od__law_many, .func (PySem.W.fnOf "_law_many" "_law_many" (defArgs s__law_many) (defBody s__law_many) (defScope s__law_many) .none kV__law_many dc__law_many pm__law_many an__law_many cd__law_many ct__law_many), sl__law_many⟩)
    (e__law_many : PySem.W.codeIn K cd__law_many "_law_many" = true)
    (k__law_many : PySem.W.keepIn K (.ref a__law_many) = true)
    (a__law_lost' : PySem.W.nsIn K mainGlobals "_law_lost" = some (some (.ref a__law_lost)))
    (l__law_lost : K.lookup a__law_lost = some ⟨oc__law_lost, od__law_lost, .func (PySem.W.fnOf "_law_lost" "_law_lost" (defArgs s__law_lost) (defBody s__law_lost) (defScope s__law_lost) .none kV__law_lost dc__law_lost pm__law_lost an__law_lost cd__law_lost ct__law_lost), sl__law_lost⟩)
    (e__law_lost : PySem.W.codeIn K cd__law_lost "_law_lost" = true)
    (k__law_lost : PySem.W.keepIn K (.ref a__law_lost) = true)
    (a__law_expired' : PySem.W.nsIn K mainGlobals "_law_expired" = some (some (.ref a__law_expired)))
    (l__law_expired : K.lookup a__law_expired = some ⟨oc__law_expired, od__law_expired, .func (PySem.W.fnOf "_law_expired" "_law_expired" (defArgs s__law_expired) (defBody s__law_expired) (defScope s__law_expired) .none kV__law_expired dc__law_expired pm__law_expired an__law_expired cd__law_expired ct__law_expired), sl__law_expired⟩)
    (e__law_expired : PySem.W.codeIn K cd__law_expired "_law_expired" = true)
    (k__law_expired : PySem.W.keepIn K (.ref a__law_expired) = true)
    (a__law_deed' : PySem.W.nsIn K mainGlobals "_law_deed" = some (some (.ref a__law_deed)))
    (l__law_deed : K.lookup a__law_deed = some ⟨oc__law_deed, od__law_deed, .func (PySem.W.fnOf "_law_deed" "_law_deed" (defArgs s__law_deed) (defBody s__law_deed) (defScope s__law_deed) .none kV__law_deed dc__law_deed pm__law_deed an__law_deed cd__law_deed ct__law_deed), sl__law_deed⟩)
    (e__law_deed : PySem.W.codeIn K cd__law_deed "_law_deed" = true)
    (k__law_deed : PySem.W.keepIn K (.ref a__law_deed) = true)
    (a__law_all_hold' : PySem.W.nsIn K mainGlobals "_law_all_hold" = some (some (.ref a__law_all_hold)))
    (l__law_all_hold : K.lookup a__law_all_hold = some ⟨oc__law_all_hold, od__law_all_hold, .func (PySem.W.fnOf "_law_all_hold" "_law_all_hold" (defArgs s__law_all_hold) (defBody s__law_all_hold) (defScope s__law_all_hold) .none kV__law_all_hold dc__law_all_hold pm__law_all_hold an__law_all_hold cd__law_all_hold ct__law_all_hold), sl__law_all_hold⟩)
    (e__law_all_hold : PySem.W.codeIn K cd__law_all_hold "_law_all_hold" = true)
    (k__law_all_hold : PySem.W.keepIn K (.ref a__law_all_hold) = true)
    (a_law' : PySem.W.nsIn K mainGlobals "law" = some (some (.ref a_law)))
    (l_law : K.lookup a_law = some ⟨oc_law, od_law, .func (PySem.W.fnOf "law" "law" (defArgs s_law) (defBody s_law) (defScope s_law) .none kV_law dc_law pm_law an_law cd_law ct_law), sl_law⟩)
    (e_law : PySem.W.codeIn K cd_law "law" = true)
    (k_law : PySem.W.keepIn K (.ref a_law) = true)
    (ih_Fixed_starting : PySem.W.findIn K (.ref c_Fixed) "starting" = some (some (.ref p_Control_starting)))
    (ci_Fixed : PySem.W.clsIn K c_Fixed = some cD_Fixed)
    (sm_SC_Fixed_Fixed_init_ : PySem.W.mroIn K c_Fixed (.ref c_Fixed) = some true)
    (sw_SC_Fixed_Fixed_init_ : PySem.W.ks_superIn K c_Fixed c_Fixed "__init__" = some (some (.ref a_Control_init_)))
    (st_SC_Fixed_Fixed_init_ : PySem.W.typeIn K (.ref a_Control_init_) = some (.type "function"))
    (sf_SC_Fixed_Fixed_init_ : PySem.W.fnIn K a_Control_init_ = true)
    (sy_ : PySem.W.nsIn K PySem.cStatics "thirdparty.any" = some none)
    (lt_D_Fixed_init_ : K.lookup dP_Fixed_init_ = some ⟨.type "tuple", td_D_Fixed_init_, .seq tu_D_Fixed_init_ tn_D_Fixed_init_, ts_D_Fixed_init_⟩)
    (z_bool : PySem.W.nsIn K mainGlobals "bool" = some none)
    (z_int : PySem.W.nsIn K mainGlobals "int" = some none)
    (z_isinstance : PySem.W.nsIn K mainGlobals "isinstance" = some none)
    (z_len : PySem.W.nsIn K mainGlobals "len" = some none)
    (z_max : PySem.W.nsIn K mainGlobals "max" = some none)
    (z_min : PySem.W.nsIn K mainGlobals "min" = some none)
    (z_property : PySem.W.nsIn K mainGlobals "property" = some none)
    (z_range : PySem.W.nsIn K mainGlobals "range" = some none)
    (z_sum : PySem.W.nsIn K mainGlobals "sum" = some none)
    (z_super : PySem.W.nsIn K mainGlobals "super" = some none)
    (q_MOST_PIECES : PySem.W.nsIn K mainGlobals "MOST_PIECES" = some (some u_MOST_PIECES))
    (xm'_InvalidNumber : PySem.HandSPX.refsVE xm_InvalidNumber = true)
    (xm'_InvalidSetting : PySem.HandSPX.refsVE xm_InvalidSetting = true)
    (w_Control_GREATEST : RelV (.int 4194304) u_Control_GREATEST)
    (w_MOST_PIECES : RelV (.int 64) u_MOST_PIECES)
    (gt_Fixed_init_ : gv_Fixed_init_[2]? = some (.str "/claim/cut.py" gk_Fixed_init_))
    (tv_D_Fixed_init_ : L2.Vals [(.int 8)] tu_D_Fixed_init_.toList)
    (tz_D_Fixed_init_ : tu_D_Fixed_init_.size ≤ PySem.sizeLine)
    : ∃ fd : FuncData, (∀ (s : Shared) (v : Value), BindsTo s fd ⟨[v], []⟩ [("script", v)]) ∧ ∀ base : Heap, K.In base → base.Ns mainGlobals mg → FnOk l.prog w K mg base CX0 12 fa fd ["script"] (sp_law K) := by
  have e : fa = a_law := by
    have e0 := hfa.symm.trans (PySem.W.mg_of X G a_law')
    cases e0
    rfl
  rw [e]
  have F_InvalidNumber_init_ := fun_mk (st := s_InvalidNumber_init_) l_InvalidNumber_init_ e_InvalidNumber_init_ k_InvalidNumber_init_
  have F_InvalidSetting_init_ := fun_mk (st := s_InvalidSetting_init_) l_InvalidSetting_init_ e_InvalidSetting_init_ k_InvalidSetting_init_
  have F_is_integer := fun_mk (st := s_is_integer) l_is_integer e_is_integer k_is_integer
  have F_is_between := fun_mk (st := s_is_between) l_is_between e_is_between k_is_between
  have F_require_new_bytes := fun_mk (st := s_require_new_bytes) l_require_new_bytes e_require_new_bytes k_require_new_bytes
  have F_Control_init_ := fun_mk (st := s_Control_init_) l_Control_init_ e_Control_init_ k_Control_init_
  have F_Control_starting := fun_mk (st := s_Control_starting) l_Control_starting e_Control_starting k_Control_starting
  have F_Control_on_ack := fun_mk (st := s_Control_on_ack) l_Control_on_ack e_Control_on_ack k_Control_on_ack
  have F_Control_grow := fun_mk (st := s_Control_grow) l_Control_grow e_Control_grow k_Control_grow
  have F_Control_on_loss := fun_mk (st := s_Control_on_loss) l_Control_on_loss e_Control_on_loss k_Control_on_loss
  have F_Control_on_expiry := fun_mk (st := s_Control_on_expiry) l_Control_on_expiry e_Control_on_expiry k_Control_on_expiry
  have F_Control_on_sample := fun_mk (st := s_Control_on_sample) l_Control_on_sample e_Control_on_sample k_Control_on_sample
  have F_Control_set_window := fun_mk (st := s_Control_set_window) l_Control_set_window e_Control_set_window k_Control_set_window
  have F_Fixed_init_ : FunC K "__init__" "Fixed.__init__" s_Fixed_init_ a_Fixed_init_ cda_Fixed_init_ cc_Fixed_init_ _ := ⟨⟨_, _, _, _, _, _, _, _, _, rfl, l_Fixed_init_, e_Fixed_init_⟩, k_Fixed_init_⟩
  have F_Fixed_on_ack := fun_mk (st := s_Fixed_on_ack) l_Fixed_on_ack e_Fixed_on_ack k_Fixed_on_ack
  have F_Fixed_grow := fun_mk (st := s_Fixed_grow) l_Fixed_grow e_Fixed_grow k_Fixed_grow
  have F_Fixed_on_loss := fun_mk (st := s_Fixed_on_loss) l_Fixed_on_loss e_Fixed_on_loss k_Fixed_on_loss
  have F_Fixed_on_expiry := fun_mk (st := s_Fixed_on_expiry) l_Fixed_on_expiry e_Fixed_on_expiry k_Fixed_on_expiry
  have F_Fixed_on_sample := fun_mk (st := s_Fixed_on_sample) l_Fixed_on_sample e_Fixed_on_sample k_Fixed_on_sample
  have F__law_cell := fun_mk (st := s__law_cell) l__law_cell e__law_cell k__law_cell
  have F__law_rounds := fun_mk (st := s__law_rounds) l__law_rounds e__law_rounds k__law_rounds
  have F__law_box := fun_mk (st := s__law_box) l__law_box e__law_box k__law_box
  have F__law_draw := fun_mk (st := s__law_draw) l__law_draw e__law_draw k__law_draw
  have F__law_unit := fun_mk (st := s__law_unit) l__law_unit e__law_unit k__law_unit
  have F__law_count := fun_mk (st := s__law_count) l__law_count e__law_count k__law_count
  have F__law_load := fun_mk (st := s__law_load) l__law_load e__law_load k__law_load
  have F__law_later := fun_mk (st := s__law_later) l__law_later e__law_later k__law_later
  have F__law_bad := fun_mk (st := s__law_bad) l__law_bad e__law_bad k__law_bad
  have F__law_refused := fun_mk (st := s__law_refused) l__law_refused e__law_refused k__law_refused
  have F__law_whole := fun_mk (st := s__law_whole) l__law_whole e__law_whole k__law_whole
  have F__law_truth := fun_mk (st := s__law_truth) l__law_truth e__law_truth k__law_truth
  have F__law_base := fun_mk (st := s__law_base) l__law_base e__law_base k__law_base
  have F__law_state := fun_mk (st := s__law_state) l__law_state e__law_state k__law_state
  have F__law_acked := fun_mk (st := s__law_acked) l__law_acked e__law_acked k__law_acked
  have F__law_many := fun_mk (st := s__law_many) l__law_many e__law_many k__law_many
  have F__law_lost := fun_mk (st := s__law_lost) l__law_lost e__law_lost k__law_lost
  have F__law_expired := fun_mk (st := s__law_expired) l__law_expired e__law_expired k__law_expired
  have F__law_deed := fun_mk (st := s__law_deed) l__law_deed e__law_deed k__law_deed
  have F__law_all_hold := fun_mk (st := s__law_all_hold) l__law_all_hold e__law_all_hold k__law_all_hold
  have F_law := fun_mk (st := s_law) l_law e_law k_law
  let T : Txt K mg := {
    c_Control := c_Control,
    g_Control := PySem.W.mg_of X G aC_Control,
    cl_Control := ⟨pg_Control, hd_Control, po_Control, sa_Control⟩,
    n_Control_unit := n_Control_unit,
    n_Control_window := n_Control_window,
    n_Control_threshold := n_Control_threshold,
    n_Control_credit := n_Control_credit,
    n_Control_stalled := n_Control_stalled,
    mc_Control := .type "type",
    R_Control := ⟨rd_Control, ga_Control⟩,
    V_Control_GREATEST := ⟨_, va_Control_GREATEST, w_Control_GREATEST⟩,
    c_Fixed := c_Fixed,
    g_Fixed := PySem.W.mg_of X G aC_Fixed,
    cl_Fixed := ⟨pg_Fixed, hd_Fixed, po_Fixed, sa_Fixed⟩,
    n_Fixed_unit := n_Fixed_unit,
    n_Fixed_window := n_Fixed_window,
    n_Fixed_threshold := n_Fixed_threshold,
    n_Fixed_credit := n_Fixed_credit,
    n_Fixed_stalled := n_Fixed_stalled,
    c_LossError := c_LossError,
    X_LossError := ⟨PySem.W.mg_of X G aC_LossError⟩,
    c_InvalidNumber := c_InvalidNumber,
    X_InvalidNumber := xcls_mk (PySem.W.mg_of X G aC_InvalidNumber) xl_InvalidNumber xm'_InvalidNumber sa_InvalidNumber xx_InvalidNumber xt_InvalidNumber xk_InvalidNumber xi_InvalidNumber xf_InvalidNumber_init_ xg_InvalidNumber xh_InvalidNumber xy_InvalidNumber xc_InvalidNumber x_get x_tk xr_InvalidNumber,
    nX_InvalidNumber := nX_InvalidNumber,
    c_InvalidSetting := c_InvalidSetting,
    X_InvalidSetting := xcls_mk (PySem.W.mg_of X G aC_InvalidSetting) xl_InvalidSetting xm'_InvalidSetting sa_InvalidSetting xx_InvalidSetting xt_InvalidSetting xk_InvalidSetting xi_InvalidSetting xf_InvalidSetting_init_ xg_InvalidSetting xh_InvalidSetting xy_InvalidSetting xc_InvalidSetting x_get x_tk xr_InvalidSetting,
    nX_InvalidSetting := nX_InvalidSetting,
    Me_InvalidNumber_InvalidNumber := Me_InvalidNumber_InvalidNumber,
    a_InvalidNumber_init_ := a_InvalidNumber_init_,
    fd_InvalidNumber_init_ := PySem.W.fnOf "__init__" "InvalidNumber.__init__" (defArgs s_InvalidNumber_init_) (defBody s_InvalidNumber_init_) (defScope s_InvalidNumber_init_) .none kV_InvalidNumber_init_ dc_InvalidNumber_init_ pm_InvalidNumber_init_ an_InvalidNumber_init_ cd_InvalidNumber_init_ ct_InvalidNumber_init_,
    F_InvalidNumber_init_ := F_InvalidNumber_init_,
    B_InvalidNumber_init_ := F_InvalidNumber_init_.binds (ps := ["self", "number"]) fun _ _ _ _ _ _ us hl => match us, hl with | [_, _], _ => rfl,
    a_InvalidSetting_init_ := a_InvalidSetting_init_,
    fd_InvalidSetting_init_ := PySem.W.fnOf "__init__" "InvalidSetting.__init__" (defArgs s_InvalidSetting_init_) (defBody s_InvalidSetting_init_) (defScope s_InvalidSetting_init_) .none kV_InvalidSetting_init_ dc_InvalidSetting_init_ pm_InvalidSetting_init_ an_InvalidSetting_init_ cd_InvalidSetting_init_ ct_InvalidSetting_init_,
    F_InvalidSetting_init_ := F_InvalidSetting_init_,
    B_InvalidSetting_init_ := F_InvalidSetting_init_.binds (ps := ["self", "setting"]) fun _ _ _ _ _ _ us hl => match us, hl with | [_, _], _ => rfl,
    a_is_integer := a_is_integer,
    fd_is_integer := PySem.W.fnOf "is_integer" "is_integer" (defArgs s_is_integer) (defBody s_is_integer) (defScope s_is_integer) .none kV_is_integer dc_is_integer pm_is_integer an_is_integer cd_is_integer ct_is_integer,
    F_is_integer := F_is_integer,
    B_is_integer := F_is_integer.binds (ps := ["value"]) fun _ _ _ _ _ _ us hl => match us, hl with | [_], _ => rfl,
    g_is_integer := PySem.W.mg_of X G a_is_integer',
    a_is_between := a_is_between,
    fd_is_between := PySem.W.fnOf "is_between" "is_between" (defArgs s_is_between) (defBody s_is_between) (defScope s_is_between) .none kV_is_between dc_is_between pm_is_between an_is_between cd_is_between ct_is_between,
    F_is_between := F_is_between,
    B_is_between := F_is_between.binds (ps := ["value", "low", "high"]) fun _ _ _ _ _ _ us hl => match us, hl with | [_, _, _], _ => rfl,
    g_is_between := PySem.W.mg_of X G a_is_between',
    a_require_new_bytes := a_require_new_bytes,
    fd_require_new_bytes := PySem.W.fnOf "require_new_bytes" "require_new_bytes" (defArgs s_require_new_bytes) (defBody s_require_new_bytes) (defScope s_require_new_bytes) .none kV_require_new_bytes dc_require_new_bytes pm_require_new_bytes an_require_new_bytes cd_require_new_bytes ct_require_new_bytes,
    F_require_new_bytes := F_require_new_bytes,
    B_require_new_bytes := F_require_new_bytes.binds (ps := ["count"]) fun _ _ _ _ _ _ us hl => match us, hl with | [_], _ => rfl,
    g_require_new_bytes := PySem.W.mg_of X G a_require_new_bytes',
    a_Control_init_ := a_Control_init_,
    fd_Control_init_ := PySem.W.fnOf "__init__" "Control.__init__" (defArgs s_Control_init_) (defBody s_Control_init_) (defScope s_Control_init_) .none kV_Control_init_ dc_Control_init_ pm_Control_init_ an_Control_init_ cd_Control_init_ ct_Control_init_,
    F_Control_init_ := F_Control_init_,
    B_Control_init_ := F_Control_init_.binds (ps := ["self", "unit"]) fun _ _ _ _ _ _ us hl => match us, hl with | [_, _], _ => rfl,
    M_Control := ⟨mk_Control, a_Control_init_', i_Control_init_, kc_Control⟩,
    a_Control_starting := a_Control_starting,
    fd_Control_starting := PySem.W.fnOf "starting" "Control.starting" (defArgs s_Control_starting) (defBody s_Control_starting) (defScope s_Control_starting) .none kV_Control_starting dc_Control_starting pm_Control_starting an_Control_starting cd_Control_starting ct_Control_starting,
    F_Control_starting := F_Control_starting,
    B_Control_starting := F_Control_starting.binds (ps := ["self"]) fun _ _ _ _ _ _ us hl => match us, hl with | [_], _ => rfl,
    p_Control_starting := p_Control_starting,
    PR_Control_starting := ⟨a_Control_starting', pg_Control_starting, pt_Control_starting, ⟨_, rc_Control_starting⟩⟩,
    a_Control_on_ack := a_Control_on_ack,
    fd_Control_on_ack := PySem.W.fnOf "on_ack" "Control.on_ack" (defArgs s_Control_on_ack) (defBody s_Control_on_ack) (defScope s_Control_on_ack) .none kV_Control_on_ack dc_Control_on_ack pm_Control_on_ack an_Control_on_ack cd_Control_on_ack ct_Control_on_ack,
    F_Control_on_ack := F_Control_on_ack,
    B_Control_on_ack := F_Control_on_ack.binds (ps := ["self", "count", "flight", "now"]) fun _ _ _ _ _ _ us hl => match us, hl with | [_, _, _, _], _ => rfl,
    m_Control_on_ack := ⟨a_Control_on_ack', i_Control_on_ack, k_Control_on_ack⟩,
    a_Control_grow := a_Control_grow,
    fd_Control_grow := PySem.W.fnOf "grow" "Control.grow" (defArgs s_Control_grow) (defBody s_Control_grow) (defScope s_Control_grow) .none kV_Control_grow dc_Control_grow pm_Control_grow an_Control_grow cd_Control_grow ct_Control_grow,
    F_Control_grow := F_Control_grow,
    B_Control_grow := F_Control_grow.binds (ps := ["self", "count", "now"]) fun _ _ _ _ _ _ us hl => match us, hl with | [_, _, _], _ => rfl,
    m_Control_grow := ⟨a_Control_grow', i_Control_grow, k_Control_grow⟩,
    a_Control_on_loss := a_Control_on_loss,
    fd_Control_on_loss := PySem.W.fnOf "on_loss" "Control.on_loss" (defArgs s_Control_on_loss) (defBody s_Control_on_loss) (defScope s_Control_on_loss) .none kV_Control_on_loss dc_Control_on_loss pm_Control_on_loss an_Control_on_loss cd_Control_on_loss ct_Control_on_loss,
    F_Control_on_loss := F_Control_on_loss,
    B_Control_on_loss := F_Control_on_loss.binds (ps := ["self", "flight", "now"]) fun _ _ _ _ _ _ us hl => match us, hl with | [_, _, _], _ => rfl,
    m_Control_on_loss := ⟨a_Control_on_loss', i_Control_on_loss, k_Control_on_loss⟩,
    a_Control_on_expiry := a_Control_on_expiry,
    fd_Control_on_expiry := PySem.W.fnOf "on_expiry" "Control.on_expiry" (defArgs s_Control_on_expiry) (defBody s_Control_on_expiry) (defScope s_Control_on_expiry) .none kV_Control_on_expiry dc_Control_on_expiry pm_Control_on_expiry an_Control_on_expiry cd_Control_on_expiry ct_Control_on_expiry,
    F_Control_on_expiry := F_Control_on_expiry,
    B_Control_on_expiry := F_Control_on_expiry.binds (ps := ["self", "flight", "now"]) fun _ _ _ _ _ _ us hl => match us, hl with | [_, _, _], _ => rfl,
    m_Control_on_expiry := ⟨a_Control_on_expiry', i_Control_on_expiry, k_Control_on_expiry⟩,
    a_Control_on_sample := a_Control_on_sample,
    fd_Control_on_sample := PySem.W.fnOf "on_sample" "Control.on_sample" (defArgs s_Control_on_sample) (defBody s_Control_on_sample) (defScope s_Control_on_sample) .none kV_Control_on_sample dc_Control_on_sample pm_Control_on_sample an_Control_on_sample cd_Control_on_sample ct_Control_on_sample,
    F_Control_on_sample := F_Control_on_sample,
    B_Control_on_sample := F_Control_on_sample.binds (ps := ["self", "ticks"]) fun _ _ _ _ _ _ us hl => match us, hl with | [_, _], _ => rfl,
    m_Control_on_sample := ⟨a_Control_on_sample', i_Control_on_sample, k_Control_on_sample⟩,
    a_Control_set_window := a_Control_set_window,
    fd_Control_set_window := PySem.W.fnOf "_set_window" "Control._set_window" (defArgs s_Control_set_window) (defBody s_Control_set_window) (defScope s_Control_set_window) .none kV_Control_set_window dc_Control_set_window pm_Control_set_window an_Control_set_window cd_Control_set_window ct_Control_set_window,
    F_Control_set_window := F_Control_set_window,
    B_Control_set_window := F_Control_set_window.binds (ps := ["self", "window"]) fun _ _ _ _ _ _ us hl => match us, hl with | [_, _], _ => rfl,
    m_Control_set_window := ⟨a_Control_set_window', i_Control_set_window, k_Control_set_window⟩,
    a_Fixed_init_ := a_Fixed_init_,
    fd_Fixed_init_ := _,
    cda_Fixed_init_ := cda_Fixed_init_,
    cc_Fixed_init_ := cc_Fixed_init_,
    F_Fixed_init_ := F_Fixed_init_,
    SK_Fixed_init_ := ⟨⟨_, _, _, _, _, l_Fixed_init_, rfl, rfl⟩, ⟨_, _, _, _, _, lk_Fixed_init_, gt_Fixed_init_⟩, ⟨_, _, _, lx_Fixed_init_⟩, ⟨_, ci_Fixed⟩⟩,
    M_Fixed := ⟨mk_Fixed, a_Fixed_init_', i_Fixed_init_, kc_Fixed⟩,
    ds_Fixed_init_ := tu_D_Fixed_init_.toList,
    VD_Fixed_init_ := tv_D_Fixed_init_,
    BD_Fixed_init_ := bindsX lt_D_Fixed_init_ rfl tv_D_Fixed_init_ rfl fun us its h1 h2 => match us, its, h1, h2 with | [_, _], [_], _, _ => ⟨_, rfl, rfl⟩,
    B_Fixed_init_ := bindsX0 lt_D_Fixed_init_ rfl tv_D_Fixed_init_ fun us its h1 h2 => match us, its, h1, h2 with | [_, _, _], [_], _, _ => ⟨_, rfl, rfl⟩,
    a_Fixed_on_ack := a_Fixed_on_ack,
    fd_Fixed_on_ack := PySem.W.fnOf "on_ack" "Fixed.on_ack" (defArgs s_Fixed_on_ack) (defBody s_Fixed_on_ack) (defScope s_Fixed_on_ack) .none kV_Fixed_on_ack dc_Fixed_on_ack pm_Fixed_on_ack an_Fixed_on_ack cd_Fixed_on_ack ct_Fixed_on_ack,
    F_Fixed_on_ack := F_Fixed_on_ack,
    B_Fixed_on_ack := F_Fixed_on_ack.binds (ps := ["self", "count", "flight", "now"]) fun _ _ _ _ _ _ us hl => match us, hl with | [_, _, _, _], _ => rfl,
    m_Fixed_on_ack := ⟨a_Fixed_on_ack', i_Fixed_on_ack, k_Fixed_on_ack⟩,
    a_Fixed_grow := a_Fixed_grow,
    fd_Fixed_grow := PySem.W.fnOf "grow" "Fixed.grow" (defArgs s_Fixed_grow) (defBody s_Fixed_grow) (defScope s_Fixed_grow) .none kV_Fixed_grow dc_Fixed_grow pm_Fixed_grow an_Fixed_grow cd_Fixed_grow ct_Fixed_grow,
    F_Fixed_grow := F_Fixed_grow,
    B_Fixed_grow := F_Fixed_grow.binds (ps := ["self", "count", "now"]) fun _ _ _ _ _ _ us hl => match us, hl with | [_, _, _], _ => rfl,
    m_Fixed_grow := ⟨a_Fixed_grow', i_Fixed_grow, k_Fixed_grow⟩,
    a_Fixed_on_loss := a_Fixed_on_loss,
    fd_Fixed_on_loss := PySem.W.fnOf "on_loss" "Fixed.on_loss" (defArgs s_Fixed_on_loss) (defBody s_Fixed_on_loss) (defScope s_Fixed_on_loss) .none kV_Fixed_on_loss dc_Fixed_on_loss pm_Fixed_on_loss an_Fixed_on_loss cd_Fixed_on_loss ct_Fixed_on_loss,
    F_Fixed_on_loss := F_Fixed_on_loss,
    B_Fixed_on_loss := F_Fixed_on_loss.binds (ps := ["self", "flight", "now"]) fun _ _ _ _ _ _ us hl => match us, hl with | [_, _, _], _ => rfl,
    m_Fixed_on_loss := ⟨a_Fixed_on_loss', i_Fixed_on_loss, k_Fixed_on_loss⟩,
    a_Fixed_on_expiry := a_Fixed_on_expiry,
    fd_Fixed_on_expiry := PySem.W.fnOf "on_expiry" "Fixed.on_expiry" (defArgs s_Fixed_on_expiry) (defBody s_Fixed_on_expiry) (defScope s_Fixed_on_expiry) .none kV_Fixed_on_expiry dc_Fixed_on_expiry pm_Fixed_on_expiry an_Fixed_on_expiry cd_Fixed_on_expiry ct_Fixed_on_expiry,
    F_Fixed_on_expiry := F_Fixed_on_expiry,
    B_Fixed_on_expiry := F_Fixed_on_expiry.binds (ps := ["self", "flight", "now"]) fun _ _ _ _ _ _ us hl => match us, hl with | [_, _, _], _ => rfl,
    m_Fixed_on_expiry := ⟨a_Fixed_on_expiry', i_Fixed_on_expiry, k_Fixed_on_expiry⟩,
    a_Fixed_on_sample := a_Fixed_on_sample,
    fd_Fixed_on_sample := PySem.W.fnOf "on_sample" "Fixed.on_sample" (defArgs s_Fixed_on_sample) (defBody s_Fixed_on_sample) (defScope s_Fixed_on_sample) .none kV_Fixed_on_sample dc_Fixed_on_sample pm_Fixed_on_sample an_Fixed_on_sample cd_Fixed_on_sample ct_Fixed_on_sample,
    F_Fixed_on_sample := F_Fixed_on_sample,
    B_Fixed_on_sample := F_Fixed_on_sample.binds (ps := ["self", "ticks"]) fun _ _ _ _ _ _ us hl => match us, hl with | [_, _], _ => rfl,
    m_Fixed_on_sample := ⟨a_Fixed_on_sample', i_Fixed_on_sample, k_Fixed_on_sample⟩,
    a__law_cell := a__law_cell,
    fd__law_cell := PySem.W.fnOf "_law_cell" "_law_cell" (defArgs s__law_cell) (defBody s__law_cell) (defScope s__law_cell) .none kV__law_cell dc__law_cell pm__law_cell an__law_cell cd__law_cell ct__law_cell,
    F__law_cell := F__law_cell,
    B__law_cell := F__law_cell.binds (ps := ["script", "k"]) fun _ _ _ _ _ _ us hl => match us, hl with | [_, _], _ => rfl,
    g__law_cell := PySem.W.mg_of X G a__law_cell',
    a__law_rounds := a__law_rounds,
    fd__law_rounds := PySem.W.fnOf "_law_rounds" "_law_rounds" (defArgs s__law_rounds) (defBody s__law_rounds) (defScope s__law_rounds) .none kV__law_rounds dc__law_rounds pm__law_rounds an__law_rounds cd__law_rounds ct__law_rounds,
    F__law_rounds := F__law_rounds,
    B__law_rounds := F__law_rounds.binds (ps := ["script"]) fun _ _ _ _ _ _ us hl => match us, hl with | [_], _ => rfl,
    g__law_rounds := PySem.W.mg_of X G a__law_rounds',
    a__law_box := a__law_box,
    fd__law_box := PySem.W.fnOf "_law_box" "_law_box" (defArgs s__law_box) (defBody s__law_box) (defScope s__law_box) .none kV__law_box dc__law_box pm__law_box an__law_box cd__law_box ct__law_box,
    F__law_box := F__law_box,
    B__law_box := F__law_box.binds (ps := ["cell"]) fun _ _ _ _ _ _ us hl => match us, hl with | [_], _ => rfl,
    g__law_box := PySem.W.mg_of X G a__law_box',
    a__law_draw := a__law_draw,
    fd__law_draw := PySem.W.fnOf "_law_draw" "_law_draw" (defArgs s__law_draw) (defBody s__law_draw) (defScope s__law_draw) .none kV__law_draw dc__law_draw pm__law_draw an__law_draw cd__law_draw ct__law_draw,
    F__law_draw := F__law_draw,
    B__law_draw := F__law_draw.binds (ps := ["box", "size"]) fun _ _ _ _ _ _ us hl => match us, hl with | [_, _], _ => rfl,
    g__law_draw := PySem.W.mg_of X G a__law_draw',
    a__law_unit := a__law_unit,
    fd__law_unit := PySem.W.fnOf "_law_unit" "_law_unit" (defArgs s__law_unit) (defBody s__law_unit) (defScope s__law_unit) .none kV__law_unit dc__law_unit pm__law_unit an__law_unit cd__law_unit ct__law_unit,
    F__law_unit := F__law_unit,
    B__law_unit := F__law_unit.binds (ps := ["box"]) fun _ _ _ _ _ _ us hl => match us, hl with | [_], _ => rfl,
    g__law_unit := PySem.W.mg_of X G a__law_unit',
    a__law_count := a__law_count,
    fd__law_count := PySem.W.fnOf "_law_count" "_law_count" (defArgs s__law_count) (defBody s__law_count) (defScope s__law_count) .none kV__law_count dc__law_count pm__law_count an__law_count cd__law_count ct__law_count,
    F__law_count := F__law_count,
    B__law_count := F__law_count.binds (ps := ["box", "unit", "brink"]) fun _ _ _ _ _ _ us hl => match us, hl with | [_, _, _], _ => rfl,
    g__law_count := PySem.W.mg_of X G a__law_count',
    a__law_load := a__law_load,
    fd__law_load := PySem.W.fnOf "_law_load" "_law_load" (defArgs s__law_load) (defBody s__law_load) (defScope s__law_load) .none kV__law_load dc__law_load pm__law_load an__law_load cd__law_load ct__law_load,
    F__law_load := F__law_load,
    B__law_load := F__law_load.binds (ps := ["box", "unit", "window", "count"]) fun _ _ _ _ _ _ us hl => match us, hl with | [_, _, _, _], _ => rfl,
    g__law_load := PySem.W.mg_of X G a__law_load',
    a__law_later := a__law_later,
    fd__law_later := PySem.W.fnOf "_law_later" "_law_later" (defArgs s__law_later) (defBody s__law_later) (defScope s__law_later) .none kV__law_later dc__law_later pm__law_later an__law_later cd__law_later ct__law_later,
    F__law_later := F__law_later,
    B__law_later := F__law_later.binds (ps := ["box", "now", "meet"]) fun _ _ _ _ _ _ us hl => match us, hl with | [_, _, _], _ => rfl,
    g__law_later := PySem.W.mg_of X G a__law_later',
    a__law_bad := a__law_bad,
    fd__law_bad := PySem.W.fnOf "_law_bad" "_law_bad" (defArgs s__law_bad) (defBody s__law_bad) (defScope s__law_bad) .none kV__law_bad dc__law_bad pm__law_bad an__law_bad cd__law_bad ct__law_bad,
    F__law_bad := F__law_bad,
    B__law_bad := F__law_bad.binds (ps := ["box"]) fun _ _ _ _ _ _ us hl => match us, hl with | [_], _ => rfl,
    g__law_bad := PySem.W.mg_of X G a__law_bad',
    a__law_refused := a__law_refused,
    fd__law_refused := PySem.W.fnOf "_law_refused" "_law_refused" (defArgs s__law_refused) (defBody s__law_refused) (defScope s__law_refused) .none kV__law_refused dc__law_refused pm__law_refused an__law_refused cd__law_refused ct__law_refused,
    F__law_refused := F__law_refused,
    B__law_refused := F__law_refused.binds (ps := ["control", "bad", "load", "now"]) fun _ _ _ _ _ _ us hl => match us, hl with | [_, _, _, _], _ => rfl,
    g__law_refused := PySem.W.mg_of X G a__law_refused',
    a__law_whole := a__law_whole,
    fd__law_whole := PySem.W.fnOf "_law_whole" "_law_whole" (defArgs s__law_whole) (defBody s__law_whole) (defScope s__law_whole) .none kV__law_whole dc__law_whole pm__law_whole an__law_whole cd__law_whole ct__law_whole,
    F__law_whole := F__law_whole,
    B__law_whole := F__law_whole.binds (ps := ["value", "wanted"]) fun _ _ _ _ _ _ us hl => match us, hl with | [_, _], _ => rfl,
    g__law_whole := PySem.W.mg_of X G a__law_whole',
    a__law_truth := a__law_truth,
    fd__law_truth := PySem.W.fnOf "_law_truth" "_law_truth" (defArgs s__law_truth) (defBody s__law_truth) (defScope s__law_truth) .none kV__law_truth dc__law_truth pm__law_truth an__law_truth cd__law_truth ct__law_truth,
    F__law_truth := F__law_truth,
    B__law_truth := F__law_truth.binds (ps := ["value", "wanted"]) fun _ _ _ _ _ _ us hl => match us, hl with | [_, _], _ => rfl,
    g__law_truth := PySem.W.mg_of X G a__law_truth',
    a__law_base := a__law_base,
    fd__law_base := PySem.W.fnOf "_law_base" "_law_base" (defArgs s__law_base) (defBody s__law_base) (defScope s__law_base) .none kV__law_base dc__law_base pm__law_base an__law_base cd__law_base ct__law_base,
    F__law_base := F__law_base,
    B__law_base := F__law_base.binds (ps := ["control", "state"]) fun _ _ _ _ _ _ us hl => match us, hl with | [_, _], _ => rfl,
    g__law_base := PySem.W.mg_of X G a__law_base',
    a__law_state := a__law_state,
    fd__law_state := PySem.W.fnOf "_law_state" "_law_state" (defArgs s__law_state) (defBody s__law_state) (defScope s__law_state) .none kV__law_state dc__law_state pm__law_state an__law_state cd__law_state ct__law_state,
    F__law_state := F__law_state,
    B__law_state := F__law_state.binds (ps := ["unit", "times"]) fun _ _ _ _ _ _ us hl => match us, hl with | [_, _], _ => rfl,
    g__law_state := PySem.W.mg_of X G a__law_state',
    a__law_acked := a__law_acked,
    fd__law_acked := PySem.W.fnOf "_law_acked" "_law_acked" (defArgs s__law_acked) (defBody s__law_acked) (defScope s__law_acked) .none kV__law_acked dc__law_acked pm__law_acked an__law_acked cd__law_acked ct__law_acked,
    F__law_acked := F__law_acked,
    B__law_acked := F__law_acked.binds (ps := ["state", "fixed", "count", "load"]) fun _ _ _ _ _ _ us hl => match us, hl with | [_, _, _, _], _ => rfl,
    g__law_acked := PySem.W.mg_of X G a__law_acked',
    a__law_many := a__law_many,
    fd__law_many := PySem.W.fnOf "_law_many" "_law_many" (defArgs s__law_many) (defBody s__law_many) (defScope s__law_many) .none kV__law_many dc__law_many pm__law_many an__law_many cd__law_many ct__law_many,
    F__law_many := F__law_many,
    B__law_many := F__law_many.binds (ps := ["control", "state", "fixed", "box", "clock"]) fun _ _ _ _ _ _ us hl => match us, hl with | [_, _, _, _, _], _ => rfl,
    g__law_many := PySem.W.mg_of X G a__law_many',
    a__law_lost := a__law_lost,
    fd__law_lost := PySem.W.fnOf "_law_lost" "_law_lost" (defArgs s__law_lost) (defBody s__law_lost) (defScope s__law_lost) .none kV__law_lost dc__law_lost pm__law_lost an__law_lost cd__law_lost ct__law_lost,
    F__law_lost := F__law_lost,
    B__law_lost := F__law_lost.binds (ps := ["state", "fixed", "load"]) fun _ _ _ _ _ _ us hl => match us, hl with | [_, _, _], _ => rfl,
    g__law_lost := PySem.W.mg_of X G a__law_lost',
    a__law_expired := a__law_expired,
    fd__law_expired := PySem.W.fnOf "_law_expired" "_law_expired" (defArgs s__law_expired) (defBody s__law_expired) (defScope s__law_expired) .none kV__law_expired dc__law_expired pm__law_expired an__law_expired cd__law_expired ct__law_expired,
    F__law_expired := F__law_expired,
    B__law_expired := F__law_expired.binds (ps := ["state", "fixed", "load"]) fun _ _ _ _ _ _ us hl => match us, hl with | [_, _, _], _ => rfl,
    g__law_expired := PySem.W.mg_of X G a__law_expired',
    a__law_deed := a__law_deed,
    fd__law_deed := PySem.W.fnOf "_law_deed" "_law_deed" (defArgs s__law_deed) (defBody s__law_deed) (defScope s__law_deed) .none kV__law_deed dc__law_deed pm__law_deed an__law_deed cd__law_deed ct__law_deed,
    F__law_deed := F__law_deed,
    B__law_deed := F__law_deed.binds (ps := ["control", "state", "fixed", "box", "clock"]) fun _ _ _ _ _ _ us hl => match us, hl with | [_, _, _, _, _], _ => rfl,
    g__law_deed := PySem.W.mg_of X G a__law_deed',
    a__law_all_hold := a__law_all_hold,
    fd__law_all_hold := PySem.W.fnOf "_law_all_hold" "_law_all_hold" (defArgs s__law_all_hold) (defBody s__law_all_hold) (defScope s__law_all_hold) .none kV__law_all_hold dc__law_all_hold pm__law_all_hold an__law_all_hold cd__law_all_hold ct__law_all_hold,
    F__law_all_hold := F__law_all_hold,
    B__law_all_hold := F__law_all_hold.binds (ps := ["controls", "states"]) fun _ _ _ _ _ _ us hl => match us, hl with | [_, _], _ => rfl,
    g__law_all_hold := PySem.W.mg_of X G a__law_all_hold',
    a_law := a_law,
    fd_law := PySem.W.fnOf "law" "law" (defArgs s_law) (defBody s_law) (defScope s_law) .none kV_law dc_law pm_law an_law cd_law ct_law,
    F_law := F_law,
    B_law := F_law.binds (ps := ["script"]) fun _ _ _ _ _ _ us hl => match us, hl with | [_], _ => rfl,
    g_law := PySem.W.mg_of X G a_law',
    PR_Fixed_starting := ⟨ih_Fixed_starting, pg_Control_starting, pt_Control_starting, ⟨_, rc_Control_starting⟩⟩,
    SC_Fixed_Fixed_init_ := ⟨⟨_, ci_Fixed⟩, sm_SC_Fixed_Fixed_init_, sw_SC_Fixed_Fixed_init_, st_SC_Fixed_Fixed_init_, sf_SC_Fixed_Fixed_init_, sy_⟩,
    b_bool := PySem.W.mg_none_of X G z_bool,
    b_int := PySem.W.mg_none_of X G z_int,
    b_isinstance := PySem.W.mg_none_of X G z_isinstance,
    b_len := PySem.W.mg_none_of X G z_len,
    b_max := PySem.W.mg_none_of X G z_max,
    b_min := PySem.W.mg_none_of X G z_min,
    b_property := PySem.W.mg_none_of X G z_property,
    b_range := PySem.W.mg_none_of X G z_range,
    b_sum := PySem.W.mg_none_of X G z_sum,
    b_super := PySem.W.mg_none_of X G z_super,
    u_MOST_PIECES := u_MOST_PIECES,
    g_MOST_PIECES := PySem.W.mg_of X G q_MOST_PIECES,
    r_MOST_PIECES := w_MOST_PIECES }
  exact ⟨T.fd_law, fun s v => .of_eq rfl, fun base _ _ => ok_law (P := l.prog) (w := w) (base := base) T⟩
theorem walk {l : PySem.W.OpenLaw} {q : Program} {loose : List Str} {XP : (Str → Option Value) → Heap → Prop} {YP : World → Heap → Prop} {d : DefRec} {K : Params → PySem.W.Frag} (hn : l.most = some 63) (hdf : d.params.defaults = [])
    (hY : ∀ (w : World) (h : Heap), YP w h → (K w.params).In h)
    (F : ∀ (w : World) (mg : Str → Option Value) (fa : Addr) (h : Heap), (K w.params).In h → h.Ns mainGlobals mg → mg d.name = some (.ref fa) →
      ∃ fd : FuncData, (∀ (s : Shared) (u : Value), BindsTo s fd ⟨[u], []⟩ [("script", u)]) ∧ ∀ base : Heap, (K w.params).In base → base.Ns mainGlobals mg → FnOk l.prog w (K w.params) mg base CX0 12 fa fd ["script"] (sp_law (K w.params))) :
    PySem.W.WalkO q loose XP YP l.row.toRowW d [] (fun f vs => PySem.call f vs) :=
  L2.walk_of (CX := fun _ => CX0) (n := 63) (k := 12) (x := "script") (sp := fun w => sp_law (K w.params)) hn (by decide) hdf ⟨rfl, by decide, by decide⟩ hY F (fun _ _ a ns hl _ hS => ⟨a, ns, rfl, hS, hl, fun _ => rfl⟩) fun _ _ _ _ _ z => z
end My

instance : My.SupP PySem.Challenge.rw_lossway_k20_base_and_fixed.prog := ⟨by decide +kernel, by decide +kernel⟩
open PySem PySem.W PyProof.Rows in
set_option maxRecDepth 100000 in
set_option maxHeartbeats 0 in
theorem PySem.Challenge.cw_lossway_k20_base_and_fixed_holds : PySem.Challenge.rw_lossway_k20_base_and_fixed.Holds := by
  w_on; o_law; k_head; (case hw => w_witness2)
  k_fill
  refine My.walk (l := PySem.Challenge.rw_lossway_k20_base_and_fixed) rfl rfl (fun w h Y => PySem.W.kIn_of Y) ?F
  case F =>
    intro w mg fa h KX G hmg
    refine' My.all_mk KX G hmg ?aC_Control ?pg_Control ?hd_Control ?po_Control ?sa_Control ?mk_Control ?kc_Control ?n_Control_unit ?n_Control_window ?n_Control_threshold ?n_Control_credit ?n_Control_stalled ?rd_Control ?ga_Control ?va_Control_GREATEST ?aC_Fixed ?pg_Fixed ?hd_Fixed ?po_Fixed ?sa_Fixed ?mk_Fixed ?kc_Fixed ?n_Fixed_unit ?n_Fixed_window ?n_Fixed_threshold ?n_Fixed_credit ?n_Fixed_stalled ?aC_LossError ?aC_InvalidNumber ?xl_InvalidNumber ?sa_InvalidNumber ?xx_InvalidNumber ?xt_InvalidNumber ?xk_InvalidNumber ?xi_InvalidNumber ?xg_InvalidNumber ?xh_InvalidNumber ?xy_InvalidNumber ?xc_InvalidNumber ?xr_InvalidNumber ?nX_InvalidNumber ?aC_InvalidSetting ?xl_InvalidSetting ?sa_InvalidSetting ?xx_InvalidSetting ?xt_InvalidSetting ?xk_InvalidSetting ?xi_InvalidSetting ?xg_InvalidSetting ?xh_InvalidSetting ?xy_InvalidSetting ?xc_InvalidSetting ?xr_InvalidSetting ?nX_InvalidSetting ?x_get ?x_tk ?Me_InvalidNumber_InvalidNumber ?xf_InvalidNumber_init_ ?l_InvalidNumber_init_ ?e_InvalidNumber_init_ ?k_InvalidNumber_init_ ?xf_InvalidSetting_init_ ?l_InvalidSetting_init_ ?e_InvalidSetting_init_ ?k_InvalidSetting_init_ ?a_is_integer_ ?l_is_integer ?e_is_integer ?k_is_integer ?a_is_between_ ?l_is_between ?e_is_between ?k_is_between ?a_require_new_bytes_ ?l_require_new_bytes ?e_require_new_bytes ?k_require_new_bytes ?a_Control_init__ ?i_Control_init_ ?l_Control_init_ ?e_Control_init_ ?k_Control_init_ ?a_Control_starting_ ?pg_Control_starting ?pt_Control_starting ?rc_Control_starting ?l_Control_starting ?e_Control_starting ?k_Control_starting ?a_Control_on_ack_ ?i_Control_on_ack ?l_Control_on_ack ?e_Control_on_ack ?k_Control_on_ack ?a_Control_grow_ ?i_Control_grow ?l_Control_grow ?e_Control_grow ?k_Control_grow ?a_Control_on_loss_ ?i_Control_on_loss ?l_Control_on_loss ?e_Control_on_loss ?k_Control_on_loss ?a_Control_on_expiry_ ?i_Control_on_expiry ?l_Control_on_expiry ?e_Control_on_expiry ?k_Control_on_expiry ?a_Control_on_sample_ ?i_Control_on_sample ?l_Control_on_sample ?e_Control_on_sample ?k_Control_on_sample ?a_Control_set_window_ ?i_Control_set_window ?l_Control_set_window ?e_Control_set_window ?k_Control_set_window ?a_Fixed_init__ ?i_Fixed_init_ ?l_Fixed_init_ ?e_Fixed_init_ ?k_Fixed_init_ ?lk_Fixed_init_ ?lx_Fixed_init_ ?a_Fixed_on_ack_ ?i_Fixed_on_ack ?l_Fixed_on_ack ?e_Fixed_on_ack ?k_Fixed_on_ack ?a_Fixed_grow_ ?i_Fixed_grow ?l_Fixed_grow ?e_Fixed_grow ?k_Fixed_grow ?a_Fixed_on_loss_ ?i_Fixed_on_loss ?l_Fixed_on_loss ?e_Fixed_on_loss ?k_Fixed_on_loss ?a_Fixed_on_expiry_ ?i_Fixed_on_expiry ?l_Fixed_on_expiry ?e_Fixed_on_expiry ?k_Fixed_on_expiry ?a_Fixed_on_sample_ ?i_Fixed_on_sample ?l_Fixed_on_sample ?e_Fixed_on_sample ?k_Fixed_on_sample ?a__law_cell_ ?l__law_cell ?e__law_cell ?k__law_cell ?a__law_rounds_ ?l__law_rounds ?e__law_rounds ?k__law_rounds ?a__law_box_ ?l__law_box ?e__law_box ?k__law_box ?a__law_draw_ ?l__law_draw ?e__law_draw ?k__law_draw ?a__law_unit_ ?l__law_unit ?e__law_unit ?k__law_unit ?a__law_count_ ?l__law_count ?e__law_count ?k__law_count ?a__law_load_ ?l__law_load ?e__law_load ?k__law_load ?a__law_later_ ?l__law_later ?e__law_later ?k__law_later ?a__law_bad_ ?l__law_bad ?e__law_bad ?k__law_bad ?a__law_refused_ ?l__law_refused ?e__law_refused ?k__law_refused ?a__law_whole_ ?l__law_whole ?e__law_whole ?k__law_whole ?a__law_truth_ ?l__law_truth ?e__law_truth ?k__law_truth ?a__law_base_ ?l__law_base ?e__law_base ?k__law_base ?a__law_state_ ?l__law_state ?e__law_state ?k__law_state ?a__law_acked_ ?l__law_acked ?e__law_acked ?k__law_acked ?a__law_many_ ?l__law_many ?e__law_many ?k__law_many ?a__law_lost_ ?l__law_lost ?e__law_lost ?k__law_lost ?a__law_expired_ ?l__law_expired ?e__law_expired ?k__law_expired ?a__law_deed_ ?l__law_deed ?e__law_deed ?k__law_deed ?a__law_all_hold_ ?l__law_all_hold ?e__law_all_hold ?k__law_all_hold ?a_law_ ?l_law ?e_law ?k_law ?ih_Fixed_starting ?ci_Fixed ?sm_SC_Fixed_Fixed_init_ ?sw_SC_Fixed_Fixed_init_ ?st_SC_Fixed_Fixed_init_ ?sf_SC_Fixed_Fixed_init_ ?sy_ ?lt_D_Fixed_init_ ?z_bool ?z_int ?z_isinstance ?z_len ?z_max ?z_min ?z_property ?z_range ?z_sum ?z_super ?q_MOST_PIECES ?xm__InvalidNumber ?xm__InvalidSetting ?w_Control_GREATEST ?w_MOST_PIECES ?gt_Fixed_init_ ?tv_D_Fixed_init_ ?tz_D_Fixed_init_
    (case aC_Control => k_is)
    (case pg_Control => k_is)
    (case hd_Control => k_is)
    (case po_Control => k_is)
    (case sa_Control => k_is)
    (case mk_Control => k_is)
    (case kc_Control => k_is)
    (case n_Control_unit => k_is)
    (case n_Control_window => k_is)
    (case n_Control_threshold => k_is)
    (case n_Control_credit => k_is)
    (case n_Control_stalled => k_is)
    (case rd_Control => k_is)
    (case ga_Control => k_is)
    (case va_Control_GREATEST => k_is)
    (case aC_Fixed => k_is)
    (case pg_Fixed => k_is)
    (case hd_Fixed => k_is)
    (case po_Fixed => k_is)
    (case sa_Fixed => k_is)
    (case mk_Fixed => k_is)
    (case kc_Fixed => k_is)
    (case n_Fixed_unit => k_is)
    (case n_Fixed_window => k_is)
    (case n_Fixed_threshold => k_is)
    (case n_Fixed_credit => k_is)
    (case n_Fixed_stalled => k_is)
    (case aC_LossError => k_is)
    (case aC_InvalidNumber => k_is)
    (case xl_InvalidNumber => k_is)
    (case sa_InvalidNumber => k_is)
    (case xx_InvalidNumber => k_is)
    (case xt_InvalidNumber => k_is)
    (case xk_InvalidNumber => k_is)
    (case xi_InvalidNumber => k_is)
    (case xg_InvalidNumber => k_is)
    (case xh_InvalidNumber => k_is)
    (case xy_InvalidNumber => k_is)
    (case xc_InvalidNumber => k_is)
    (case xr_InvalidNumber => k_is)
    (case nX_InvalidNumber => k_is)
    (case aC_InvalidSetting => k_is)
    (case xl_InvalidSetting => k_is)
    (case sa_InvalidSetting => k_is)
    (case xx_InvalidSetting => k_is)
    (case xt_InvalidSetting => k_is)
    (case xk_InvalidSetting => k_is)
    (case xi_InvalidSetting => k_is)
    (case xg_InvalidSetting => k_is)
    (case xh_InvalidSetting => k_is)
    (case xy_InvalidSetting => k_is)
    (case xc_InvalidSetting => k_is)
    (case xr_InvalidSetting => k_is)
    (case nX_InvalidSetting => k_is)
    (case x_get => k_is)
    (case x_tk => k_is)
    (case Me_InvalidNumber_InvalidNumber => kts_exm)
    (case xf_InvalidNumber_init_ => k_is)
    (case l_InvalidNumber_init_ => k_is)
    (case e_InvalidNumber_init_ => k_is)
    (case k_InvalidNumber_init_ => k_is)
    (case xf_InvalidSetting_init_ => k_is)
    (case l_InvalidSetting_init_ => k_is)
    (case e_InvalidSetting_init_ => k_is)
    (case k_InvalidSetting_init_ => k_is)
    (case a_is_integer_ => k_is)
    (case l_is_integer => k_is)
    (case e_is_integer => k_is)
    (case k_is_integer => k_is)
    (case a_is_between_ => k_is)
    (case l_is_between => k_is)
    (case e_is_between => k_is)
    (case k_is_between => k_is)
    (case a_require_new_bytes_ => k_is)
    (case l_require_new_bytes => k_is)
    (case e_require_new_bytes => k_is)
    (case k_require_new_bytes => k_is)
    (case a_Control_init__ => k_is)
    (case i_Control_init_ => k_is)
    (case l_Control_init_ => k_is)
    (case e_Control_init_ => k_is)
    (case k_Control_init_ => k_is)
    (case a_Control_starting_ => k_is)
    (case pg_Control_starting => k_is)
    (case pt_Control_starting => k_is)
    (case rc_Control_starting => k_is)
    (case l_Control_starting => k_is)
    (case e_Control_starting => k_is)
    (case k_Control_starting => k_is)
    (case a_Control_on_ack_ => k_is)
    (case i_Control_on_ack => k_is)
    (case l_Control_on_ack => k_is)
    (case e_Control_on_ack => k_is)
    (case k_Control_on_ack => k_is)
    (case a_Control_grow_ => k_is)
    (case i_Control_grow => k_is)
    (case l_Control_grow => k_is)
    (case e_Control_grow => k_is)
    (case k_Control_grow => k_is)
    (case a_Control_on_loss_ => k_is)
    (case i_Control_on_loss => k_is)
    (case l_Control_on_loss => k_is)
    (case e_Control_on_loss => k_is)
    (case k_Control_on_loss => k_is)
    (case a_Control_on_expiry_ => k_is)
    (case i_Control_on_expiry => k_is)
    (case l_Control_on_expiry => k_is)
    (case e_Control_on_expiry => k_is)
    (case k_Control_on_expiry => k_is)
    (case a_Control_on_sample_ => k_is)
    (case i_Control_on_sample => k_is)
    (case l_Control_on_sample => k_is)
    (case e_Control_on_sample => k_is)
    (case k_Control_on_sample => k_is)
    (case a_Control_set_window_ => k_is)
    (case i_Control_set_window => k_is)
    (case l_Control_set_window => k_is)
    (case e_Control_set_window => k_is)
    (case k_Control_set_window => k_is)
    (case a_Fixed_init__ => k_is)
    (case i_Fixed_init_ => k_is)
    (case l_Fixed_init_ => k_is)
    (case e_Fixed_init_ => k_is)
    (case k_Fixed_init_ => k_is)
    (case lk_Fixed_init_ => k_is)
    (case lx_Fixed_init_ => k_is)
    (case a_Fixed_on_ack_ => k_is)
    (case i_Fixed_on_ack => k_is)
    (case l_Fixed_on_ack => k_is)
    (case e_Fixed_on_ack => k_is)
    (case k_Fixed_on_ack => k_is)
    (case a_Fixed_grow_ => k_is)
    (case i_Fixed_grow => k_is)
    (case l_Fixed_grow => k_is)
    (case e_Fixed_grow => k_is)
    (case k_Fixed_grow => k_is)
    (case a_Fixed_on_loss_ => k_is)
    (case i_Fixed_on_loss => k_is)
    (case l_Fixed_on_loss => k_is)
    (case e_Fixed_on_loss => k_is)
    (case k_Fixed_on_loss => k_is)
    (case a_Fixed_on_expiry_ => k_is)
    (case i_Fixed_on_expiry => k_is)
    (case l_Fixed_on_expiry => k_is)
    (case e_Fixed_on_expiry => k_is)
    (case k_Fixed_on_expiry => k_is)
    (case a_Fixed_on_sample_ => k_is)
    (case i_Fixed_on_sample => k_is)
    (case l_Fixed_on_sample => k_is)
    (case e_Fixed_on_sample => k_is)
    (case k_Fixed_on_sample => k_is)
    (case a__law_cell_ => k_is)
    (case l__law_cell => k_is)
    (case e__law_cell => k_is)
    (case k__law_cell => k_is)
    (case a__law_rounds_ => k_is)
    (case l__law_rounds => k_is)
    (case e__law_rounds => k_is)
    (case k__law_rounds => k_is)
    (case a__law_box_ => k_is)
    (case l__law_box => k_is)
    (case e__law_box => k_is)
    (case k__law_box => k_is)
    (case a__law_draw_ => k_is)
    (case l__law_draw => k_is)
    (case e__law_draw => k_is)
    (case k__law_draw => k_is)
    (case a__law_unit_ => k_is)
    (case l__law_unit => k_is)
    (case e__law_unit => k_is)
    (case k__law_unit => k_is)
    (case a__law_count_ => k_is)
    (case l__law_count => k_is)
    (case e__law_count => k_is)
    (case k__law_count => k_is)
    (case a__law_load_ => k_is)
    (case l__law_load => k_is)
    (case e__law_load => k_is)
    (case k__law_load => k_is)
    (case a__law_later_ => k_is)
    (case l__law_later => k_is)
    (case e__law_later => k_is)
    (case k__law_later => k_is)
    (case a__law_bad_ => k_is)
    (case l__law_bad => k_is)
    (case e__law_bad => k_is)
    (case k__law_bad => k_is)
    (case a__law_refused_ => k_is)
    (case l__law_refused => k_is)
    (case e__law_refused => k_is)
    (case k__law_refused => k_is)
    (case a__law_whole_ => k_is)
    (case l__law_whole => k_is)
    (case e__law_whole => k_is)
    (case k__law_whole => k_is)
    (case a__law_truth_ => k_is)
    (case l__law_truth => k_is)
    (case e__law_truth => k_is)
    (case k__law_truth => k_is)
    (case a__law_base_ => k_is)
    (case l__law_base => k_is)
    (case e__law_base => k_is)
    (case k__law_base => k_is)
    (case a__law_state_ => k_is)
    (case l__law_state => k_is)
    (case e__law_state => k_is)
    (case k__law_state => k_is)
    (case a__law_acked_ => k_is)
    (case l__law_acked => k_is)
    (case e__law_acked => k_is)
    (case k__law_acked => k_is)
    (case a__law_many_ => k_is)
    (case l__law_many => k_is)
    (case e__law_many => k_is)
    (case k__law_many => k_is)
    (case a__law_lost_ => k_is)
    (case l__law_lost => k_is)
    (case e__law_lost => k_is)
    (case k__law_lost => k_is)
    (case a__law_expired_ => k_is)
    (case l__law_expired => k_is)
    (case e__law_expired => k_is)
    (case k__law_expired => k_is)
    (case a__law_deed_ => k_is)
    (case l__law_deed => k_is)
    (case e__law_deed => k_is)
    (case k__law_deed => k_is)
    (case a__law_all_hold_ => k_is)
    (case l__law_all_hold => k_is)
    (case e__law_all_hold => k_is)
    (case k__law_all_hold => k_is)
    (case a_law_ => k_is)
    (case l_law => k_is)
    (case e_law => k_is)
    (case k_law => k_is)
    (case ih_Fixed_starting => k_is)
    (case ci_Fixed => k_is)
    (case sm_SC_Fixed_Fixed_init_ => k_is)
    (case sw_SC_Fixed_Fixed_init_ => ks_is)
    (case st_SC_Fixed_Fixed_init_ => k_is)
    (case sf_SC_Fixed_Fixed_init_ => k_is)
    (case sy_ => k_is)
    (case lt_D_Fixed_init_ => k_is)
    (case z_bool => k_is)
    (case z_int => k_is)
    (case z_isinstance => k_is)
    (case z_len => k_is)
    (case z_max => k_is)
    (case z_min => k_is)
    (case z_property => k_is)
    (case z_range => k_is)
    (case z_sum => k_is)
    (case z_super => k_is)
    (case q_MOST_PIECES => k_is)
    (case xm__InvalidNumber => decide +kernel)
    (case xm__InvalidSetting => decide +kernel)
    (case w_Control_GREATEST => exact ⟨_, rfl⟩)
    (case w_MOST_PIECES => exact ⟨_, rfl⟩)
    (case gt_Fixed_init_ => rfl)
    (case tv_D_Fixed_init_ => (repeat (first | exact .nil | refine .cons ⟨_, rfl⟩ ?_)))
    (case tz_D_Fixed_init_ => exact Nat.le_of_ble_eq_true rfl)
