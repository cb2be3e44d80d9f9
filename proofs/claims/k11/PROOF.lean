import PyProof.Rows.All
import Wide.All
import OpenK.AllK
import Wide.FinOn
import HandS.ForMost
import HandS.IsInst
import HandS.ClsMeth
import HandS.Codes
import HandS.Exc
import HandS.ExcOwn
import HandS.ExcInit
import HandS.ExcField
import HandS.ExcIs
import HandS.TryMany
import HandS.WordsExc
import HandS.CallSlots
import HandS.More
import KE.KExcIs
import KE.GoesEnum
import KE.GoesMore
import HandS.Defaults
import HandS.Property
import HandS.Zip
import HandS.Text
import HandS.Wide
import HandS.Flow
import HandS.More
import HandS.TupAny
import HandS.HotCalls
import HandS.Dict
import HandS.TupLe
import PySem.Challenge.RW_lossway_k11_outbox_history
set_option Elab.async false
set_option maxRecDepth 100000
namespace My
open PySem L2
set_option linter.all false

/-! ### an own `in` -/
section
variable {X : Cx} {CX : CXT} {k : Nat} {C g : Addr} {fd : FuncData} {ps : List Str} {sp : Sp} {E : XK}
def rOwnIn (C : Addr) (m : Bool → Bool) (sp : Sp) (E : XK) : R2 := fun x y H Q => ∃ a dx fs, y = .ref a ∧ H a = some (.ins C dx fs) ∧ sp [.ref a, x] H (fun v H' => ∃ b, v = .bl b ∧ Q (.bl (m b)) H') E
theorem op_notInOwn (mm : Meth X.K C "__contains__" g) (F : FnOk X.prog X.w X.K X.mg X.base CX k g fd ps sp) (hr : Room k X.A) (hb : Binds X.K fd ps []) (hx : Passes CX X E) : OpR X (compareOp .NotIn) (rOwnIn C not sp E) := by
  intro pins s σ H x y v u Q I rx ry h
  obtain ⟨a, dx, fs, rfl, ha, q⟩ := h
  cases (show u = Value.ref a from ry)
  obtain ⟨mA, O, _⟩ := ins_get I.hok ha
  obtain ⟨od, J, _⟩ := O.look
  obtain ⟨m, hF⟩ := I.fr
  refine PySem.W.notIn_K hF I.ok.mod.kin J mm.at_ mm.fn ?_
  refine wpAny_mono (run_fn (us := [.ref a, v]) (vs := [.ref a, x]) (ds := []) (dvs := []) F hr hb .nil hx I (.cons rfl (.cons rx .nil)) q) (fun w s' z => ?_) fun _ _ x => x
  obtain ⟨z', H', I', rz, b, eb, qz⟩ := z
  subst eb
  cases (show w = Value.bool b from rz)
  exact wpAny_truthy_bool ⟨.bl (!b), H', I', rfl, qz⟩
theorem op_inOwn (mm : Meth X.K C "__contains__" g) (F : FnOk X.prog X.w X.K X.mg X.base CX k g fd ps sp) (hr : Room k X.A) (hb : Binds X.K fd ps []) (hx : Passes CX X E) : OpR X (compareOp .In) (rOwnIn C id sp E) := by
  intro pins s σ H x y v u Q I rx ry h
  obtain ⟨a, dx, fs, rfl, ha, q⟩ := h
  cases (show u = Value.ref a from ry)
  obtain ⟨mA, O, _⟩ := ins_get I.hok ha
  obtain ⟨od, J, _⟩ := O.look
  obtain ⟨m, hF⟩ := I.fr
  refine PySem.W.in_K hF I.ok.mod.kin J mm.at_ mm.fn ?_
  refine wpAny_mono (run_fn (us := [.ref a, v]) (vs := [.ref a, x]) (ds := []) (dvs := []) F hr hb .nil hx I (.cons rfl (.cons rx .nil)) q) (fun w s' z => ?_) fun _ _ x => x
  obtain ⟨z', H', I', rz, b, eb, qz⟩ := z
  subst eb
  cases (show w = Value.bool b from rz)
  exact wpAny_truthy_bool ⟨.bl b, H', I', rfl, qz⟩
end

/-! ### heaps -/
/-- all that was tracked stands, but what is at a -/
def SameX (a : Addr) (H H' : Hp) : Prop := ∀ b o, b ≠ a → H b = some o → H' b = some o
theorem SameX.refl {a : Addr} {H : Hp} : SameX a H H := fun _ _ _ h => h
theorem SameX.trans {a : Addr} {H H1 H2 : Hp} (x : SameX a H H1) (y : SameX a H1 H2) : SameX a H H2 := fun b o n h => y b o n (x b o n h)
theorem SameX.upd {a : Addr} {H : Hp} {o : HO} : SameX a H (L2.upd H a o) := fun b _ n h => by
  rw [upd_ne n]
  exact h
theorem SameX.upd' {a : Addr} {H H1 : Hp} {o : HO} (x : SameX a H H1) : SameX a H (L2.upd H1 a o) := x.trans .upd
theorem SameX.of {a : Addr} {H H1 : Hp} (x : Same H H1) : SameX a H H1 := fun b o _ h => x b o h
theorem Same.new {H : Hp} {p : Addr} {o : HO} (h : H p = none) : Same H (upd H p o) := fun b u e => by
  rw [upd_ne (ne_of_none e h)]
  exact e
theorem SqL.now {K : PySem.W.Frag} {H : Hp} {a : Addr} {xs : List V} (h : H a = some (.lst xs)) : SqL K H a xs := SqL.of h

/-! ### the purse -/
/-- a purse's rows -/
def pur (c : Addr) (p r n s : Int) : List V := [.ref c, .int p, .int r, .int n, .int s]
structure Purse (a c : Addr) (H : Hp) : Prop where
  ex : ∃ (cs : List Int) (p : Nat) (r n s : Int), H a = some (.lst (pur c p r n s)) ∧ H c = some (.lst (cs.map V.int)) ∧ (∀ x ∈ cs, 0 ≤ x) ∧ p ≤ cs.length ∧ cs.length ≤ 63 ∧ 0 ≤ r ∧ 0 ≤ s ∧ s < 2147483647
theorem pur_ne {H : Hp} {a c c' : Addr} {p r n s : Int} {cs : List Int} (h : H a = some (.lst (pur c p r n s))) (h' : H c' = some (.lst (cs.map V.int))) : c' ≠ a := ne_of h' h (by
  intro e
  injection e with e
  cases cs with
  | nil => cases e
  | cons x r => injection e with e1 _; cases e1)
theorem lk1 {m f : Str} {v : V} (h : (m == f) = false) : List.lookup m [(f, v)] = none := by
  simp only [List.lookup, h]
theorem bl_t {p : Prop} [Decidable p] (h : p) : V.bl (decide p) = V.bl true := congrArg V.bl (decide_eq_true h)
theorem bl_f {p : Prop} [Decidable p] (h : ¬ p) : V.bl (decide p) = V.bl false := congrArg V.bl (decide_eq_false h)
theorem bln_t {p : Prop} [Decidable p] (h : p) : V.bl (!decide p) = V.bl false := by rw [decide_eq_true h]; rfl
theorem bln_f {p : Prop} [Decidable p] (h : ¬ p) : V.bl (!decide p) = V.bl true := by rw [decide_eq_false h]; rfl
theorem int_ne {a b : Int} (h : ¬ a = b) : ¬ V.int a = V.int b := fun e => h (V.int.inj e)
theorem int_eq {a b : Int} (h : a = b) : V.int a = V.int b := congrArg V.int h

theorem Purse.there {a c : Addr} {H : Hp} (P : Purse a c H) : (∃ xs, H a = some (.lst xs)) ∧ ∃ ys, H c = some (.lst ys) := by
  obtain ⟨cs, p, r, n, s, h1, h2, _⟩ := P.ex
  exact ⟨⟨_, h1⟩, _, h2⟩
/-- a purse stands where both of its lists stand -/
theorem Purse.keep {a c : Addr} {H H' : Hp} (P : Purse a c H) (h : H' a = H a) (h' : H' c = H c) : Purse a c H' := by
  obtain ⟨cs, p, r, n, s, h1, h2, q⟩ := P.ex
  exact ⟨cs, p, r, n, s, h.trans h1, h'.trans h2, q⟩
theorem Purse.same {a c : Addr} {H H' : Hp} (P : Purse a c H) (s : Same H H') : Purse a c H' := by
  obtain ⟨cs, p, r, n, z, h1, h2, q⟩ := P.ex
  exact ⟨cs, p, r, n, z, s _ _ h1, s _ _ h2, q⟩
theorem Purse.on {a c b : Addr} {H H' : Hp} (P : Purse a c H) (s : SameX b H H') (na : a ≠ b) (nc : c ≠ b) : Purse a c H' := by
  obtain ⟨cs, p, r, n, z, h1, h2, q⟩ := P.ex
  exact ⟨cs, p, r, n, z, s _ _ na h1, s _ _ nc h2, q⟩
theorem small1000' {n : Nat} (h : n < 100000) : n < sizeLine := Nat.lt_of_lt_of_le h (by decide)
theorem sqT_sm {K : PySem.W.Frag} {H H' : Hp} {a : Addr} {xs : List V} (h : SqT K H a xs) (s : Same H H') : SqT K H' a xs := by
  rcases h with (h | ⟨o, h⟩) | h
  · exact .inl (.inl (s _ _ h))
  · exact .inl (.inr ⟨o, s _ _ h⟩)
  · exact .inr h
/-! ### several except clauses, each with or without a name -/
section
open PySem.Spec PyProof.Rows
variable {X : Cx}
/-- a clause: its class, the slot of its name, its suite -/
abbrev Cl := Value × Option Nat × (Addr → Value → Option Addr → TS)
def unN (D : Ends) (i : Nat) : Ends := { nx := fun σ H => D.nx (σ.set i none) H, rt := D.rt, bk := fun σ H => D.bk (σ.set i none) H, ct := fun σ H => D.ct (σ.set i none) H }
def clGo (D : Ends) (o : Option Nat) (t : TS) (a : Addr) (σ : L2.St) (H : Hp) : Prop := match o with
  | none => t D σ H
  | some i => t (unN D i) (σ.set i (some (.ref a))) H
def wCl (K : PySem.W.Frag) (Wout : WX) (D : Ends) : List Cl → WX
  | [] => Wout
  | (c, o, ts) :: r => fun cls d σ H => ∃ b, PySem.W.exmOne K cls c = some b ∧ (b = true → ∀ a, H a = none → clGo D o (ts a cls d) a σ H) ∧ (b = false → wCl K Wout D r cls d σ H)
inductive ClOk (X : Cx) : List ExceptHandler → List Cl → Prop
  | nil : ClOk X [] []
  | bare {x : Str} {c : Value} {ts : Addr → Value → Option Addr → TS} {b0 : Stmt} {su : List Stmt} {np ps : Pos} {hs : List ExceptHandler} {l : List Cl} (nm : Names X x c)
      (ok : ∀ (a : Addr) (oe : Obj) (cls : Value) (d : Option Addr) (pn : List (Addr × Obj)), Zc cls d oe → (∃ vs, oe.data = .fields vs) → PSs (X.suite a ((a, oe) :: pn)) (b0 :: su) (ts a cls d)) (rest : ClOk X hs l) :
      ClOk X (.ExceptHandler (some (.Name x np)) none (b0 :: su) ps :: hs) ((c, none, ts) :: l)
  | named {x n : Str} {i : Nat} {c : Value} {ts : Addr → Value → Option Addr → TS} {b0 : Stmt} {su : List Stmt} {np ps : Pos} {hs : List ExceptHandler} {l : List Cl} (nd : X.N.Nodup) (hi : X.N[i]? = some n) (lc : X.env.kindOf n = some .local) (nm : Names X x c)
      (ok : ∀ (a : Addr) (oe : Obj) (cls : Value) (d : Option Addr) (pn : List (Addr × Obj)), Zc cls d oe → (∃ vs, oe.data = .fields vs) → PSs (X.suite a ((a, oe) :: pn)) (b0 :: su) (ts a cls d)) (rest : ClOk X hs l) :
      ClOk X (.ExceptHandler (some (.Name x np)) (some n) (b0 :: su) ps :: hs) ((c, some i, ts) :: l)
theorem ps_try_cl {body : List Stmt} {h0 : ExceptHandler} {hs : List ExceptHandler} {l : List Cl} {pos : Pos} {tb : WX → TS} {Wout : WX} (st : X.stack = X.env :: X.outer) (fr : X.env.frame = some X.env.locals) (tk : Takes X Wout)
    (hb : ∀ (W : WX) (pn : List (Addr × Obj)) (xe : Value → Shared → Prop), Takes (X.tr pn xe) W → PassesOwn (model X.prog X.w) X.A X.env xe → PSs (X.tr pn xe) body (tb W))
    (hh : ClOk X (h0 :: hs) l) : PS X (.Try body (h0 :: hs) [] [] pos) (fun D σ H => tb (wCl X.K Wout D l) D σ H) := by
  refine ⟨fun pins s σ H D I h => ?_⟩
  have ok := I.ok
  have frs0 : X.A.frames = some (X.env :: X.outer) := by
    rw [ok.frames, st]
  refine wpAny_Try_except (wpAny_mono ((hb (wCl X.K Wout D l) (X.pn ++ pins) (fun e t1 => wpAny (model X.prog X.w) X.A (noteFrame e X.env) (fun _ t2 =>
    wpAny (model X.prog X.w) X.A (setFlight e none) (fun _ t3 => wpAny (model X.prog X.w) X.A (handleBy e X.env (h0 :: hs)) (SP X pins D) X.xe t3) X.xe t2) X.xe t1)
      (fun u s' xx => ?_) PassesOwn.looking).run [] s σ H D (I.toTry _) h) (fun f s1 hsp => ?_) (fun _ _ z => z))
  · obtain ⟨a, B, sI, pins', σ', H', cls, d, rfl, J', nb, up, sky, na, os, ag, w⟩ := xx
    have J := J'.ofTry ok
    have sky2 : Sky B (X.env :: X.outer) a (Zc cls d) X.env.locals s'.heap := by
      rw [← st]
      exact sky
    refine Sky.land Zc.steady frs0 fr sky2 fun g1 fl1 up1 => ?_
    have J1 : Inv X pins σ' H' { s' with heap := g1 } := J.landed nb fl1.1 (up.trans up1) os ag
    obtain ⟨o1, vs1, at1, z1, dt1⟩ := fl1.there
    have off : a ∉ frs (X.env :: X.outer) := fun hm => by
      obtain ⟨_, o', e', hnf⟩ := fl1.2.2.1.mem hm
      rw [at1] at e'
      cases e'
      exact hnf _ dt1
    have offL : a ≠ X.env.locals := fun z => off (List.mem_filterMap.mpr ⟨X.env, List.mem_cons_self, by rw [fr, z]⟩)
    have offF : a ∉ X.fs := fun hm => by
      obtain ⟨e, he, q⟩ := List.mem_filterMap.mp hm
      exact off (List.mem_filterMap.mpr ⟨e, List.mem_cons_of_mem _ he, q⟩)
    have S1 := J1.suite at1 dt1 na offL offF
    have LT : PySem.W.Looks (model X.prog X.w) g1 (typeOf (.ref a)) cls := fun A Q E s k q => wpAny_typeOf_ref (k _ _ at1) (by rw [z1.1]; exact q)
    have ask : ∀ {x : Str} {np : Pos} {c : Value}, Names X x c → ∀ {Q : Value → Shared → Prop} {E : Value → Shared → Prop}, Q c { s' with heap := g1 } →
        wpAny (model X.prog X.w) (X.A.mark (some (.ref a))) (eval (.Name x np) X.env) Q E { s' with heap := g1 } := fun {x np c} nm {Q E} q => by
      obtain ⟨hg, hdb, h1 | ⟨h1, h2, h3⟩⟩ := nm
      · exact ld_glob (X := X.suite a ((a, o1) :: (X.pn ++ pins))) S1 hg h1 q hdb
      · exact ld_blt (X := X.suite a ((a, o1) :: (X.pn ++ pins))) S1 hg h1 h2 q h3 hdb
    have go : ∀ {hs' : List ExceptHandler} {l' : List Cl}, ClOk X hs' l' → wCl X.K Wout D l' cls d σ' H' → wpAny (model X.prog X.w) X.A (handleBy (.ref a) X.env hs') (SP X pins D) X.xe { s' with heap := g1 } := by
      intro hs' l' hk
      induction hk with
      | nil =>
        intro w
        refine wpAny_handleBy_nil ?_
        obtain ⟨_, _, _, oe, vs, Tr, _, _, he, hz, hd, h1, _⟩ := id fl1
        unfold PySem.passOn
        refine wpAny_bind (wpAny_field he hd h1 ?_)
        rw [if_neg (show ¬ ((Value.ref Tr == Value.none) = true) from by simp)]
        have last : wpAny (model X.prog X.w) X.A (setFlight (.ref a) X.env.frame) (fun _ t => wpAny (model X.prog X.w) X.A (throw (.ref a) : Sem Flow) (SP X pins D) X.xe t) X.xe { s' with heap := g1 } := by
          rw [fr]
          refine HandSPX.setFlight_upZ fl1 fun g2 hh2 up2 => wpAny_throw (tk _ _ ?_)
          exact ⟨a, B, sI, pins, σ', H', cls, d, rfl, J, nb, (up.trans up1).trans up2, .inr (.inr (by rw [st]; exact hh2)), na, os, ag, w⟩
        first
          | exact wpAny_bind (wpAny_pure (wpAny_bind last))
          | exact wpAny_bind last
      | bare nm su rest ih =>
        intro w
        obtain ⟨b, hb1, yes, no⟩ := w
        have LM := PySem.W.exm_one (M := model X.prog X.w) J1.kIn LT hb1
        refine wpAny_handleBy_cons (codeAny_handlers_test (ask nm (LM.here ?_))) (fun q => by cases q)
        cases b with
        | false => exact ih (no rfl)
        | true =>
          refine codeAny_handlers_suite (HandSPX.lands_againZ fl1 fun g2 fl2 up2 => ?_)
          have J2 : Inv X pins σ' H' { s' with heap := g2 } := J.landed nb fl2.1 ((up.trans up1).trans up2) os ag
          obtain ⟨o2, vs2, at2, z2, dt2⟩ := fl2.there
          refine wpAny_mono ((su a o2 cls d (X.pn ++ pins) z2 ⟨_, dt2⟩).run [] _ _ H' _ (J2.suite at2 dt2 na offL offF) (yes rfl a na)) (fun f t hsp => ?_) (fun _ _ z => z.elim)
          cases f with
          | ret u =>
            obtain ⟨v6, σ6, H6, S6, r6, q6⟩ := hsp
            exact ⟨_, _, _, S6.unsuite ok, r6, q6⟩
          | next => exact let ⟨_, _, S6, q6⟩ := hsp; ⟨_, _, S6.unsuite ok, q6⟩
          | brk => exact let ⟨_, _, S6, q6⟩ := hsp; ⟨_, _, S6.unsuite ok, q6⟩
          | cont => exact let ⟨_, _, S6, q6⟩ := hsp; ⟨_, _, S6.unsuite ok, q6⟩
      | named nd hi lc nm su rest ih =>
        intro w
        obtain ⟨b, hb1, yes, no⟩ := w
        have LM := PySem.W.exm_one (M := model X.prog X.w) J1.kIn LT hb1
        refine wpAny_handleBy_cons (codeAny_handlers_test (ask nm (LM.here ?_))) (fun q => by cases q)
        cases b with
        | false => exact ih (no rfl)
        | true =>
          refine codeAny_handlers_suite_as (HandSPX.lands_againZ fl1 fun g2 fl2 up2 => ?_)
          have J2 : Inv X pins σ' H' { s' with heap := g2 } := J.landed nb fl2.1 ((up.trans up1).trans up2) os ag
          obtain ⟨o2, vs2, at2, z2, dt2⟩ := fl2.there
          refine store_ok (X := X.suite a ((a, o2) :: (X.pn ++ pins))) (v := .ref a) (J2.suite at2 dt2 na offL offF) nd hi (.inl lc) rfl (fun t S5 => ?_) (.inr lc)
          refine wpAny_mono ((su a o2 cls d (X.pn ++ pins) z2 ⟨_, dt2⟩).run [] t _ H' _ S5 (yes rfl a na)) (fun f t6 hsp => ?_) (fun _ _ z => z.elim)
          cases f with
          | next =>
            obtain ⟨σ6, H6, S6, q6⟩ := hsp
            exact gone_ok (S6.unsuite ok) nd hi lc fun s7 J7 => ⟨_, _, J7, q6⟩
          | brk =>
            obtain ⟨σ6, H6, S6, q6⟩ := hsp
            exact gone_ok (S6.unsuite ok) nd hi lc fun s7 J7 => ⟨_, _, J7, q6⟩
          | cont =>
            obtain ⟨σ6, H6, S6, q6⟩ := hsp
            exact gone_ok (S6.unsuite ok) nd hi lc fun s7 J7 => ⟨_, _, J7, q6⟩
          | ret u =>
            obtain ⟨v6, σ6, H6, S6, r6, q6⟩ := hsp
            exact gone_ok (S6.unsuite ok) nd hi lc fun s7 J7 => ⟨_, _, _, J7, r6, q6⟩
    exact go hh w
  · cases f with
    | ret u => exact let ⟨v, σ', H', J', r, q⟩ := hsp; ⟨v, σ', H', J'.ofTry ok, r, q⟩
    | next =>
      obtain ⟨σ', H', J', q⟩ := hsp
      exact wpAny_execs_nil ⟨σ', H', J'.ofTry ok, q⟩
    | brk => exact let ⟨σ', H', J', q⟩ := hsp; ⟨σ', H', J'.ofTry ok, q⟩
    | cont => exact let ⟨σ', H', J', q⟩ := hsp; ⟨σ', H', J'.ofTry ok, q⟩
end
/-! ### own exceptions -/
/-- what the written part says of an own exception class: the class at C, its __init__ at f -/
structure XCls (K : PySem.W.Frag) (mg : Str → Option Value) (nm : Str) (C f : Addr) : Prop where
  g : mg nm = some (.ref C)
  o : OexC K C
  i : PySem.W.findIn K (.ref C) "__init__" = some (some (.ref f))
  t : PySem.W.typeIn K (.ref f) = some (.type "function")
  x : XfC K C
  e : ExcC K C
theorem xcls_mk {K : PySem.W.Frag} {mg : Str → Option Value} {nm : Str} {C f : Addr} {n q : Str} {N : Addr} {bs bm : List Value} {sn : List Str} {sub : List Value} {ab : Bool} {col : _} {dd : Option Addr} {k0 k1 k2 k3 k5 : Option Value}
    (g : mg nm = some (.ref C)) (l : K.lookup C = some (excClassObj n q C N bs bm true sn sub ab col dd k0 k1 k2 k3 k5 "ValueError.__new__")) (bm' : PySem.HandSPX.refsVE bm = true) (sa : PySem.W.findIn K (.ref C) "__setattr__" = some (some (.builtin "object.__setattr__")))
    (ex : PySem.W.subIn K (.ref C) (.type "BaseException") = some true) (ty : PySem.W.typeIn K (.ref C) = some (.type "type")) (kp : PySem.W.keepIn K (.ref C) = true) (i : PySem.W.findIn K (.ref C) "__init__" = some (some (.ref f)))
    (t : PySem.W.typeIn K (.ref f) = some (.type "function")) (ga : PySem.W.findIn K (.ref C) "__getattribute__" = some (some (.builtin "BaseException.__getattribute__"))) (gg : PySem.W.findIn K (.ref C) "__getattr__" = some none) (hd : PySem.W.hasDictIn K C = true)
    (ha : PySem.W.findIn K (.ref C) "__class__" = some (some (.builtin "object.__class__"))) (hn : PySem.W.specialIn K (.builtin "object.__class__") "__get__" = some (some (.builtin "getset_descriptor.__get__")))
    (ht : PySem.W.takesIn K (.builtin "object.__class__") = some true) (hm : PySem.W.mroIn K C (.type "object") = some true) : XCls K mg nm C f :=
  ⟨g, ⟨⟨n, q, N, bs, bm, sn, sub, ab, col, dd, k0, k1, k2, k3, k5, l, bm'⟩, sa, ex, ty, kp⟩, i, t, ⟨ga, gg, ex, hd⟩, ⟨ga, gg, ex, hd, ha, hn, ht, hm⟩⟩
/-- __init__ of such a class: one field is stored -/
def sp_xinit (K : PySem.W.Frag) (f : Str) : Sp := fun vs H Q _ => ∃ (a C : Addr) (v : V), vs = [.ref a, v] ∧ OexC K C ∧ PySem.W.findIn K (.ref C) f = some none ∧ H a = some (exo a C none) ∧
  ∀ dx, H dx = none → dx ≠ a → Q .non (upd (upd H dx (exd dx [(f, v)])) a (exo a C (some dx)))
/-- raise C(v): what follows holds wherever the new error's dict is told, all else standing -/
theorem mkO_of {K : PySem.W.Frag} {f : Str} {C : Addr} {v : V} {H : Hp} {E : XK} (O : OexC K C) (hn : PySem.W.findIn K (.ref C) f = some none) (k : ∀ d H', H d = none → Same H H' → H' d = some (.xd [(f, v)]) → E (.ref C) (some d) H') :
    [v].length ≤ 1000 ∧ ∀ a, H a = none → sp_xinit K f (.ref a :: ([v] ++ [])) (upd H a (exo a C none))
      (fun w H2 => w = .non ∧ ∃ (d : Addr) (fs : List (Str × V)), H2 a = some (exo a C (some d)) ∧ H2 d = some (exd d fs) ∧ H d = none ∧ E (.ref C) (some d) (upd (del H2 a) d (.xd fs))) (fun _ _ _ => False) := by
  refine ⟨Nat.succ_le_succ (Nat.zero_le _), fun a ha => ⟨a, C, v, rfl, O, hn, upd_same, fun dx hdx ne => ⟨rfl, dx, [(f, v)], upd_same, ?_, ?_, ?_⟩⟩⟩
  · rw [upd_ne ne]
    exact upd_same
  · rw [upd_ne ne] at hdx
    exact hdx
  · have hdx0 : H dx = none := by
      rw [upd_ne ne] at hdx
      exact hdx
    refine k dx _ hdx0 (fun b o e => ?_) upd_same
    have nb : b ≠ dx := ne_of_none e hdx0
    have na : b ≠ a := ne_of_none e ha
    rw [upd_ne nb, del_ne na, upd_ne na, upd_ne nb, upd_ne na]
    exact e
section
variable {X : Cx} {a : Addr} {oe : Obj} {cls : Value} {d : Option Addr} {pn : List (Addr × Obj)} {n : Str}
/-- e.n in a suite, e of whichever class it is -/
def tXg (K : PySem.W.Frag) (a : Addr) (cls : Value) (d : Option Addr) (f : Str) (te : TE) : TE := fun σ H Q => te σ H fun x H1 => x = .ref a ∧ ∃ (C dd : Addr) (fs : List (Str × V)) (v : V), cls = .ref C ∧ XfC K C ∧ PySem.W.findIn K (.ref C) f = some none ∧ d = some dd ∧ H1 dd = some (.xd fs) ∧ fs.lookup f = some v ∧ Q v H1
theorem pe_xg {e : Expr} {te : TE} {pos : Pos} (hz : Zc cls d oe) (hf : ∃ vs, oe.data = .fields vs) (he : PE (X.suite a ((a, oe) :: pn)) e te)
    (hb : attributeBase e n X.env (eval e X.env) = eval e X.env := by rfl) : PE (X.suite a ((a, oe) :: pn)) (.Attribute e n pos) (tXg X.K a cls d n te) := by
  refine ⟨fun pins s σ H Q I h => ?_⟩
  refine attr_of hb (thn (he.run pins s σ H _ I h) fun u s1 hh => ?_)
  obtain ⟨x, H1, I1, rx, ex, C, dd, fs, v, ec, T, hno, ed, ea, l, q⟩ := hh
  subst ex ec ed
  obtain rfl : u = Value.ref a := rx
  obtain ⟨mA, hns, hr⟩ := (show ObjOk X.prog X.w H1 s1.heap dd (.xd fs) from I1.hok dd _ ea)
  obtain ⟨od, ho, hl⟩ := lookIn_ns hns
  obtain ⟨u, hu, ru⟩ := RelO.some_of (v := v) (o := mA n) (by rw [← l]; exact hr n)
  obtain ⟨vs, hv⟩ := hf
  have J : PySem.W.InstAt s1.heap a oe C (some od) := ⟨(I1.pin (a, oe) (List.mem_append_left _ List.mem_cons_self)).1, hz.1, by unfold PySem.W.notCls; rw [hv] <;> rfl, by rw [hz.2]; exact ho⟩
  exact PySem.HandSPX.exc_get I1.kIn J T.ga T.gg T.exC (PySem.W.findObj_own T.hdC hno rfl (by rw [hl, hu])) (handed_of ru) ⟨v, H1, I1.tok _, ru, q⟩
/-- isinstance(e, c) in a suite -/
def rIsX (K : PySem.W.Frag) (a : Addr) (cls : Value) (d : Option Addr) : List V → Hp → VK → Prop := fun xs H Q => ∃ (c : V) (cv : Value) (b : Bool) (D dd : Addr) (fs : List (Str × V)), xs = [.ref a, c] ∧ (∀ u, RelV c u → u = cv) ∧ cls = .ref D ∧ ExcC K D ∧ d = some dd ∧ H dd = some (.xd fs) ∧
  PySem.W.kitOne K (.ref D) cv = some b ∧ Q (.bl b) H
theorem call_isX (hz : Zc cls d oe) (hf : ∃ vs, oe.data = .fields vs) : CallR (X.suite a ((a, oe) :: pn)) (.builtin "isinstance") (rIsX X.K a cls d) := by
  intro pins s σ H xs us Q I r h
  obtain ⟨c, cv, b, D, dd, fs, rfl, hcv, ec, C, ed, ea, e, q⟩ := h
  subst ec ed
  obtain ⟨u1, u2, rfl, r1, r2⟩ := vals2 r
  cases (show u1 = Value.ref a from r1)
  cases (hcv _ r2)
  obtain ⟨mA, hns, hr⟩ := (show ObjOk X.prog X.w H s.heap dd (.xd fs) from I.hok dd _ ea)
  obtain ⟨od, ho, hl⟩ := lookIn_ns hns
  obtain ⟨vs, hv⟩ := hf
  have J : PySem.W.InstAt s.heap a oe D (some od) := ⟨(I.pin (a, oe) (List.mem_append_left _ List.mem_cons_self)).1, hz.1, by unfold PySem.W.notCls; rw [hv] <;> rfl, by rw [hz.2]; exact ho⟩
  obtain ⟨cd, hc, _⟩ := PySem.W.any_some C.hd
  exact PySem.W.kia_one (PySem.W.kitx_exc (by rw [hc]; rfl) C.hg C.hk C.hs C.ha C.hn C.ht C.hm) I.kIn J e (fun z => nomatch z) fun tk => ⟨.bl b, H, I.tok tk, rfl, q⟩
end
section
variable {X : Cx} {CX' : CXT} {k : Nat} {f C : Addr} {fd : FuncData} {ps : List Str} {sp : Sp} {E : St → XK} {x m : Str} {p pos apos : Pos} {e o : Expr} {es : List Expr} {ta : TE} {t : TA}
/-- o.m(..), what it lets out wished for at the caller's slots -/
def tMethX (C : Addr) (m : Str) (sp : Sp) (E : St → XK) (ta : TE) (t : TA) : TE := fun σ H Q => ta σ H fun x H1 => ∃ a dx fs, x = .ref a ∧ H1 a = some (.ins C dx fs) ∧ fs.lookup m = none ∧ t σ H1 fun vs H2 => sp (x :: vs) H2 Q (E σ)
theorem pe_methX {pl : Sem Bool} (he : PE X o ta) (c : Cls X.K C) (hm : Meth X.K C m f) (F : FnOk X.prog X.w X.K X.mg X.base CX' k f fd ps sp) (hr : Room k X.A) (hb : Binds X.K fd ps []) (hx : ∀ σ, PassesAt CX' X σ (E σ)) (ha : PA X (e :: es) t)
    (hst : starEach (e :: es) X.env = (false, eval e X.env) :: starEach es X.env := by rfl) (hpl : (PySem.backTo pos (starEach es X.env)).any (·.1) = false := by rfl)
    (ht : eval (.Call (.Attribute o m apos) (e :: es) [] pos) X.env = (eval o X.env >>= fun ov => standAt apos.atName >>= fun _ => holding [ov] (getMethod ov m pl) >>= fun fr => callWith pos fr.1 fr.2 (PySem.backTo pos (starEach (e :: es) X.env)) (backToKw pos (keywordEach [] X.env))) := by rfl) :
    PE X (.Call (.Attribute o m apos) (e :: es) [] pos) (tMethX C m sp E ta t) := by
  refine ⟨fun pins s σ H Q I h => ?_⟩
  refine PySem.W.methodCall_KW (pl := pl) (thn (he.run pins s σ H _ I h) fun u s1 ⟨x, H1, I1, rx, a, dx, fs, ex, ea, l, q⟩ => ?_) ht
  subst ex
  obtain rfl : u = Value.ref a := rx
  refine getmeth_ok I1 ea c hm l ?_
  refine PySem.W.callWith_K (h₀ := X.base) I1.ok.mod.kin hm.kp (thn (ha.run pos pins s1 σ H1 _ I1 q) fun us s2 ⟨vs, H2, I2, r, q2⟩ => ⟨I2.kIn, ?_⟩) hst hpl
  exact run_fnS (us := .ref a :: us) (vs := .ref a :: vs) F hr hb (hx σ) I2 (.cons rfl r) q2
end
/-- a class that is only named -/
structure GCls (mg : Str → Option Value) (nm : Str) (C : Addr) : Prop where
  g : mg nm = some (.ref C)
/-- what a callee lets out, whatever the slots hold -/
def anyW (n : Nat) (W : WX) : XK := fun cls d H => ∀ σ : L2.St, σ.length = n → W cls d σ H
theorem passes_any {X : Cx} {W : WX} (n : Nat) (tk : Takes X W) (hn : X.N.length = n := by rfl) : Passes (L2.CX X.prog X.w) X (anyW n W) :=
  fun _ σ _ _ e s' I c => tk e s' (XE.of_call I (fun cls d H' h => h σ (I.len.trans hn)) c)
/-! ### defs that ask for a text of data: nothing is being shown meanwhile -/
section
open PySem.Spec PyProof.Rows
section
variable {P : Program} {w : World} {K : PySem.W.Frag} {mg : Str → Option Value} {base : Heap}
/-- a def's promise, wanted only while no repr is under way -/
structure FnStill (P : Program) (w : World) (K : PySem.W.Frag) (mg : Str → Option Value) (base : Heap) (k : Nat) (f : Addr) (fd : FuncData) (ps : List Str) (sp : Sp) : Prop where
  count : ∀ vs H Q E, sp vs H Q E → vs.length = ps.length
  go : ∀ (A : Around) (outer : List Env) (s : Shared) (H : Hp) (args : Args) (us : List Value) (vs : List V) (Q : VK) (E : XK), A.guards = some [] → Room k A → Env0 P w K mg base A outer s H →
    BindsTo s fd args (ps.zip us) → Vals vs us → sp vs H Q E → codeAny (model P w) A (.call (.ref f) args) (CR CX0 outer P w H s Q E) s
theorem still_fn {x qual : Str} {st : Stmt} {f : Addr} {fd : FuncData} {N ps : List Str} {k : Nat} {sp : Sp} (F : Fun K x qual st f fd) (S : FnScope N ps (defScope st)) (cnt : ∀ vs H Q E, sp vs H Q E → vs.length = ps.length)
    (bod : ∀ (cdv : Value) (A : Around) (outer : List Env) (s : Shared) (H : Hp) (vs : List V) (Q : VK) (E : XK), A.guards = some [] → Room k (A.deeper (envOfC qual (defScope st) s.heap.objs.size f cdv)) → sp vs H Q E →
      ∃ t, PSs (cxOf CX0 P w K mg base N qual (defScope st) f cdv A outer s H E).nox (defBody st) t ∧ t { nx := fun _ H' => Q .non H', rt := Q } (start N vs) H) : FnStill P w K mg base (k + 1) f fd ps sp := by
  obtain ⟨oc, od, kV, doc, pm, an, cdv, ct, osl, rfl, lk, hcd⟩ := F.ex
  refine ⟨cnt, fun A outer s H args us vs Q E still room e0 bnd rv want => ?_⟩
  have kin : K.In s.heap := e0.mod.kin.keeps fun b o hb => (e0.bs b o hb).1
  have limit : s.heap.NoLimit := e0.mod.nolimit.keeps fun b o hb => (e0.bs b o hb).1
  have param : ∀ y ∈ ps.zip us, (defScope st).names.lookup y.1 = some .local ∨ ((defScope st).names.lookup y.1 = some .cell ∧ ((cellsFrom (s.heap.objs.size + 1) (defScope st).names []).lookup y.1).isSome = true) := by
    rintro ⟨n, v⟩ hy
    refine (S.par n (List.of_mem_zip hy).1).imp id fun c => ⟨c, PySem.W.cellsFrom_some _ _ _ (.inl c)⟩
  refine codeAny_call_function room.depth (kin _ _ lk) rfl S.co S.gen rfl (PySem.W.codeRec_of kin hcd) (bnd _ _ _ _ (wpAny_newFunctionEnv_cells S.kind param fun env he s1 x => ?_))
  subst he
  refine ⟨limit.keeps x.toInCall.keep, codeAny_func ?_⟩
  obtain ⟨t, ht, hq⟩ := bod cdv A outer s H vs Q E still (room.deeper _) want
  refine wpAny_mono (ht.nox.run [] s1 (start N vs) H _ (inv_start S room.hd e0 (cnt _ _ _ _ want) rv x) hq) (fun fl s' hs => ?_) fun _ _ z => z
  cases fl with
  | ret u => exact let ⟨v, _, H', J, rr, q⟩ := hs; ⟨v, H', J.os, J.bare, J.base, J.hok, rr, q⟩
  | next => exact let ⟨_, H', J, q⟩ := hs; ⟨V.non, H', J.os, J.bare, J.base, J.hok, rfl, q⟩
  | brk => exact let ⟨_, _, _, q⟩ := hs; False.elim q
  | cont => exact let ⟨_, _, _, q⟩ := hs; False.elim q
end
section
variable {X : Cx} {k : Nat} {f : Addr} {fd : FuncData} {ps : List Str} {sp : Sp} {dvs : List V} {ds : List Value} {E : XK} {x : Str} {p pos : Pos} {e : Expr} {es : List Expr} {t : TA}
/-- f(e, ..) of such a def -/
theorem pe_still (still : X.A.guards = some []) (F : FnStill X.prog X.w X.K X.mg X.base k f fd ps sp) (hr : Room k X.A) (hg : Gl X x) (hm : X.mg x = some (.ref f)) (hk : PySem.W.keepIn X.K (.ref f) = true) (hb : Binds X.K fd ps ds) (hd : Vals dvs ds) (hx : Passes CX0 X E)
    (ha : PA X (e :: es) t) (hdb : (x == ("__debug__" : Str)) = false := by decide) (he : starEach (e :: es) X.env = (false, eval e X.env) :: starEach es X.env := by rfl) (hpl : (backTo pos (starEach es X.env)).any (·.1) = false := by rfl) :
    PE X (.Call (.Name x p) (e :: es) [] pos) (tCall sp dvs E t) := by
  refine ⟨fun pins s σ H Q I h => wpAny_Call_Name_kw (ld_glob I hg hm ?_ hdb)⟩
  refine PySem.W.callWith_K (h₀ := X.base) I.ok.mod.kin hk (thn (ha.run pos pins s σ H _ I h) fun us s1 ⟨vs, H1, I1, rv, q⟩ => ⟨I1.kIn, ?_⟩) he hpl
  have both : Vals (vs ++ dvs) (us ++ ds) := rv.append hd
  have many : (us ++ ds).length = ps.length := both.length ▸ F.count _ _ _ _ q
  refine wpAny_call (codeAny_mono (F.go X.A X.stack s1 H1 ⟨us, []⟩ (us ++ ds) (vs ++ dvs) Q E still hr I1.env0 (hb s1 us I1.kIn many) both q) fun r s' hq => ?_)
  rcases r with er | fl
  · exact hx pins σ H1 s1 _ s' I1 hq
  · cases fl with
    | ret u => exact I1.after hq
    | next => exact hq.elim
    | brk => exact hq.elim
    | cont => exact hq.elim
end
/-- the law's def from the claim's caller: nothing is being shown there -/
theorem still_core {P : Program} {w : World} {K : PySem.W.Frag} {mg mb : Str → Option Value} {k : Nat} {fa a : Addr} {fd : FuncData} {x : Str} {sp : Sp} {s₁ : Shared} {vs : List Value} {H : Hp}
    (KX : K.In s₁.heap) (hns : s₁.heap.Ns mainGlobals mg) (hb : s₁.heap.Ns builtinsNs mb) (hbb : ∀ x : Str, x ≠ "__name__" → mb x = bootBuiltins x) (hlim : s₁.heap.NoLimit) (hg : s₁.gens = #[]) (ha : s₁.heap.get? a = some { cls := .type "list", data := .seq vs.toArray }) (hr : Room k callerA)
    (F : ∀ base : Heap, K.In base → base.Ns mainGlobals mg → FnStill P w K mg base k fa fd [x] sp) (hbind : ∀ (s : Shared) (u : Value), BindsTo s fd ⟨[u], []⟩ [(x, u)]) (hO : Only H) (hok : HOk P w H s₁.heap) (hA : ∀ b, b ≠ a → H b = none) (hK : H a ≠ none → K.lookup a = none)
    (hsp : sp [.ref a] H (fun v _ => v = .bl true) fun _ _ _ => False) (hCX : ∀ e s', CX0 [] H s₁ (fun _ _ _ => False) e s' → False) :
    codeAny (model P w) callerA (.call (.ref fa) ⟨[.ref a], []⟩) (fun r s' => r = .ok (.ret (.bool true)) ∧ OldK s₁.heap s'.heap ∧ s'.os = s₁.os ∧ AllBare s'.gens) s₁ := by
  have free : ∀ {b : Addr} {o : Obj}, s₁.heap.get? b = some o → (b = a → H a = none) → (hidT s₁.heap H).get? b = some o := fun {b o} hb z => hidT_get hb (by
    by_cases q : b = a
    · rw [q]
      exact z q
    · exact hA b q)
  have nm : ∀ {b : Addr} {m : Str → Option Value}, s₁.heap.Ns b m → (hidT s₁.heap H).Ns b m := by
    rintro b m ⟨o, es, ep, hb, d, rr⟩
    refine ⟨o, es, ep, free hb fun q => ?_, d, rr⟩
    subst q
    rw [ha] at hb
    cases hb
    cases (show Data.seq vs.toArray _ = Data.dict es ep from d)
  have kb : K.In (hidT s₁.heap H) := fun b o hb => free (KX b o hb) fun q => by
    subst q
    refine Classical.byContradiction fun z => ?_
    rw [hK z] at hb
    cases hb
  obtain ⟨mc, c1, c2⟩ := hlim
  have e0 : Env0 P w K mg (hidT s₁.heap H) callerA [] s₁ H := ⟨rfl, ⟨kb, nm hns, ⟨mb, nm hb, hbb⟩, ⟨mc, nm c1, c2⟩⟩, fun b o hb => of_hidT hb, Nat.le_of_eq (hidT_size _ _), trivial, fun b z => (List.not_mem_nil z).elim, hok, .of_eq hg⟩
  refine codeAny_mono ((F _ kb (nm hns)).go callerA [] s₁ H ⟨[.ref a], []⟩ [.ref a] [.ref a] _ _ rfl hr e0 (hbind s₁ (.ref a)) (.cons rfl .nil) hsp) fun r s' h => ?_
  rcases r with er | fl
  · exact (hCX er s' h).elim
  cases fl with
  | next => exact h.elim
  | brk => exact h.elim
  | cont => exact h.elim
  | ret u =>
    obtain ⟨v, H', os, bare, un, hok', rr, q⟩ := h
    obtain rfl : v = .bl true := q
    cases (show u = Value.bool true from rr)
    refine ⟨rfl, OldK.of_keep fun b o hb => ?_, os, bare⟩
    rcases hO b with z | ⟨ob, xs, z⟩
    · exact un.keep b o hb z (fun y => (List.not_mem_nil y).elim) List.not_mem_nil
    · have was := (hok b _ z).1
      rw [hb] at was
      cases was
      exact (hok' b _ (un.frzs b _ _ z)).1
theorem still_law {P : Program} {w : World} {K : PySem.W.Frag} {mg mb : Str → Option Value} {k : Nat} {fa a : Addr} {fd : FuncData} {x : Str} {sp : Sp} {s₁ : Shared} {vs : List Value} {ns : List Int}
    (KX : K.In s₁.heap) (hns : s₁.heap.Ns mainGlobals mg) (hb : s₁.heap.Ns builtinsNs mb) (hbb : ∀ x : Str, x ≠ "__name__" → mb x = bootBuiltins x) (hlim : s₁.heap.NoLimit) (hg : s₁.gens = #[]) (ha : s₁.heap.get? a = some { cls := .type "list", data := .seq vs.toArray }) (hi : IntsAre vs ns) (hl : ns.length ≤ sizeLine) (hr : Room k callerA)
    (F : ∀ base : Heap, K.In base → base.Ns mainGlobals mg → FnStill P w K mg base k fa fd [x] sp) (hbind : ∀ (s : Shared) (u : Value), BindsTo s fd ⟨[u], []⟩ [(x, u)])
    (hsp : ∀ H : Hp, Only H → SqL K H a (ns.map V.int) → sp [.ref a] H (fun v _ => v = .bl true) fun _ _ _ => False) (hCX : ∀ H e s', CX0 [] H s₁ (fun _ _ _ => False) e s' → False) :
    codeAny (model P w) callerA (.call (.ref fa) ⟨[.ref a], []⟩) (fun r s' => r = .ok (.ret (.bool true)) ∧ OldK s₁.heap s'.heap ∧ s'.os = s₁.os ∧ AllBare s'.gens) s₁ := by
  rcases hk : K.lookup a with _ | o
  · have now : ∀ b u, (fun b => if b = a then some (HO.frz { cls := .type "list", data := .seq vs.toArray } (.lst (ns.map V.int))) else none) b = some u → b = a ∧ u = HO.frz { cls := .type "list", data := .seq vs.toArray } (.lst (ns.map V.int)) := fun b u z => by
      dsimp only at z
      split at z
      · rename_i q
        exact ⟨q, (Option.some.inj z).symm⟩
      · cases z
    refine still_core (H := fun b => if b = a then some (.frz { cls := .type "list", data := .seq vs.toArray } (.lst (ns.map V.int))) else none) KX hns hb hbb hlim hg ha hr F hbind (fun b => ?_) (fun b u z => ?_) (fun b z => if_neg z) (fun _ => hk) (hsp _ (fun b => ?_) (.inl (.inr ⟨_, if_pos rfl⟩))) (hCX _)
    · exact (Classical.em (b = a)).elim (fun q => .inr ⟨_, _, if_pos q⟩) fun q => .inl (if_neg q)
    · obtain ⟨rfl, rfl⟩ := now b u z
      exact ⟨ha, by rw [List.length_map]; exact hl, vs, _, vals_ints hi, ha⟩
    · exact (Classical.em (b = a)).elim (fun q => .inr ⟨_, _, if_pos q⟩) fun q => .inl (if_neg q)
  · have at_ := KX a o hk
    rw [ha] at at_
    cases at_
    refine still_core (H := fun _ => none) KX hns hb hbb hlim hg ha hr F hbind (fun _ => .inl rfl) (fun b u z => nomatch z) (fun _ _ => rfl) (fun z => (z rfl).elim) (hsp _ (fun _ => .inl rfl) (.inr ⟨_, vs.toArray, _, hk, rfl, rfl, rfl, ?_, ?_⟩)) (hCX _)
    · rw [List.size_toArray, hi.length]
      exact hl
    · simpa using vals_ints hi
theorem still_walk {l : PySem.W.OpenLaw} {n k : Nat} {q : Program} {loose : List Str} {XP : (Str → Option Value) → Heap → Prop} {YP : World → Heap → Prop} {d : DefRec} {K : Params → PySem.W.Frag} {sp : World → Sp} {x : Str}
    (hn : l.most = some n) (hn2 : n ≤ sizeLine) (hdf : d.params.defaults = []) (hr : Room k callerA) (hY : ∀ (w : World) (h : Heap), YP w h → (K w.params).In h)
    (F : ∀ (w : World) (mg : Str → Option Value) (fa : Addr) (h : Heap), (K w.params).In h → h.Ns mainGlobals mg → mg d.name = some (.ref fa) → ∃ fd : FuncData, (∀ (s : Shared) (u : Value), BindsTo s fd ⟨[u], []⟩ [(x, u)]) ∧
      ∀ base : Heap, (K w.params).In base → base.Ns mainGlobals mg → FnStill l.prog w (K w.params) mg base k fa fd [x] (sp w))
    (hsp : ∀ (w : World) (H : Hp) (a : Addr) (ns : List Int), ns.length ≤ n → Only H → SqL (K w.params) H a (ns.map V.int) → sp w [.ref a] H (fun v _ => v = .bl true) fun _ _ _ => False)
    (hCX : ∀ (H : Hp) (s : Shared) (e : Value) (s' : Shared), CX0 [] H s (fun _ _ _ => False) e s' → False) : PySem.W.WalkO q loose XP YP l.row.toRowW d [] (fun f vs => PySem.call f vs) := by
  refine Att.attach_call hn hdf fun w s₀ s₁ mg mb fa o pm cd doc a vs ns G Y ho hd hcd hmg hobj hints many gs => ?_
  obtain ⟨fd, bnd, hF⟩ := F w mg fa _ (hY w _ Y) G.T.g hmg
  exact still_law (hY w _ Y) G.T.g G.T.b G.T.builtins G.T.nolimit gs hobj hints (Nat.le_trans many hn2) hr hF bnd (fun H hO hS => hsp w H a ns many hO hS) fun H e s' => hCX H s₁ e s'
/-! ### the text of data -/
section
variable {X : Cx}
/-- repr(x) of data: its own text, nothing changed -/
def rRepr (K : PySem.W.Frag) : List V → Hp → VK → Prop := fun xs H Q => ∃ (a : Addr) (d : PyData), xs = [.ref a] ∧ Dp K H (.ref a) d ∧ d.showable = true ∧ d.hasDict = false ∧ d.depth ≤ 100 ∧ d.shown.length ≤ sizeLine ∧ Q (.str d.shown) H
theorem call_repr (still : X.A.guards = some []) (un : X.A.units + 150 < cLine) : CallR X (.builtin "repr") (rRepr X.K) := by
  intro pins s σ H xs us Q I rv h
  obtain ⟨a, d, rfl, hd, sh, nd, dp, sz, q⟩ := h
  rcases rv with _ | ⟨r1, r2⟩
  cases r2
  cases r1
  obtain ⟨as, hr⟩ := Dp.reads I d _ _ hd rfl
  exact repr_of_reads' hr sh (fun z => by rw [nd] at z; cases z) still (by omega) (fun _ _ z => z) (fun h' u tk keep => ⟨.str d.shown, H, I.kept keep, ⟨u, rfl⟩, q⟩) sz
end
end
/-! ### a property that is set -/
section
open PySem.Spec PyProof.Rows
/-- the class has the name as a property at p, with the getter at g and the setter at t -/
structure SetOf (K : PySem.W.Frag) (C : Addr) (f : Str) (p t : Addr) : Prop where
  at_ : PySem.W.findIn K (.ref C) f = some (some (.ref p))
  tak : PySem.W.takesIn K (.ref p) = some true
  ty : PySem.W.typeIn K (.ref p) = some (.type "property")
  rec_ : ∃ g rest, PySem.W.recIn K p "property" = some (g :: .ref t :: rest)
theorem SetOf.taker {K : PySem.W.Frag} {C : Addr} {f : Str} {p t : Addr} (P : SetOf K C f p t) : PySem.W.takerIn K C f = some (some (.ref p)) := by
  unfold PySem.W.takerIn
  rw [P.at_]
  show (PySem.W.takesIn K (.ref p)).map _ = _
  rw [P.tak]
  rfl
/-- o.f = value, f a property: the setter's promise -/
def sProp (sp : Sp) (C : Addr) (E : XK) (ta tv : TE) : TS := fun D σ H => tv σ H fun y H1 => ta σ H1 fun x H2 => ∃ a dx fs, x = .ref a ∧ H2 a = some (.ins C dx fs) ∧ sp [.ref a, y] H2 (fun _ H3 => D.nx σ H3) E
variable {X : Cx} {CX : CXT} {k : Nat} {C p t a dx : Addr} {fs : List (Str × V)} {f : Str} {fd : FuncData} {ps : List Str} {sp : Sp} {E : XK} {o value : Expr} {pos pos' : Pos} {ta tv : TE}
theorem setprop_ok {pins : List (Addr × Obj)} {σ : L2.St} {H : Hp} {s : Shared} {Q : Unit → Shared → Prop} {y : V} {u : Value} {QH : Hp → Prop} (I : Inv X pins σ H s) (ea : H a = some (.ins C dx fs)) (c : Cls X.K C) (P : SetOf X.K C f p t)
    (F : FnOk X.prog X.w X.K X.mg X.base CX k t fd ps sp) (hr : Room (k + 2) X.A) (hb : Binds X.K fd ps []) (hx : Passes CX X E) (ry : RelV y u) (h : sp [.ref a, y] H (fun _ H3 => QH H3) E) (q : ∀ H' s', Inv X pins σ H' s' → QH H' → Q () s') :
    wpAny (model X.prog X.w) X.A (setAttr (.ref a) f u) Q X.xe s := by
  obtain ⟨mA, O, _, _, _, _⟩ := ins_get I.hok ea
  obtain ⟨od, J, _⟩ := O.look
  obtain ⟨g, rest, hrec⟩ := P.rec_
  have I1 := I.tok (s.toks + 1)
  have hl : ([Value.ref a, u] ++ []).length = ps.length := (F.len _ _ _ _ h)
  have run := F.run X.A.in1.in1 X.stack { s with toks := s.toks + 1 } H ⟨[.ref a, u], []⟩ [.ref a, u] [.ref a, y] _ E hr.in1.in1 I1.env0.in1.in1 (hb _ [.ref a, u] I1.kIn hl) (.cons rfl (.cons ry .nil)) h
  refine PySem.W.set_plain I.kIn J c.sa (PySem.W.osa_descr (s := { s with toks := s.toks + 1 }) PySem.W.KF.slot_pset I1.kIn J c.po P.taker P.ty (PySem.W.prop_set (s := { s with toks := s.toks + 1 }) I1.kIn hrec (codeAny_mono run fun r s' hq => ?_)))
  cases r with
  | error er => exact hx pins σ H { s with toks := s.toks + 1 } er s' I1 hq
  | ok fl =>
    cases fl with
    | ret u' =>
      obtain ⟨v, H', I3, rv, q3⟩ := I1.after hq
      exact q H' s' I3 q3
    | next => exact False.elim hq
    | brk => exact False.elim hq
    | cont => exact False.elim hq
theorem ps_setp (ha : PE X o ta) (hv : PE X value tv) (c : Cls X.K C) (P : SetOf X.K C f p t) (F : FnOk X.prog X.w X.K X.mg X.base CX k t fd ps sp) (hr : Room (k + 2) X.A) (hb : Binds X.K fd ps []) (hx : Passes CX X E)
    (hs : swapsWith value (some (.Attribute o f pos')) pos.line X.env = pure false) : PS X (.Assign [.Attribute o f pos'] value pos) (sProp sp C E ta tv) := by
  refine ⟨fun pins s σ H D I h => ?_⟩
  refine plainObj_wpAny_Assign_Attribute (thn (hv.run pins s σ H _ I h) fun u s1 ⟨y, H1, I1, ry, q⟩ => thn (ha.run pins s1 σ H1 _ I1 q) fun ov s2 ⟨x, H2, I2, rx, a, dx, fs, ex, ea, q2⟩ => ?_) hs
  subst ex
  obtain rfl : ov = Value.ref a := rx
  exact setprop_ok I2 ea c P F hr hb hx ry q2 fun H' s' I' q => ⟨σ, H', I', q⟩
end
theorem x_setp {sp : Sp} {C : Addr} {E : XK} {ta tv : TE} {D : Ends} {σ : L2.St} {H : Hp} (q : tv σ H fun y H1 => ta σ H1 fun x H2 => ∃ a dx fs, x = .ref a ∧ H2 a = some (.ins C dx fs) ∧ sp [.ref a, y] H2 (fun _ H3 => D.nx σ H3) E) : sProp sp C E ta tv D σ H := q
def top (i : Nat) : Stmt := PySem.Challenge.pw_lossway_k11_outbox_history.main.body.getD i (.Pass ⟨0, 0, 0, 0⟩)
abbrev s_InvalidNumber_init_ : Stmt := inClass (top 3) 0
theorem st_InvalidNumber_init_ {t : TS} {D : Ends} {H : Hp} {v0 v1 : V} (h : t D [some v0, some v1] H) : t D (L2.start ["self", "number"] [v0, v1]) H := h
theorem sc_InvalidNumber_init_ : FnScope ["self", "number"] ["self", "number"] (defScope s_InvalidNumber_init_) := ⟨rfl, rfl, rfl, by decide +kernel, rfl, by decide +kernel, by decide +kernel⟩
abbrev s_InvalidSetting_init_ : Stmt := inClass (top 4) 0
theorem st_InvalidSetting_init_ {t : TS} {D : Ends} {H : Hp} {v0 v1 : V} (h : t D [some v0, some v1] H) : t D (L2.start ["self", "setting"] [v0, v1]) H := h
theorem sc_InvalidSetting_init_ : FnScope ["self", "setting"] ["self", "setting"] (defScope s_InvalidSetting_init_) := ⟨rfl, rfl, rfl, by decide +kernel, rfl, by decide +kernel, by decide +kernel⟩
abbrev s_NotAllowed_init_ : Stmt := inClass (top 5) 0
theorem st_NotAllowed_init_ {t : TS} {D : Ends} {H : Hp} {v0 v1 : V} (h : t D [some v0, some v1] H) : t D (L2.start ["self", "state"] [v0, v1]) H := h
theorem sc_NotAllowed_init_ : FnScope ["self", "state"] ["self", "state"] (defScope s_NotAllowed_init_) := ⟨rfl, rfl, rfl, by decide +kernel, rfl, by decide +kernel, by decide +kernel⟩
abbrev s_is_integer : Stmt := top 7
theorem st_is_integer {t : TS} {D : Ends} {H : Hp} {v0 : V} (h : t D [some v0] H) : t D (L2.start ["value"] [v0]) H := h
theorem sc_is_integer : FnScope ["value"] ["value"] (defScope s_is_integer) := ⟨rfl, rfl, rfl, by decide +kernel, rfl, by decide +kernel, by decide +kernel⟩
abbrev s_is_between : Stmt := top 8
theorem st_is_between {t : TS} {D : Ends} {H : Hp} {v0 v1 v2 : V} (h : t D [some v0, some v1, some v2] H) : t D (L2.start ["value", "low", "high"] [v0, v1, v2]) H := h
theorem sc_is_between : FnScope ["value", "low", "high"] ["value", "low", "high"] (defScope s_is_between) := ⟨rfl, rfl, rfl, by decide +kernel, rfl, by decide +kernel, by decide +kernel⟩
abbrev s_is_byte : Stmt := top 9
theorem st_is_byte {t : TS} {D : Ends} {H : Hp} {v0 : V} (h : t D [some v0] H) : t D (L2.start ["value"] [v0]) H := h
theorem sc_is_byte : FnScope ["value"] ["value"] (defScope s_is_byte) := ⟨rfl, rfl, rfl, by decide +kernel, rfl, by decide +kernel, by decide +kernel⟩
abbrev s_is_sequence : Stmt := top 10
theorem st_is_sequence {t : TS} {D : Ends} {H : Hp} {v0 : V} (h : t D [some v0] H) : t D (L2.start ["value"] [v0]) H := h
theorem sc_is_sequence : FnScope ["value"] ["value"] (defScope s_is_sequence) := ⟨rfl, rfl, rfl, by decide +kernel, rfl, by decide +kernel, by decide +kernel⟩
abbrev s_require_data : Stmt := top 11
theorem st_require_data {t : TS} {D : Ends} {H : Hp} {v0 : V} (h : t D [some v0, none] H) : t D (L2.start ["data", "item"] [v0]) H := h
theorem sc_require_data : FnScope ["data", "item"] ["data"] (defScope s_require_data) := ⟨rfl, rfl, rfl, by decide +kernel, rfl, by decide +kernel, by decide +kernel⟩
abbrev s_require_limit : Stmt := top 12
theorem st_require_limit {t : TS} {D : Ends} {H : Hp} {v0 : V} (h : t D [some v0] H) : t D (L2.start ["limit"] [v0]) H := h
theorem sc_require_limit : FnScope ["limit"] ["limit"] (defScope s_require_limit) := ⟨rfl, rfl, rfl, by decide +kernel, rfl, by decide +kernel, by decide +kernel⟩
abbrev s_Outbox_init_ : Stmt := inClass (top 14) 0
theorem st_Outbox_init_ {t : TS} {D : Ends} {H : Hp} {v0 v1 : V} (h : t D [some v0, some v1] H) : t D (L2.start ["self", "limit"] [v0, v1]) H := h
theorem sc_Outbox_init_ : FnScope ["self", "limit"] ["self", "limit"] (defScope s_Outbox_init_) := ⟨rfl, rfl, rfl, by decide +kernel, rfl, by decide +kernel, by decide +kernel⟩
abbrev s_Outbox_limit : Stmt := inClass (top 14) 1
theorem st_Outbox_limit {t : TS} {D : Ends} {H : Hp} {v0 : V} (h : t D [some v0] H) : t D (L2.start ["self"] [v0]) H := h
theorem sc_Outbox_limit : FnScope ["self"] ["self"] (defScope s_Outbox_limit) := ⟨rfl, rfl, rfl, by decide +kernel, rfl, by decide +kernel, by decide +kernel⟩
abbrev s_Outbox_limit_set : Stmt := inClass (top 14) 2
theorem st_Outbox_limit_set {t : TS} {D : Ends} {H : Hp} {v0 v1 : V} (h : t D [some v0, some v1] H) : t D (L2.start ["self", "value"] [v0, v1]) H := h
theorem sc_Outbox_limit_set : FnScope ["self", "value"] ["self", "value"] (defScope s_Outbox_limit_set) := ⟨rfl, rfl, rfl, by decide +kernel, rfl, by decide +kernel, by decide +kernel⟩
abbrev s_Outbox_free : Stmt := inClass (top 14) 3
theorem st_Outbox_free {t : TS} {D : Ends} {H : Hp} {v0 : V} (h : t D [some v0] H) : t D (L2.start ["self"] [v0]) H := h
theorem sc_Outbox_free : FnScope ["self"] ["self"] (defScope s_Outbox_free) := ⟨rfl, rfl, rfl, by decide +kernel, rfl, by decide +kernel, by decide +kernel⟩
abbrev s_Outbox_bound : Stmt := inClass (top 14) 4
theorem st_Outbox_bound {t : TS} {D : Ends} {H : Hp} {v0 : V} (h : t D [some v0] H) : t D (L2.start ["self"] [v0]) H := h
theorem sc_Outbox_bound : FnScope ["self"] ["self"] (defScope s_Outbox_bound) := ⟨rfl, rfl, rfl, by decide +kernel, rfl, by decide +kernel, by decide +kernel⟩
abbrev s_Outbox_resize : Stmt := inClass (top 14) 5
theorem st_Outbox_resize {t : TS} {D : Ends} {H : Hp} {v0 v1 : V} (h : t D [some v0, some v1] H) : t D (L2.start ["self", "limit"] [v0, v1]) H := h
theorem sc_Outbox_resize : FnScope ["self", "limit"] ["self", "limit"] (defScope s_Outbox_resize) := ⟨rfl, rfl, rfl, by decide +kernel, rfl, by decide +kernel, by decide +kernel⟩
abbrev s_Outbox_put : Stmt := inClass (top 14) 6
theorem st_Outbox_put {t : TS} {D : Ends} {H : Hp} {v0 v1 : V} (h : t D [some v0, some v1, none] H) : t D (L2.start ["self", "data", "count"] [v0, v1]) H := h
theorem sc_Outbox_put : FnScope ["self", "data", "count"] ["self", "data"] (defScope s_Outbox_put) := ⟨rfl, rfl, rfl, by decide +kernel, rfl, by decide +kernel, by decide +kernel⟩
abbrev s_Outbox_urge : Stmt := inClass (top 14) 7
theorem st_Outbox_urge {t : TS} {D : Ends} {H : Hp} {v0 v1 : V} (h : t D [some v0, some v1, none] H) : t D (L2.start ["self", "data", "count"] [v0, v1]) H := h
theorem sc_Outbox_urge : FnScope ["self", "data", "count"] ["self", "data"] (defScope s_Outbox_urge) := ⟨rfl, rfl, rfl, by decide +kernel, rfl, by decide +kernel, by decide +kernel⟩
abbrev s_Outbox_shut : Stmt := inClass (top 14) 8
theorem st_Outbox_shut {t : TS} {D : Ends} {H : Hp} {v0 : V} (h : t D [some v0] H) : t D (L2.start ["self"] [v0]) H := h
theorem sc_Outbox_shut : FnScope ["self"] ["self"] (defScope s_Outbox_shut) := ⟨rfl, rfl, rfl, by decide +kernel, rfl, by decide +kernel, by decide +kernel⟩
abbrev s_Outbox_cut : Stmt := inClass (top 14) 9
theorem st_Outbox_cut {t : TS} {D : Ends} {H : Hp} {v0 v1 v2 : V} (h : t D [some v0, some v1, some v2] H) : t D (L2.start ["self", "low", "high"] [v0, v1, v2]) H := h
theorem sc_Outbox_cut : FnScope ["self", "low", "high"] ["self", "low", "high"] (defScope s_Outbox_cut) := ⟨rfl, rfl, rfl, by decide +kernel, rfl, by decide +kernel, by decide +kernel⟩
abbrev s_Outbox_release : Stmt := inClass (top 14) 10
theorem st_Outbox_release {t : TS} {D : Ends} {H : Hp} {v0 v1 : V} (h : t D [some v0, some v1, none] H) : t D (L2.start ["self", "offset", "count"] [v0, v1]) H := h
theorem sc_Outbox_release : FnScope ["self", "offset", "count"] ["self", "offset"] (defScope s_Outbox_release) := ⟨rfl, rfl, rfl, by decide +kernel, rfl, by decide +kernel, by decide +kernel⟩
abbrev s__law_box : Stmt := top 16
theorem st__law_box {t : TS} {D : Ends} {H : Hp} {v0 : V} (h : t D [some v0] H) : t D (L2.start ["script"] [v0]) H := h
theorem sc__law_box : FnScope ["script"] ["script"] (defScope s__law_box) := ⟨rfl, rfl, rfl, by decide +kernel, rfl, by decide +kernel, by decide +kernel⟩
abbrev s__law_draw : Stmt := top 17
theorem st__law_draw {t : TS} {D : Ends} {H : Hp} {v0 v1 : V} (h : t D [some v0, some v1, none, none, none] H) : t D (L2.start ["box", "size", "cell", "digit", "mixed"] [v0, v1]) H := h
theorem sc__law_draw : FnScope ["box", "size", "cell", "digit", "mixed"] ["box", "size"] (defScope s__law_draw) := ⟨rfl, rfl, rfl, by decide +kernel, rfl, by decide +kernel, by decide +kernel⟩
abbrev s__law_is_whole : Stmt := top 18
theorem st__law_is_whole {t : TS} {D : Ends} {H : Hp} {v0 : V} (h : t D [some v0] H) : t D (L2.start ["value"] [v0]) H := h
theorem sc__law_is_whole : FnScope ["value"] ["value"] (defScope s__law_is_whole) := ⟨rfl, rfl, rfl, by decide +kernel, rfl, by decide +kernel, by decide +kernel⟩
abbrev s__law_limit : Stmt := top 19
theorem st__law_limit {t : TS} {D : Ends} {H : Hp} {v0 : V} (h : t D [some v0] H) : t D (L2.start ["box"] [v0]) H := h
theorem sc__law_limit : FnScope ["box"] ["box"] (defScope s__law_limit) := ⟨rfl, rfl, rfl, by decide +kernel, rfl, by decide +kernel, by decide +kernel⟩
abbrev s__law_bytes : Stmt := top 20
theorem st__law_bytes {t : TS} {D : Ends} {H : Hp} {v0 v1 : V} (h : t D [some v0, some v1, none, none, none, none] H) : t D (L2.start ["box", "most", "many", "base", "step", "k"] [v0, v1]) H := h
theorem sc__law_bytes : FnScope ["box", "most", "many", "base", "step", "k"] ["box", "most"] (defScope s__law_bytes) := ⟨rfl, rfl, rfl, by decide +kernel, rfl, by decide +kernel, by decide +kernel⟩
abbrev s__law_bad_data : Stmt := top 21
theorem st__law_bad_data {t : TS} {D : Ends} {H : Hp} {v0 : V} (h : t D [some v0, none, none, none, none, none, none, none, none] H) : t D (L2.start ["box", "items", "odd", "bad", "also", "place", "way", "whole", "k"] [v0]) H := h
theorem sc__law_bad_data : FnScope ["box", "items", "odd", "bad", "also", "place", "way", "whole", "k"] ["box"] (defScope s__law_bad_data) := ⟨rfl, rfl, rfl, by decide +kernel, rfl, by decide +kernel, by decide +kernel⟩
abbrev s__law_state : Stmt := top 22
theorem st__law_state {t : TS} {D : Ends} {H : Hp} {v0 v1 : V} (h : t D [some v0, some v1, none, none, none, none] H) : t D (L2.start ["outbox", "state", "end", "spare", "numbers", "pair"] [v0, v1]) H := h
theorem sc__law_state : FnScope ["outbox", "state", "end", "spare", "numbers", "pair"] ["outbox", "state"] (defScope s__law_state) := ⟨rfl, rfl, rfl, by decide +kernel, rfl, by decide +kernel, by decide +kernel⟩
abbrev s__law_tuple_is : Stmt := top 23
theorem st__law_tuple_is {t : TS} {D : Ends} {H : Hp} {v0 v1 : V} (h : t D [some v0, some v1, none] H) : t D (L2.start ["told", "due", "k"] [v0, v1]) H := h
theorem sc__law_tuple_is : FnScope ["told", "due", "k"] ["told", "due"] (defScope s__law_tuple_is) := ⟨rfl, rfl, rfl, by decide +kernel, rfl, by decide +kernel, by decide +kernel⟩
abbrev s__law_only : Stmt := top 24
theorem st__law_only {t : TS} {D : Ends} {H : Hp} {v0 v1 v2 v3 : V} (h : t D [some v0, some v1, some v2, some v3] H) : t D (L2.start ["e", "number", "setting", "state"] [v0, v1, v2, v3]) H := h
theorem sc__law_only : FnScope ["e", "number", "setting", "state"] ["e", "number", "setting", "state"] (defScope s__law_only) := ⟨rfl, rfl, rfl, by decide +kernel, rfl, by decide +kernel, by decide +kernel⟩
abbrev s__law_adds : Stmt := top 25
theorem st__law_adds {t : TS} {D : Ends} {H : Hp} {v0 v1 v2 v3 : V} (h : t D [some v0, some v1, some v2, some v3, none, none, none, none, none] H) : t D (L2.start ["outbox", "state", "data", "urgent", "kept", "spare", "many", "told", "e"] [v0, v1, v2, v3]) H := h
theorem sc__law_adds : FnScope ["outbox", "state", "data", "urgent", "kept", "spare", "many", "told", "e"] ["outbox", "state", "data", "urgent"] (defScope s__law_adds) := ⟨rfl, rfl, rfl, by decide +kernel, rfl, by decide +kernel, by decide +kernel⟩
abbrev s__law_data_refused : Stmt := top 26
theorem st__law_data_refused {t : TS} {D : Ends} {H : Hp} {v0 v1 v2 v3 v4 : V} (h : t D [some v0, some v1, some v2, some v3, some v4, none] H) : t D (L2.start ["outbox", "state", "data", "bad", "urgent", "e"] [v0, v1, v2, v3, v4]) H := h
theorem sc__law_data_refused : FnScope ["outbox", "state", "data", "bad", "urgent", "e"] ["outbox", "state", "data", "bad", "urgent"] (defScope s__law_data_refused) := ⟨rfl, rfl, rfl, by decide +kernel, rfl, by decide +kernel, by decide +kernel⟩
abbrev s__law_cuts : Stmt := top 27
theorem st__law_cuts {t : TS} {D : Ends} {H : Hp} {v0 v1 v2 : V} (h : t D [some v0, some v1, some v2, none, none, none, none] H) : t D (L2.start ["box", "outbox", "state", "end", "low", "high", "due"] [v0, v1, v2]) H := h
theorem sc__law_cuts : FnScope ["box", "outbox", "state", "end", "low", "high", "due"] ["box", "outbox", "state"] (defScope s__law_cuts) := ⟨rfl, rfl, rfl, by decide +kernel, rfl, by decide +kernel, by decide +kernel⟩
abbrev s__law_cut_refused : Stmt := top 28
theorem st__law_cut_refused {t : TS} {D : Ends} {H : Hp} {v0 v1 v2 : V} (h : t D [some v0, some v1, some v2, none, none, none, none, none, none, none, none, none, none] H) : t D (L2.start ["box", "outbox", "state", "end", "less", "more", "inner", "kind", "way", "low", "high", "bad", "e"] [v0, v1, v2]) H := h
theorem sc__law_cut_refused : FnScope ["box", "outbox", "state", "end", "less", "more", "inner", "kind", "way", "low", "high", "bad", "e"] ["box", "outbox", "state"] (defScope s__law_cut_refused) := ⟨rfl, rfl, rfl, by decide +kernel, rfl, by decide +kernel, by decide +kernel⟩
abbrev s__law_releases : Stmt := top 29
theorem st__law_releases {t : TS} {D : Ends} {H : Hp} {v0 v1 v2 : V} (h : t D [some v0, some v1, some v2, none, none, none] H) : t D (L2.start ["box", "outbox", "state", "offset", "told", "many"] [v0, v1, v2]) H := h
theorem sc__law_releases : FnScope ["box", "outbox", "state", "offset", "told", "many"] ["box", "outbox", "state"] (defScope s__law_releases) := ⟨rfl, rfl, rfl, by decide +kernel, rfl, by decide +kernel, by decide +kernel⟩
abbrev s__law_release_refused : Stmt := top 30
theorem st__law_release_refused {t : TS} {D : Ends} {H : Hp} {v0 v1 v2 : V} (h : t D [some v0, some v1, some v2, none, none, none] H) : t D (L2.start ["box", "outbox", "state", "bad", "way", "e"] [v0, v1, v2]) H := h
theorem sc__law_release_refused : FnScope ["box", "outbox", "state", "bad", "way", "e"] ["box", "outbox", "state"] (defScope s__law_release_refused) := ⟨rfl, rfl, rfl, by decide +kernel, rfl, by decide +kernel, by decide +kernel⟩
abbrev s__law_limit_refused : Stmt := top 31
theorem st__law_limit_refused {t : TS} {D : Ends} {H : Hp} {v0 v1 : V} (h : t D [some v0, some v1, none, none, none, none] H) : t D (L2.start ["box", "outbox", "menu", "bad", "anew", "e"] [v0, v1]) H := h
theorem sc__law_limit_refused : FnScope ["box", "outbox", "menu", "bad", "anew", "e"] ["box", "outbox"] (defScope s__law_limit_refused) := ⟨rfl, rfl, rfl, by decide +kernel, rfl, by decide +kernel, by decide +kernel⟩
abbrev s__law_deed : Stmt := top 32
theorem st__law_deed {t : TS} {D : Ends} {H : Hp} {v0 v1 v2 : V} (h : t D [some v0, some v1, some v2, none, none, none] H) : t D (L2.start ["box", "outbox", "state", "way", "data", "bad"] [v0, v1, v2]) H := h
theorem sc__law_deed : FnScope ["box", "outbox", "state", "way", "data", "bad"] ["box", "outbox", "state"] (defScope s__law_deed) := ⟨rfl, rfl, rfl, by decide +kernel, rfl, by decide +kernel, by decide +kernel⟩
abbrev s_law : Stmt := top 33
theorem st_law {t : TS} {D : Ends} {H : Hp} {v0 : V} (h : t D [some v0, none, none, none, none, none, none, none, none] H) : t D (L2.start ["script", "box", "states", "pair", "many", "k", "most", "which", "bad"] [v0]) H := h
theorem sc_law : FnScope ["script", "box", "states", "pair", "many", "k", "most", "which", "bad"] ["script"] (defScope s_law) := ⟨rfl, rfl, rfl, by decide +kernel, rfl, by decide +kernel, by decide +kernel⟩

set_option maxHeartbeats 0 in
structure Txt (K : PySem.W.Frag) (mg : Str → Option Value) where
  c_Outbox : Addr
  g_Outbox : mg "Outbox" = some (.ref c_Outbox)
  cl_Outbox : Cls K c_Outbox
  n_Outbox__limit : NoAttr K c_Outbox "_limit"
  n_Outbox_base : NoAttr K c_Outbox "base"
  n_Outbox_end : NoAttr K c_Outbox "end"
  n_Outbox_closed : NoAttr K c_Outbox "closed"
  n_Outbox_urgent_end : NoAttr K c_Outbox "urgent_end"
  n_Outbox__kept : NoAttr K c_Outbox "_kept"
  c_LossError : Addr
  c_InvalidNumber : Addr
  c_InvalidSetting : Addr
  c_NotAllowed : Addr
  a_InvalidNumber_init_ : Addr
  fd_InvalidNumber_init_ : FuncData
  F_InvalidNumber_init_ : Fun K "__init__" "InvalidNumber.__init__" s_InvalidNumber_init_ a_InvalidNumber_init_ fd_InvalidNumber_init_
  B_InvalidNumber_init_ : Binds K fd_InvalidNumber_init_ ["self", "number"] []
  a_InvalidSetting_init_ : Addr
  fd_InvalidSetting_init_ : FuncData
  F_InvalidSetting_init_ : Fun K "__init__" "InvalidSetting.__init__" s_InvalidSetting_init_ a_InvalidSetting_init_ fd_InvalidSetting_init_
  B_InvalidSetting_init_ : Binds K fd_InvalidSetting_init_ ["self", "setting"] []
  a_NotAllowed_init_ : Addr
  fd_NotAllowed_init_ : FuncData
  F_NotAllowed_init_ : Fun K "__init__" "NotAllowed.__init__" s_NotAllowed_init_ a_NotAllowed_init_ fd_NotAllowed_init_
  B_NotAllowed_init_ : Binds K fd_NotAllowed_init_ ["self", "state"] []
  a_is_integer : Addr
  fd_is_integer : FuncData
  F_is_integer : Fun K "is_integer" "is_integer" s_is_integer a_is_integer fd_is_integer
  B_is_integer : Binds K fd_is_integer ["value"] []
  g_is_integer : mg "is_integer" = some (.ref a_is_integer)
  a_is_between : Addr
  fd_is_between : FuncData
  F_is_between : Fun K "is_between" "is_between" s_is_between a_is_between fd_is_between
  B_is_between : Binds K fd_is_between ["value", "low", "high"] []
  g_is_between : mg "is_between" = some (.ref a_is_between)
  a_is_byte : Addr
  fd_is_byte : FuncData
  F_is_byte : Fun K "is_byte" "is_byte" s_is_byte a_is_byte fd_is_byte
  B_is_byte : Binds K fd_is_byte ["value"] []
  g_is_byte : mg "is_byte" = some (.ref a_is_byte)
  a_is_sequence : Addr
  fd_is_sequence : FuncData
  F_is_sequence : Fun K "is_sequence" "is_sequence" s_is_sequence a_is_sequence fd_is_sequence
  B_is_sequence : Binds K fd_is_sequence ["value"] []
  g_is_sequence : mg "is_sequence" = some (.ref a_is_sequence)
  a_require_data : Addr
  fd_require_data : FuncData
  F_require_data : Fun K "require_data" "require_data" s_require_data a_require_data fd_require_data
  B_require_data : Binds K fd_require_data ["data"] []
  g_require_data : mg "require_data" = some (.ref a_require_data)
  a_require_limit : Addr
  fd_require_limit : FuncData
  F_require_limit : Fun K "require_limit" "require_limit" s_require_limit a_require_limit fd_require_limit
  B_require_limit : Binds K fd_require_limit ["limit"] []
  g_require_limit : mg "require_limit" = some (.ref a_require_limit)
  a_Outbox_init_ : Addr
  fd_Outbox_init_ : FuncData
  F_Outbox_init_ : Fun K "__init__" "Outbox.__init__" s_Outbox_init_ a_Outbox_init_ fd_Outbox_init_
  B_Outbox_init_ : Binds K fd_Outbox_init_ ["self", "limit"] []
  M_Outbox : Mk K c_Outbox a_Outbox_init_
  a_Outbox_limit : Addr
  fd_Outbox_limit : FuncData
  F_Outbox_limit : Fun K "limit" "Outbox.limit" s_Outbox_limit a_Outbox_limit fd_Outbox_limit
  B_Outbox_limit : Binds K fd_Outbox_limit ["self"] []
  p_Outbox_limit : Addr
  PR_Outbox_limit : PropOf K c_Outbox "limit" p_Outbox_limit a_Outbox_limit
  a_Outbox_limit_set : Addr
  fd_Outbox_limit_set : FuncData
  F_Outbox_limit_set : Fun K "limit" "Outbox.limit" s_Outbox_limit_set a_Outbox_limit_set fd_Outbox_limit_set
  B_Outbox_limit_set : Binds K fd_Outbox_limit_set ["self", "value"] []
  SE_Outbox_limit_set : SetOf K c_Outbox "limit" p_Outbox_limit a_Outbox_limit_set
  a_Outbox_free : Addr
  fd_Outbox_free : FuncData
  F_Outbox_free : Fun K "free" "Outbox.free" s_Outbox_free a_Outbox_free fd_Outbox_free
  B_Outbox_free : Binds K fd_Outbox_free ["self"] []
  p_Outbox_free : Addr
  PR_Outbox_free : PropOf K c_Outbox "free" p_Outbox_free a_Outbox_free
  a_Outbox_bound : Addr
  fd_Outbox_bound : FuncData
  F_Outbox_bound : Fun K "bound" "Outbox.bound" s_Outbox_bound a_Outbox_bound fd_Outbox_bound
  B_Outbox_bound : Binds K fd_Outbox_bound ["self"] []
  p_Outbox_bound : Addr
  PR_Outbox_bound : PropOf K c_Outbox "bound" p_Outbox_bound a_Outbox_bound
  a_Outbox_resize : Addr
  fd_Outbox_resize : FuncData
  F_Outbox_resize : Fun K "resize" "Outbox.resize" s_Outbox_resize a_Outbox_resize fd_Outbox_resize
  B_Outbox_resize : Binds K fd_Outbox_resize ["self", "limit"] []
  m_Outbox_resize : Meth K c_Outbox "resize" a_Outbox_resize
  a_Outbox_put : Addr
  fd_Outbox_put : FuncData
  F_Outbox_put : Fun K "put" "Outbox.put" s_Outbox_put a_Outbox_put fd_Outbox_put
  B_Outbox_put : Binds K fd_Outbox_put ["self", "data"] []
  m_Outbox_put : Meth K c_Outbox "put" a_Outbox_put
  a_Outbox_urge : Addr
  fd_Outbox_urge : FuncData
  F_Outbox_urge : Fun K "urge" "Outbox.urge" s_Outbox_urge a_Outbox_urge fd_Outbox_urge
  B_Outbox_urge : Binds K fd_Outbox_urge ["self", "data"] []
  m_Outbox_urge : Meth K c_Outbox "urge" a_Outbox_urge
  a_Outbox_shut : Addr
  fd_Outbox_shut : FuncData
  F_Outbox_shut : Fun K "shut" "Outbox.shut" s_Outbox_shut a_Outbox_shut fd_Outbox_shut
  B_Outbox_shut : Binds K fd_Outbox_shut ["self"] []
  m_Outbox_shut : Meth K c_Outbox "shut" a_Outbox_shut
  a_Outbox_cut : Addr
  fd_Outbox_cut : FuncData
  F_Outbox_cut : Fun K "cut" "Outbox.cut" s_Outbox_cut a_Outbox_cut fd_Outbox_cut
  B_Outbox_cut : Binds K fd_Outbox_cut ["self", "low", "high"] []
  m_Outbox_cut : Meth K c_Outbox "cut" a_Outbox_cut
  a_Outbox_release : Addr
  fd_Outbox_release : FuncData
  F_Outbox_release : Fun K "release" "Outbox.release" s_Outbox_release a_Outbox_release fd_Outbox_release
  B_Outbox_release : Binds K fd_Outbox_release ["self", "offset"] []
  m_Outbox_release : Meth K c_Outbox "release" a_Outbox_release
  a__law_box : Addr
  fd__law_box : FuncData
  F__law_box : Fun K "_law_box" "_law_box" s__law_box a__law_box fd__law_box
  B__law_box : Binds K fd__law_box ["script"] []
  g__law_box : mg "_law_box" = some (.ref a__law_box)
  a__law_draw : Addr
  fd__law_draw : FuncData
  F__law_draw : Fun K "_law_draw" "_law_draw" s__law_draw a__law_draw fd__law_draw
  B__law_draw : Binds K fd__law_draw ["box", "size"] []
  g__law_draw : mg "_law_draw" = some (.ref a__law_draw)
  a__law_is_whole : Addr
  fd__law_is_whole : FuncData
  F__law_is_whole : Fun K "_law_is_whole" "_law_is_whole" s__law_is_whole a__law_is_whole fd__law_is_whole
  B__law_is_whole : Binds K fd__law_is_whole ["value"] []
  g__law_is_whole : mg "_law_is_whole" = some (.ref a__law_is_whole)
  a__law_limit : Addr
  fd__law_limit : FuncData
  F__law_limit : Fun K "_law_limit" "_law_limit" s__law_limit a__law_limit fd__law_limit
  B__law_limit : Binds K fd__law_limit ["box"] []
  g__law_limit : mg "_law_limit" = some (.ref a__law_limit)
  a__law_bytes : Addr
  fd__law_bytes : FuncData
  F__law_bytes : Fun K "_law_bytes" "_law_bytes" s__law_bytes a__law_bytes fd__law_bytes
  B__law_bytes : Binds K fd__law_bytes ["box", "most"] []
  g__law_bytes : mg "_law_bytes" = some (.ref a__law_bytes)
  a__law_bad_data : Addr
  fd__law_bad_data : FuncData
  F__law_bad_data : Fun K "_law_bad_data" "_law_bad_data" s__law_bad_data a__law_bad_data fd__law_bad_data
  B__law_bad_data : Binds K fd__law_bad_data ["box"] []
  g__law_bad_data : mg "_law_bad_data" = some (.ref a__law_bad_data)
  a__law_state : Addr
  fd__law_state : FuncData
  F__law_state : Fun K "_law_state" "_law_state" s__law_state a__law_state fd__law_state
  B__law_state : Binds K fd__law_state ["outbox", "state"] []
  g__law_state : mg "_law_state" = some (.ref a__law_state)
  a__law_tuple_is : Addr
  fd__law_tuple_is : FuncData
  F__law_tuple_is : Fun K "_law_tuple_is" "_law_tuple_is" s__law_tuple_is a__law_tuple_is fd__law_tuple_is
  B__law_tuple_is : Binds K fd__law_tuple_is ["told", "due"] []
  g__law_tuple_is : mg "_law_tuple_is" = some (.ref a__law_tuple_is)
  a__law_only : Addr
  fd__law_only : FuncData
  F__law_only : Fun K "_law_only" "_law_only" s__law_only a__law_only fd__law_only
  B__law_only : Binds K fd__law_only ["e", "number", "setting", "state"] []
  g__law_only : mg "_law_only" = some (.ref a__law_only)
  a__law_adds : Addr
  fd__law_adds : FuncData
  F__law_adds : Fun K "_law_adds" "_law_adds" s__law_adds a__law_adds fd__law_adds
  B__law_adds : Binds K fd__law_adds ["outbox", "state", "data", "urgent"] []
  g__law_adds : mg "_law_adds" = some (.ref a__law_adds)
  a__law_data_refused : Addr
  fd__law_data_refused : FuncData
  F__law_data_refused : Fun K "_law_data_refused" "_law_data_refused" s__law_data_refused a__law_data_refused fd__law_data_refused
  B__law_data_refused : Binds K fd__law_data_refused ["outbox", "state", "data", "bad", "urgent"] []
  g__law_data_refused : mg "_law_data_refused" = some (.ref a__law_data_refused)
  a__law_cuts : Addr
  fd__law_cuts : FuncData
  F__law_cuts : Fun K "_law_cuts" "_law_cuts" s__law_cuts a__law_cuts fd__law_cuts
  B__law_cuts : Binds K fd__law_cuts ["box", "outbox", "state"] []
  g__law_cuts : mg "_law_cuts" = some (.ref a__law_cuts)
  a__law_cut_refused : Addr
  fd__law_cut_refused : FuncData
  F__law_cut_refused : Fun K "_law_cut_refused" "_law_cut_refused" s__law_cut_refused a__law_cut_refused fd__law_cut_refused
  B__law_cut_refused : Binds K fd__law_cut_refused ["box", "outbox", "state"] []
  g__law_cut_refused : mg "_law_cut_refused" = some (.ref a__law_cut_refused)
  a__law_releases : Addr
  fd__law_releases : FuncData
  F__law_releases : Fun K "_law_releases" "_law_releases" s__law_releases a__law_releases fd__law_releases
  B__law_releases : Binds K fd__law_releases ["box", "outbox", "state"] []
  g__law_releases : mg "_law_releases" = some (.ref a__law_releases)
  a__law_release_refused : Addr
  fd__law_release_refused : FuncData
  F__law_release_refused : Fun K "_law_release_refused" "_law_release_refused" s__law_release_refused a__law_release_refused fd__law_release_refused
  B__law_release_refused : Binds K fd__law_release_refused ["box", "outbox", "state"] []
  g__law_release_refused : mg "_law_release_refused" = some (.ref a__law_release_refused)
  a__law_limit_refused : Addr
  fd__law_limit_refused : FuncData
  F__law_limit_refused : Fun K "_law_limit_refused" "_law_limit_refused" s__law_limit_refused a__law_limit_refused fd__law_limit_refused
  B__law_limit_refused : Binds K fd__law_limit_refused ["box", "outbox"] []
  g__law_limit_refused : mg "_law_limit_refused" = some (.ref a__law_limit_refused)
  a__law_deed : Addr
  fd__law_deed : FuncData
  F__law_deed : Fun K "_law_deed" "_law_deed" s__law_deed a__law_deed fd__law_deed
  B__law_deed : Binds K fd__law_deed ["box", "outbox", "state"] []
  g__law_deed : mg "_law_deed" = some (.ref a__law_deed)
  a_law : Addr
  fd_law : FuncData
  F_law : Fun K "law" "law" s_law a_law fd_law
  B_law : Binds K fd_law ["script"] []
  g_law : mg "law" = some (.ref a_law)
  X_LossError : GCls mg "LossError" c_LossError
  X_InvalidNumber : XCls K mg "InvalidNumber" c_InvalidNumber a_InvalidNumber_init_
  nX_InvalidNumber : PySem.W.findIn K (.ref c_InvalidNumber) "number" = some none
  X_InvalidSetting : XCls K mg "InvalidSetting" c_InvalidSetting a_InvalidSetting_init_
  nX_InvalidSetting : PySem.W.findIn K (.ref c_InvalidSetting) "setting" = some none
  X_NotAllowed : XCls K mg "NotAllowed" c_NotAllowed a_NotAllowed_init_
  nX_NotAllowed : PySem.W.findIn K (.ref c_NotAllowed) "state" = some none
  Me_InvalidNumber_InvalidNumber : PySem.W.exmOne K (.ref c_InvalidNumber) (.ref c_InvalidNumber) = some true
  Me_InvalidNumber_NotAllowed : PySem.W.exmOne K (.ref c_InvalidNumber) (.ref c_NotAllowed) = some false
  Me_InvalidSetting_InvalidSetting : PySem.W.exmOne K (.ref c_InvalidSetting) (.ref c_InvalidSetting) = some true
  Me_NotAllowed_NotAllowed : PySem.W.exmOne K (.ref c_NotAllowed) (.ref c_NotAllowed) = some true
  Kt_InvalidNumber_InvalidNumber : PySem.W.kitOne K (.ref c_InvalidNumber) (.ref c_InvalidNumber) = some true
  Kt_InvalidNumber_InvalidSetting : PySem.W.kitOne K (.ref c_InvalidNumber) (.ref c_InvalidSetting) = some false
  Kt_InvalidNumber_NotAllowed : PySem.W.kitOne K (.ref c_InvalidNumber) (.ref c_NotAllowed) = some false
  Kt_InvalidSetting_InvalidNumber : PySem.W.kitOne K (.ref c_InvalidSetting) (.ref c_InvalidNumber) = some false
  Kt_InvalidSetting_InvalidSetting : PySem.W.kitOne K (.ref c_InvalidSetting) (.ref c_InvalidSetting) = some true
  Kt_InvalidSetting_NotAllowed : PySem.W.kitOne K (.ref c_InvalidSetting) (.ref c_NotAllowed) = some false
  Kt_NotAllowed_InvalidNumber : PySem.W.kitOne K (.ref c_NotAllowed) (.ref c_InvalidNumber) = some false
  Kt_NotAllowed_InvalidSetting : PySem.W.kitOne K (.ref c_NotAllowed) (.ref c_InvalidSetting) = some false
  Kt_NotAllowed_NotAllowed : PySem.W.kitOne K (.ref c_NotAllowed) (.ref c_NotAllowed) = some true
  Kt_InvalidNumber_LossError : PySem.W.kitOne K (.ref c_InvalidNumber) (.ref c_LossError) = some true
  Kt_InvalidSetting_LossError : PySem.W.kitOne K (.ref c_InvalidSetting) (.ref c_LossError) = some true
  Kt_NotAllowed_LossError : PySem.W.kitOne K (.ref c_NotAllowed) (.ref c_LossError) = some true
  Kv_InvalidNumber : PySem.W.kitOne K (.ref c_InvalidNumber) (.type "ValueError") = some true
  Kv_InvalidSetting : PySem.W.kitOne K (.ref c_InvalidSetting) (.type "ValueError") = some true
  Kv_NotAllowed : PySem.W.kitOne K (.ref c_NotAllowed) (.type "ValueError") = some true
  b_ValueError : mg "ValueError" = none
  b_abs : mg "abs" = none
  b_bool : mg "bool" = none
  b_int : mg "int" = none
  b_isinstance : mg "isinstance" = none
  b_len : mg "len" = none
  b_list : mg "list" = none
  b_max : mg "max" = none
  b_min : mg "min" = none
  b_property : mg "property" = none
  b_range : mg "range" = none
  b_repr : mg "repr" = none
  b_tuple : mg "tuple" = none

section
variable {P : Program} {w : World} {K : PySem.W.Frag} {mg : Str → Option Value} {base : Heap}
/-! ### kinds of values -/
/-- whether x is an int and no bool, by its kind -/
def IntK (K : PySem.W.Frag) (H : Hp) (x : V) (r : Bool) : Prop := ∃ (t : Value) (i b : Bool), TyX K H x t ∧ PySem.W.kitOne K t (.type "int") = some i ∧ PySem.W.kitOne K t (.type "bool") = some b ∧ r = (i && !b)
theorem intK_int {K : PySem.W.Frag} {H : Hp} (n : Int) : IntK K H (.int n) true := ⟨.type "int", true, false, .base (.int n), kit_ty (by decide +kernel), kit_ty (by decide +kernel), rfl⟩
/-- isinstance(x, int) and not isinstance(x, bool) -/
def sp_is_integer (K : PySem.W.Frag) : Sp := fun vs H Q _ => ∃ (x : V) (r : Bool), vs = [x] ∧ IntK K H x r ∧ Q (.bl r) H
def sp_is_between (K : PySem.W.Frag) : Sp := fun vs H Q _ => ∃ (x : V) (lo hi : Int), vs = [x, .int lo, .int hi] ∧ ((∃ n, x = .int n ∧ Q (.bl (decide (lo ≤ n) && decide (n ≤ hi))) H) ∨ (IntK K H x false ∧ Q (.bl false) H))
theorem ok_is_integer (T : Txt K mg) : FnOk P w K mg base CX0 1 T.a_is_integer T.fd_is_integer ["value"] (sp_is_integer K) := by
  have S := sc_is_integer
  refine T.F_is_integer.ok S (fun vs H Q E h => ?_) (fun cdv A outer s H vs Q E hr h => ?_)
  · obtain ⟨x, r, rfl, _⟩ := h
    rfl
  · obtain ⟨x, r, rfl, ⟨t, i, b, ty, hi, hb, rfl⟩, k⟩ := h
    refine ⟨_, (pss_one (ps_ret (pe_and (pe_callB (id := "isinstance") call_isi (by rfl) T.b_isinstance (by decide +kernel) (pa_cons (pv 0) (pa_cons (pe_bltn (v := .ty "int") (u := .type "int") (by rfl) T.b_int (by decide +kernel) rfl) pa_nil))) (pe_one (pe_not (pe_callB (id := "isinstance") call_isi (by rfl) T.b_isinstance (by decide +kernel) (pa_cons (pv 0) (pa_cons (pe_bltn (v := .ty "bool") (u := .type "bool") (by rfl) T.b_bool (by decide +kernel) rfl) pa_nil)))))))), ?_⟩
    refine ⟨_, rfl, _, _, _, _, i, rfl, .ty _, ty, hi, i, rfl, ?_⟩
    cases i with
    | false => exact iteF k
    | true => exact iteT ⟨_, rfl, _, _, _, _, b, rfl, .ty _, ty, hb, b, rfl, k⟩
theorem ok_is_between (T : Txt K mg) : FnOk P w K mg base CX0 2 T.a_is_between T.fd_is_between ["value", "low", "high"] (sp_is_between K) := by
  have S := sc_is_between
  refine T.F_is_between.ok S (fun vs H Q E h => ?_) (fun cdv A outer s H vs Q E hr h => ?_)
  · obtain ⟨x, lo, hi, rfl, _⟩ := h
    rfl
  · obtain ⟨x, lo, hi, rfl, h⟩ := h
    refine ⟨_, (pss_one (ps_ret (pe_and (pe_call (ok_is_integer T) (hr.mono (by decide)) rfl T.g_is_integer T.F_is_integer.kp T.B_is_integer .nil pass0 (pa_cons (pv 0) pa_nil)) (pe_one (pe_chain op_le op_le (pv 1) (pv 0) (pv 2)))))), ?_⟩
    rcases h with ⟨n, rfl, k⟩ | ⟨hk, k⟩
    · refine ⟨_, rfl, _, true, rfl, intK_int n, true, rfl, iteT ?_⟩
      refine ⟨_, rfl, _, rfl, _, _, rfl, rfl, _, rfl, ?_⟩
      by_cases q : lo ≤ n
      · rw [decide_eq_true q, Bool.true_and] at k
        rw [decide_eq_true q]
        exact iteT ⟨_, rfl, _, _, rfl, rfl, k⟩
      · rw [decide_eq_false q, Bool.false_and] at k
        rw [decide_eq_false q]
        exact iteF k
    · exact ⟨_, rfl, _, false, rfl, hk, false, rfl, iteF k⟩
/-! ### sequences, items by their kinds -/
theorem tyX_same {K : PySem.W.Frag} {H H' : Hp} {x : V} {t : Value} (h : TyX K H x t) (s : Same H H') : TyX K H' x t := by
  cases h with
  | base b =>
    refine .base ?_
    cases b with
    | non => exact .non
    | bl y => exact .bl y
    | int i => exact .int i
    | str y => exact .str y
    | flt y => exact .flt y
    | lst e => exact .lst (s _ _ e)
    | frz e => exact .frz (s _ _ e)
    | tup e => exact .tup (s _ _ e)
    | dK e => exact .dK (s _ _ e)
    | dT e => exact .dT (s _ _ e)
    | ins e cl ha hn ht hm => exact .ins (s _ _ e) cl ha hn ht hm
  | byt b => exact .byt b
  | set e => exact .set (s _ _ e)
  | kList e c => exact .kList e c
  | kTuple e c => exact .kTuple e c
  | kDict e c => exact .kDict e c
  | fTuple e => exact .fTuple (s _ _ e)
  | fDict e => exact .fDict (s _ _ e)
theorem IntK.same {K : PySem.W.Frag} {H H' : Hp} {x : V} {r : Bool} (h : IntK K H x r) (s : Same H H') : IntK K H' x r := by
  obtain ⟨t, i, b, ty, h1, h2, h3⟩ := h
  exact ⟨t, i, b, tyX_same ty s, h1, h2, h3⟩
/-- x is the int n, or no int at all -/
def Kd (K : PySem.W.Frag) (H : Hp) (x : V) : Option Int → Prop
  | some n => x = .int n
  | none => IntK K H x false
theorem Kd.same {K : PySem.W.Frag} {H H' : Hp} {x : V} {o : Option Int} (h : Kd K H x o) (s : Same H H') : Kd K H' x o := by
  cases o with
  | some n => exact h
  | none => exact IntK.same h s
/-- what lies in lo .. hi -/
def inR (lo hi : Int) : Option Int → Bool
  | some n => decide (lo ≤ n) && decide (n ≤ hi)
  | none => false
/-- a list or a tuple -/
def SeqA (K : PySem.W.Frag) (H : Hp) (a : Addr) (xs : List V) : Prop := SqL K H a xs ∨ SqT K H a xs
theorem SeqA.lst {K : PySem.W.Frag} {H : Hp} {a : Addr} {xs : List V} (h : H a = some (.lst xs)) : SeqA K H a xs := .inl (SqL.of h)
theorem SeqA.tup {K : PySem.W.Frag} {H : Hp} {a : Addr} {xs : List V} (h : H a = some (.tup xs)) : SeqA K H a xs := .inr (SqT.of h)
theorem SeqA.sm {K : PySem.W.Frag} {H H' : Hp} {a : Addr} {xs : List V} (h : SeqA K H a xs) (s : Same H H') : SeqA K H' a xs := h.elim (fun h => .inl (s.seq h)) fun h => .inr (sqT_sm h s)
/-- whether x is a sequence, by its kind -/
def SeqK (K : PySem.W.Frag) (H : Hp) (x : V) (r : Bool) : Prop := ∃ t, TyX K H x t ∧ PySem.W.kitAny K t [.type "list", .type "tuple"] = some r
theorem kit2 {K : PySem.W.Frag} {t : Value} {a b : Bool} (h1 : PySem.W.kitOne K t (.type "list") = some a) (h2 : PySem.W.kitOne K t (.type "tuple") = some b) : PySem.W.kitAny K t [.type "list", .type "tuple"] = some (a || b) := by
  unfold PySem.W.kitAny
  rw [h1]
  cases a with
  | true => rfl
  | false =>
    show PySem.W.kitAny K t [.type "tuple"] = some b
    unfold PySem.W.kitAny
    rw [h2]
    cases b <;> rfl
theorem seqK_ty {K : PySem.W.Frag} {H : Hp} {x : V} {n : String} {a b : Bool} (t : TyX K H x (.type n)) (h1 : kitB n "list" = some a) (h2 : kitB n "tuple" = some b) : SeqK K H x (a || b) := ⟨_, t, kit2 (kit_ty h1) (kit_ty h2)⟩
theorem seqK_of {K : PySem.W.Frag} {H : Hp} {a : Addr} {xs : List V} (h : SeqA K H a xs) : SeqK K H (.ref a) true := by
  rcases h with h | h
  · rcases h with (h | ⟨o, h⟩) | ⟨o, its, n, hk, hc, _⟩
    · exact seqK_ty (a := true) (b := false) (.base (.lst h)) (by decide +kernel) (by decide +kernel)
    · exact seqK_ty (a := true) (b := false) (.base (.frz h)) (by decide +kernel) (by decide +kernel)
    · exact seqK_ty (a := true) (b := false) (.kList hk hc) (by decide +kernel) (by decide +kernel)
  · rcases h with (h | ⟨o, h⟩) | ⟨o, its, n, hk, hc, _⟩
    · exact seqK_ty (a := false) (b := true) (.base (.tup h)) (by decide +kernel) (by decide +kernel)
    · exact seqK_ty (a := false) (b := true) (.fTuple h) (by decide +kernel) (by decide +kernel)
    · exact seqK_ty (a := false) (b := true) (.kTuple hk hc) (by decide +kernel) (by decide +kernel)
/-! ### lists stay lists -/
def Typ (H H' : Hp) : Prop := ∀ a o, H a = some o → H' a = some o ∨ ((∃ xs, o = .lst xs) ∧ ∃ ys, H' a = some (.lst ys))
theorem Typ.refl (H : Hp) : Typ H H := fun _ _ h => .inl h
theorem Typ.of {H H' : Hp} (s : Same H H') : Typ H H' := fun _ _ h => .inl (s _ _ h)
theorem Typ.trans {H H1 H2 : Hp} (x : Typ H H1) (y : Typ H1 H2) : Typ H H2 := fun a o h => by
  rcases x a o h with h1 | ⟨hx, ys, h1⟩
  · exact y a o h1
  · rcases y a _ h1 with h2 | ⟨_, zs, h2⟩
    · exact .inr ⟨hx, ys, h2⟩
    · exact .inr ⟨hx, zs, h2⟩
theorem Typ.upd {H : Hp} {a : Addr} {xs ys : List V} (h : H a = some (.lst xs)) : Typ H (L2.upd H a (.lst ys)) := fun b o hb => by
  by_cases q : b = a
  · subst q
    rw [h] at hb
    cases hb
    exact .inr ⟨⟨_, rfl⟩, ys, upd_same⟩
  · exact .inl (by rw [upd_ne q]; exact hb)
theorem Typ.purse {H H' : Hp} {p c : Addr} (P : Purse p c H) (P' : Purse p c H') (s : SameX p H H') : Typ H H' := fun b o hb => by
  by_cases q : b = p
  · subst q
    obtain ⟨⟨xs, h⟩, _⟩ := P.there
    obtain ⟨⟨ys, h'⟩, _⟩ := P'.there
    rw [h] at hb
    cases hb
    exact .inr ⟨⟨_, rfl⟩, ys, h'⟩
  · exact .inl (s b o q hb)
theorem tyX_typ {K : PySem.W.Frag} {H H' : Hp} {x : V} {t : Value} (h : TyX K H x t) (s : Typ H H') : TyX K H' x t := by
  cases h with
  | base b =>
    refine .base ?_
    cases b with
    | non => exact .non
    | bl y => exact .bl y
    | int i => exact .int i
    | str y => exact .str y
    | flt y => exact .flt y
    | lst e => exact (s _ _ e).elim (fun h => .lst h) fun ⟨_, ys, h⟩ => .lst h
    | frz e => exact (s _ _ e).elim (fun h => .frz h) fun ⟨⟨_, z⟩, _⟩ => nomatch z
    | tup e => exact (s _ _ e).elim (fun h => .tup h) fun ⟨⟨_, z⟩, _⟩ => nomatch z
    | dK e => exact (s _ _ e).elim (fun h => .dK h) fun ⟨⟨_, z⟩, _⟩ => nomatch z
    | dT e => exact (s _ _ e).elim (fun h => .dT h) fun ⟨⟨_, z⟩, _⟩ => nomatch z
    | ins e cl ha hn ht hm => exact (s _ _ e).elim (fun h => .ins h cl ha hn ht hm) fun ⟨⟨_, z⟩, _⟩ => nomatch z
  | byt b => exact .byt b
  | set e => exact (s _ _ e).elim (fun h => .set h) fun ⟨⟨_, z⟩, _⟩ => nomatch z
  | kList e c => exact .kList e c
  | kTuple e c => exact .kTuple e c
  | kDict e c => exact .kDict e c
  | fTuple e => exact (s _ _ e).elim (fun h => .fTuple h) fun ⟨⟨_, z⟩, _⟩ => nomatch z
  | fDict e => exact (s _ _ e).elim (fun h => .fDict h) fun ⟨⟨_, z⟩, _⟩ => nomatch z
theorem Kd.typ {K : PySem.W.Frag} {H H' : Hp} {x : V} {o : Option Int} (h : Kd K H x o) (s : Typ H H') : Kd K H' x o := by
  cases o with
  | some n => exact h
  | none =>
    obtain ⟨t, i, b, ty, h1, h2, h3⟩ := (show IntK K H x false from h)
    exact ⟨t, i, b, tyX_typ ty s, h1, h2, h3⟩
theorem intK_no {K : PySem.W.Frag} {H : Hp} {x : V} {n : String} {i b : Bool} (t : TyX K H x (.type n)) (h1 : kitB n "int" = some i) (h2 : kitB n "bool" = some b) (h : (i && !b) = false) : IntK K H x false := ⟨_, i, b, t, kit_ty h1, kit_ty h2, h.symm⟩
theorem ixN_nat {n j : Nat} {z : Int} (e : z = (j : Int)) (h : j < n) : ixN n z = some j := by
  subst e
  unfold ixN
  rw [if_pos (by omega), if_pos (by omega)]
  rfl
/-! ### equality of words -/
theorem dec_int (a b : Int) : decide (V.int a = V.int b) = decide (a = b) := by
  by_cases e : a = b
  · rw [decide_eq_true e, decide_eq_true (congrArg V.int e)]
  · rw [decide_eq_false e, decide_eq_false (fun q => e (V.int.inj q))]
theorem dec_bl (a b : Bool) : decide (V.bl a = V.bl b) = (a == b) := by
  cases a <;> cases b <;> rfl
/-! ### steps: readings by their form -/
section
variable {K : PySem.W.Frag} {σ : L2.St} {H : Hp} {Q : VK} {QL : List V → Hp → Prop} {QB : Bool → Hp → Prop} {QO : Option Int → Hp → Prop} {QS : L2.St → Hp → Prop} {v w : V} {a0 a1 a2 a3 a4 a5 a6 a7 a8 a9 a10 a11 a12 a13 a14 a15 a16 a17 a18 a19 : Option V} {te tb tc : TE} {ta : TA} {t u : TT} {ts us : TS} {D : Ends} {g : TG}
def rTupOf (K : PySem.W.Frag) : List V → Hp → VK → Prop := fun xs H Q => ∃ p ys, xs = [.ref p] ∧ ((SqL K H p ys ∧ ∀ l, H l = none → Q (.ref l) (L2.upd H l (.tup ys))) ∨ SqT K H p ys ∧ Q (.ref p) H)
theorem call_tupK {X : Cx} {K : PySem.W.Frag} (e : X.K = K) : CallR X (.type "tuple") (rTupOf K) := e ▸ call_tuple_of
def rLstOf (K : PySem.W.Frag) : List V → Hp → VK → Prop := fun xs H Q => ∃ p ys, xs = [.ref p] ∧ (SqL K H p ys ∨ SqT K H p ys) ∧ ∀ l, H l = none → Q (.ref l) (L2.upd H l (.lst ys))
theorem call_listK {X : Cx} {K : PySem.W.Frag} (e : X.K = K) : CallR X (.type "list") (rLstOf K) := e ▸ call_list_of
def rLenOf (K : PySem.W.Frag) : List V → Hp → VK → Prop := fun xs H Q => ∃ p ys, xs = [.ref p] ∧ (SqL K H p ys ∨ SqT K H p ys) ∧ Q (.int (ys.length : Int)) H
theorem call_lenK {X : Cx} {K : PySem.W.Frag} (e : X.K = K) : CallR X (.builtin "len") (rLenOf K) := e ▸ call_len_seq
theorem all_cons {α : Type} {p : α → Prop} {a : α} {l : List α} (h : p a) (r : ∀ q ∈ l, p q) : ∀ q ∈ a :: l, p q := fun q hq => by
  rcases List.mem_cons.mp hq with e | e
  · rw [e]; exact h
  · exact r q e
theorem x_v0 (q : Q v H) : tVar 0 (some v :: σ) H Q := ⟨_, rfl, q⟩
theorem x_g0 (q : QS (some v :: σ) H) : gName 0 v (a0 :: σ) H QS := q
theorem x_v1 (q : Q v H) : tVar 1 (a0 :: some v :: σ) H Q := ⟨_, rfl, q⟩
theorem x_g1 (q : QS (a0 :: some v :: σ) H) : gName 1 v (a0 :: a1 :: σ) H QS := q
theorem x_v2 (q : Q v H) : tVar 2 (a0 :: a1 :: some v :: σ) H Q := ⟨_, rfl, q⟩
theorem x_g2 (q : QS (a0 :: a1 :: some v :: σ) H) : gName 2 v (a0 :: a1 :: a2 :: σ) H QS := q
theorem x_v3 (q : Q v H) : tVar 3 (a0 :: a1 :: a2 :: some v :: σ) H Q := ⟨_, rfl, q⟩
theorem x_g3 (q : QS (a0 :: a1 :: a2 :: some v :: σ) H) : gName 3 v (a0 :: a1 :: a2 :: a3 :: σ) H QS := q
theorem x_v4 (q : Q v H) : tVar 4 (a0 :: a1 :: a2 :: a3 :: some v :: σ) H Q := ⟨_, rfl, q⟩
theorem x_g4 (q : QS (a0 :: a1 :: a2 :: a3 :: some v :: σ) H) : gName 4 v (a0 :: a1 :: a2 :: a3 :: a4 :: σ) H QS := q
theorem x_v5 (q : Q v H) : tVar 5 (a0 :: a1 :: a2 :: a3 :: a4 :: some v :: σ) H Q := ⟨_, rfl, q⟩
theorem x_g5 (q : QS (a0 :: a1 :: a2 :: a3 :: a4 :: some v :: σ) H) : gName 5 v (a0 :: a1 :: a2 :: a3 :: a4 :: a5 :: σ) H QS := q
theorem x_v6 (q : Q v H) : tVar 6 (a0 :: a1 :: a2 :: a3 :: a4 :: a5 :: some v :: σ) H Q := ⟨_, rfl, q⟩
theorem x_g6 (q : QS (a0 :: a1 :: a2 :: a3 :: a4 :: a5 :: some v :: σ) H) : gName 6 v (a0 :: a1 :: a2 :: a3 :: a4 :: a5 :: a6 :: σ) H QS := q
theorem x_v7 (q : Q v H) : tVar 7 (a0 :: a1 :: a2 :: a3 :: a4 :: a5 :: a6 :: some v :: σ) H Q := ⟨_, rfl, q⟩
theorem x_g7 (q : QS (a0 :: a1 :: a2 :: a3 :: a4 :: a5 :: a6 :: some v :: σ) H) : gName 7 v (a0 :: a1 :: a2 :: a3 :: a4 :: a5 :: a6 :: a7 :: σ) H QS := q
theorem x_v8 (q : Q v H) : tVar 8 (a0 :: a1 :: a2 :: a3 :: a4 :: a5 :: a6 :: a7 :: some v :: σ) H Q := ⟨_, rfl, q⟩
theorem x_g8 (q : QS (a0 :: a1 :: a2 :: a3 :: a4 :: a5 :: a6 :: a7 :: some v :: σ) H) : gName 8 v (a0 :: a1 :: a2 :: a3 :: a4 :: a5 :: a6 :: a7 :: a8 :: σ) H QS := q
theorem x_v9 (q : Q v H) : tVar 9 (a0 :: a1 :: a2 :: a3 :: a4 :: a5 :: a6 :: a7 :: a8 :: some v :: σ) H Q := ⟨_, rfl, q⟩
theorem x_g9 (q : QS (a0 :: a1 :: a2 :: a3 :: a4 :: a5 :: a6 :: a7 :: a8 :: some v :: σ) H) : gName 9 v (a0 :: a1 :: a2 :: a3 :: a4 :: a5 :: a6 :: a7 :: a8 :: a9 :: σ) H QS := q
theorem x_v10 (q : Q v H) : tVar 10 (a0 :: a1 :: a2 :: a3 :: a4 :: a5 :: a6 :: a7 :: a8 :: a9 :: some v :: σ) H Q := ⟨_, rfl, q⟩
theorem x_g10 (q : QS (a0 :: a1 :: a2 :: a3 :: a4 :: a5 :: a6 :: a7 :: a8 :: a9 :: some v :: σ) H) : gName 10 v (a0 :: a1 :: a2 :: a3 :: a4 :: a5 :: a6 :: a7 :: a8 :: a9 :: a10 :: σ) H QS := q
theorem x_v11 (q : Q v H) : tVar 11 (a0 :: a1 :: a2 :: a3 :: a4 :: a5 :: a6 :: a7 :: a8 :: a9 :: a10 :: some v :: σ) H Q := ⟨_, rfl, q⟩
theorem x_g11 (q : QS (a0 :: a1 :: a2 :: a3 :: a4 :: a5 :: a6 :: a7 :: a8 :: a9 :: a10 :: some v :: σ) H) : gName 11 v (a0 :: a1 :: a2 :: a3 :: a4 :: a5 :: a6 :: a7 :: a8 :: a9 :: a10 :: a11 :: σ) H QS := q
theorem x_v12 (q : Q v H) : tVar 12 (a0 :: a1 :: a2 :: a3 :: a4 :: a5 :: a6 :: a7 :: a8 :: a9 :: a10 :: a11 :: some v :: σ) H Q := ⟨_, rfl, q⟩
theorem x_g12 (q : QS (a0 :: a1 :: a2 :: a3 :: a4 :: a5 :: a6 :: a7 :: a8 :: a9 :: a10 :: a11 :: some v :: σ) H) : gName 12 v (a0 :: a1 :: a2 :: a3 :: a4 :: a5 :: a6 :: a7 :: a8 :: a9 :: a10 :: a11 :: a12 :: σ) H QS := q
theorem x_v13 (q : Q v H) : tVar 13 (a0 :: a1 :: a2 :: a3 :: a4 :: a5 :: a6 :: a7 :: a8 :: a9 :: a10 :: a11 :: a12 :: some v :: σ) H Q := ⟨_, rfl, q⟩
theorem x_g13 (q : QS (a0 :: a1 :: a2 :: a3 :: a4 :: a5 :: a6 :: a7 :: a8 :: a9 :: a10 :: a11 :: a12 :: some v :: σ) H) : gName 13 v (a0 :: a1 :: a2 :: a3 :: a4 :: a5 :: a6 :: a7 :: a8 :: a9 :: a10 :: a11 :: a12 :: a13 :: σ) H QS := q
theorem x_v14 (q : Q v H) : tVar 14 (a0 :: a1 :: a2 :: a3 :: a4 :: a5 :: a6 :: a7 :: a8 :: a9 :: a10 :: a11 :: a12 :: a13 :: some v :: σ) H Q := ⟨_, rfl, q⟩
theorem x_g14 (q : QS (a0 :: a1 :: a2 :: a3 :: a4 :: a5 :: a6 :: a7 :: a8 :: a9 :: a10 :: a11 :: a12 :: a13 :: some v :: σ) H) : gName 14 v (a0 :: a1 :: a2 :: a3 :: a4 :: a5 :: a6 :: a7 :: a8 :: a9 :: a10 :: a11 :: a12 :: a13 :: a14 :: σ) H QS := q
theorem x_v15 (q : Q v H) : tVar 15 (a0 :: a1 :: a2 :: a3 :: a4 :: a5 :: a6 :: a7 :: a8 :: a9 :: a10 :: a11 :: a12 :: a13 :: a14 :: some v :: σ) H Q := ⟨_, rfl, q⟩
theorem x_g15 (q : QS (a0 :: a1 :: a2 :: a3 :: a4 :: a5 :: a6 :: a7 :: a8 :: a9 :: a10 :: a11 :: a12 :: a13 :: a14 :: some v :: σ) H) : gName 15 v (a0 :: a1 :: a2 :: a3 :: a4 :: a5 :: a6 :: a7 :: a8 :: a9 :: a10 :: a11 :: a12 :: a13 :: a14 :: a15 :: σ) H QS := q
theorem x_v16 (q : Q v H) : tVar 16 (a0 :: a1 :: a2 :: a3 :: a4 :: a5 :: a6 :: a7 :: a8 :: a9 :: a10 :: a11 :: a12 :: a13 :: a14 :: a15 :: some v :: σ) H Q := ⟨_, rfl, q⟩
theorem x_g16 (q : QS (a0 :: a1 :: a2 :: a3 :: a4 :: a5 :: a6 :: a7 :: a8 :: a9 :: a10 :: a11 :: a12 :: a13 :: a14 :: a15 :: some v :: σ) H) : gName 16 v (a0 :: a1 :: a2 :: a3 :: a4 :: a5 :: a6 :: a7 :: a8 :: a9 :: a10 :: a11 :: a12 :: a13 :: a14 :: a15 :: a16 :: σ) H QS := q
theorem x_v17 (q : Q v H) : tVar 17 (a0 :: a1 :: a2 :: a3 :: a4 :: a5 :: a6 :: a7 :: a8 :: a9 :: a10 :: a11 :: a12 :: a13 :: a14 :: a15 :: a16 :: some v :: σ) H Q := ⟨_, rfl, q⟩
theorem x_g17 (q : QS (a0 :: a1 :: a2 :: a3 :: a4 :: a5 :: a6 :: a7 :: a8 :: a9 :: a10 :: a11 :: a12 :: a13 :: a14 :: a15 :: a16 :: some v :: σ) H) : gName 17 v (a0 :: a1 :: a2 :: a3 :: a4 :: a5 :: a6 :: a7 :: a8 :: a9 :: a10 :: a11 :: a12 :: a13 :: a14 :: a15 :: a16 :: a17 :: σ) H QS := q
theorem x_v18 (q : Q v H) : tVar 18 (a0 :: a1 :: a2 :: a3 :: a4 :: a5 :: a6 :: a7 :: a8 :: a9 :: a10 :: a11 :: a12 :: a13 :: a14 :: a15 :: a16 :: a17 :: some v :: σ) H Q := ⟨_, rfl, q⟩
theorem x_g18 (q : QS (a0 :: a1 :: a2 :: a3 :: a4 :: a5 :: a6 :: a7 :: a8 :: a9 :: a10 :: a11 :: a12 :: a13 :: a14 :: a15 :: a16 :: a17 :: some v :: σ) H) : gName 18 v (a0 :: a1 :: a2 :: a3 :: a4 :: a5 :: a6 :: a7 :: a8 :: a9 :: a10 :: a11 :: a12 :: a13 :: a14 :: a15 :: a16 :: a17 :: a18 :: σ) H QS := q
theorem x_v19 (q : Q v H) : tVar 19 (a0 :: a1 :: a2 :: a3 :: a4 :: a5 :: a6 :: a7 :: a8 :: a9 :: a10 :: a11 :: a12 :: a13 :: a14 :: a15 :: a16 :: a17 :: a18 :: some v :: σ) H Q := ⟨_, rfl, q⟩
theorem x_g19 (q : QS (a0 :: a1 :: a2 :: a3 :: a4 :: a5 :: a6 :: a7 :: a8 :: a9 :: a10 :: a11 :: a12 :: a13 :: a14 :: a15 :: a16 :: a17 :: a18 :: some v :: σ) H) : gName 19 v (a0 :: a1 :: a2 :: a3 :: a4 :: a5 :: a6 :: a7 :: a8 :: a9 :: a10 :: a11 :: a12 :: a13 :: a14 :: a15 :: a16 :: a17 :: a18 :: a19 :: σ) H QS := q
theorem x_c (q : Q v H) : tC v σ H Q := q
theorem x_op {r : R2} (q : te σ H fun x H1 => tb σ H1 fun y H2 => r x y H2 Q) : tOp r te tb σ H Q := q
theorem x_un {r : V → Hp → VK → Prop} (q : te σ H fun x H1 => r x H1 Q) : tUn r te σ H Q := q
theorem x_test (q : te σ H fun x H1 => ∃ k, x = .bl k ∧ QB k H1) : tTest te σ H QB := q
theorem x_tB (q : te σ H fun x H1 => ∃ k, x = .bl k ∧ QB k H1) : tB te σ H QB := q
theorem x_and (q : t σ H fun c H1 => if c = true then u σ H1 QB else QB false H1) : tAnd t u σ H QB := q
theorem x_or (q : t σ H fun c H1 => if c = true then QB true H1 else u σ H1 QB) : tOr t u σ H QB := q
theorem x_not (q : t σ H fun c H1 => QB (!c) H1) : tNot t σ H QB := q
theorem x_andV (q : te σ H fun x H1 => ∃ c, x = .bl c ∧ if c = true then tb σ H1 Q else Q (.bl false) H1) : tAndV te tb σ H Q := q
theorem x_orV (q : te σ H fun x H1 => ∃ c, x = .bl c ∧ if c = true then Q (.bl true) H1 else tb σ H1 Q) : tOrV te tb σ H Q := q
theorem x_notV (q : te σ H fun x H1 => ∃ c, x = .bl c ∧ Q (.bl (!c)) H1) : tNotV te σ H Q := q
theorem x_if (q : t σ H fun c H1 => if c = true then te σ H1 Q else tb σ H1 Q) : tIf t te tb σ H Q := q
theorem x_ifS (q : t σ H fun b H1 => if b = true then ts D σ H1 else us D σ H1) : tIfS t ts us D σ H := q
theorem x_seq (q : ts ⟨us D, D.rt, D.bk, D.ct⟩ σ H) : tSeq ts us D σ H := q
theorem x_next (q : D.nx σ H) : tNext D σ H := q
theorem x_brk (q : D.bk σ H) : tBreak D σ H := q
theorem x_cont (q : D.ct σ H) : tCont D σ H := q
theorem x_nx {f : L2.St → Hp → Prop} {r : VK} {b c : L2.St → Hp → Prop} (q : f σ H) : Ends.nx ⟨f, r, b, c⟩ σ H := q
theorem x_rt {f : VK} {n b c : L2.St → Hp → Prop} (q : f v H) : Ends.rt ⟨n, f, b, c⟩ v H := q
theorem x_bk {f : L2.St → Hp → Prop} {r : VK} {n c : L2.St → Hp → Prop} (q : f σ H) : Ends.bk ⟨n, r, f, c⟩ σ H := q
theorem x_ct {f : L2.St → Hp → Prop} {r : VK} {n b : L2.St → Hp → Prop} (q : f σ H) : Ends.ct ⟨n, r, b, f⟩ σ H := q
theorem x_drop (q : te σ H fun _ H1 => D.nx σ H1) : tDrop te D σ H := q
theorem x_ret (q : te σ H fun x H1 => D.rt x H1) : tRet te D σ H := q
theorem x_retN (q : D.rt .non H) : tRetN D σ H := q
theorem x_asg (q : te σ H fun x H1 => g x σ H1 D.nx) : tAsg te g D σ H := q
theorem x_nil (q : QL [] H) : tNil σ H QL := q
theorem x_cons (q : te σ H fun x H1 => ta σ H1 fun xs H2 => QL (x :: xs) H2) : tCons te ta σ H QL := q
theorem x_call {sp : Sp} {dvs : List V} {E : XK} (q : ta σ H fun vs H1 => sp (vs ++ dvs) H1 Q E) : tCall sp dvs E ta σ H Q := q
theorem x_cb {r : List V → Hp → VK → Prop} (q : ta σ H fun vs H1 => r vs H1 Q) : tCB r ta σ H Q := q
theorem x_bm {T : String} {r : V → List V → Hp → VK → Prop} (q : te σ H fun x H1 => tyV K T x H1 ∧ ta σ H1 fun xs H2 => r x xs H2 Q) : tBM K T r te ta σ H Q := q
theorem x_sl {r : V → Option Int → Option Int → Hp → VK → Prop} {tl th : TO} (q : te σ H fun x H1 => tl σ H1 fun l H2 => th σ H2 fun u H3 => r x l u H3 Q) : tSl r te tl th σ H Q := q
theorem x_np (q : QO none H) : tNoPart σ H QO := q
theorem x_pt (q : te σ H fun x H1 => ∃ i, x = .int i ∧ QO (some i) H1) : tPart te σ H QO := q
theorem x_exI {P : Int → Prop} {i : Int} (q : P i) : ∃ k, V.int i = V.int k ∧ P k := ⟨_, rfl, q⟩
theorem x_exB {P : Bool → Prop} {b : Bool} (q : P b) : ∃ k, V.bl b = V.bl k ∧ P k := ⟨_, rfl, q⟩
theorem x_I0 {f : Int → Int → V} {i j : Int} (q : Q (f i j) H) : rI0 f (.int i) (.int j) H Q := ⟨_, _, rfl, rfl, q⟩
theorem x_eqI {i j : Int} (q : Q (.bl (decide (i = j))) H) : rEq (.int i) (.int j) H Q := ⟨rfl, by rw [My.dec_int]; exact q⟩
theorem x_neI {i j : Int} (q : Q (.bl (!decide (i = j))) H) : rNe (.int i) (.int j) H Q := ⟨rfl, by rw [My.dec_int]; exact q⟩
theorem x_eqS {i j : Str} (q : Q (.bl (decide (i = j))) H) : rEq (.str i) (.str j) H Q := ⟨rfl, by
  have e : decide (V.str i = V.str j) = decide (i = j) := by
    by_cases h : i = j
    · rw [decide_eq_true h, decide_eq_true (congrArg V.str h)]
    · rw [decide_eq_false h, decide_eq_false (fun z => h (V.str.inj z))]
  rw [e]; exact q⟩
theorem x_neS {i j : Str} (q : Q (.bl (!decide (i = j))) H) : rNe (.str i) (.str j) H Q := ⟨rfl, by
  have e : decide (V.str i = V.str j) = decide (i = j) := by
    by_cases h : i = j
    · rw [decide_eq_true h, decide_eq_true (congrArg V.str h)]
    · rw [decide_eq_false h, decide_eq_false (fun z => h (V.str.inj z))]
  rw [e]; exact q⟩
def brB (b : Bool) (p q : Prop) : Prop := (b = true → p) ∧ (b = false → q)
theorem x_ite {b : Bool} {p q : Prop} (h : brB b p q) : if b = true then p else q := by
  cases b with
  | true => rw [if_pos rfl]; exact h.1 rfl
  | false => rw [if_neg Bool.false_ne_true]; exact h.2 rfl
theorem x_brT {p q : Prop} (h : p) : brB true p q := ⟨fun _ => h, fun z => nomatch z⟩
theorem x_brF {p q : Prop} (h : q) : brB false p q := ⟨fun z => (nomatch z), fun _ => h⟩
theorem x_brN {b : Bool} {p q : Prop} (h : brB b q p) : brB (!b) p q := by
  cases b with
  | true => exact x_brF (h.1 rfl)
  | false => exact x_brT (h.2 rfl)
theorem br2 {b : Bool} {p q : Prop} (h1 : b = true → p) (h2 : b = false → q) : brB b p q := ⟨h1, h2⟩
theorem brD {c : Prop} [Decidable c] {p q : Prop} (h1 : c → p) (h2 : ¬ c → q) : brB (decide c) p q := ⟨fun h => h1 (of_decide_eq_true h), fun h => h2 (of_decide_eq_false h)⟩
theorem brT {b : Bool} {p q : Prop} (e : b = true) (h : p) : brB b p q := ⟨fun _ => h, fun z => by rw [e] at z; cases z⟩
theorem brF {b : Bool} {p q : Prop} (e : b = false) (h : q) : brB b p q := ⟨fun z => (by rw [e] at z; cases z), fun _ => h⟩
theorem brDT {c : Prop} [Decidable c] {p q : Prop} (e : c) (h : p) : brB (decide c) p q := brT (decide_eq_true e) h
theorem brDF {c : Prop} [Decidable c] {p q : Prop} (e : ¬ c) (h : q) : brB (decide c) p q := brF (decide_eq_false e) h
theorem x_ixL {a : Addr} {xs : List V} {i : Int} (h : H a = some (.lst xs)) (hi : atI xs i = some v) (q : Q v H) : rIxL K (.ref a) (.int i) H Q := ⟨_, _, _, _, rfl, rfl, SqL.of h, hi, q⟩
theorem x_ixT {a : Addr} {xs : List V} {i : Int} (h : H a = some (.tup xs)) (hi : atI xs i = some v) (q : Q v H) : rIxT K (.ref a) (.int i) H Q := ⟨_, _, _, _, rfl, rfl, SqT.of h, hi, q⟩
def rNewL (xs : List V) (H : Hp) (Q : VK) : Prop := xs.length ≤ sizeLine ∧ ∀ p, H p = none → Q (.ref p) (L2.upd H p (.lst xs))
def rNewT (xs : List V) (H : Hp) (Q : VK) : Prop := xs.length ≤ sizeLine ∧ ∀ p, H p = none → Q (.ref p) (L2.upd H p (.tup xs))
theorem x_lst (q : ta σ H fun xs H1 => rNewL xs H1 Q) : tLst ta σ H Q := q
theorem x_tup (q : ta σ H fun xs H1 => rNewT xs H1 Q) : tTup ta σ H Q := q
theorem x_new {n : Nat} {P : Prop} (h : n ≤ 100000) (q : P) : n ≤ sizeLine ∧ P := ⟨Nat.le_trans h (by decide), q⟩
theorem x_sFld {f : Str} (q : tb σ H fun y H1 => te σ H1 fun x H2 => ∃ a C dx fs, x = .ref a ∧ H2 a = some (.ins C dx fs) ∧ Cls K C ∧ NoAttr K C f ∧ fs.length < 1000 ∧ D.nx σ (L2.upd H2 a (.ins C dx (putF f y fs)))) : sFld K te tb f D σ H := q
theorem x_fld {f : Str} (q : te σ H fun x H1 => ∃ a C dx fs v, x = .ref a ∧ H1 a = some (.ins C dx fs) ∧ Cls K C ∧ NoAttr K C f ∧ fs.lookup f = some v ∧ Q v H1) : tFld K te f σ H Q := q
/-- a field is stored -/
theorem fstore {f : Str} {y : V} {p C dx : Addr} {fs fs' : List (Str × V)} {P : Hp → Prop} (h : H p = some (.ins C dx fs)) (c : Cls K C) (n : NoAttr K C f) (l : fs.length < 1000) (e : putF f y fs = fs') (q : ∀ H', SameX p H H' → H' p = some (.ins C dx fs') → P H') :
    ∃ a C dx fs, V.ref p = .ref a ∧ H a = some (.ins C dx fs) ∧ Cls K C ∧ NoAttr K C f ∧ fs.length < 1000 ∧ P (L2.upd H a (.ins C dx (putF f y fs))) := ⟨p, C, dx, fs, rfl, h, c, n, l, q _ SameX.upd (by rw [e]; exact upd_same)⟩
/-- a field is read -/
theorem fget {f : Str} {v : V} {p C dx : Addr} {fs : List (Str × V)} {P : V → Prop} (h : H p = some (.ins C dx fs)) (c : Cls K C) (n : NoAttr K C f) (e : fs.lookup f = some v) (q : P v) :
    ∃ a C dx fs v, V.ref p = .ref a ∧ H a = some (.ins C dx fs) ∧ Cls K C ∧ NoAttr K C f ∧ fs.lookup f = some v ∧ P v := ⟨p, C, dx, fs, v, rfl, h, c, n, e, q⟩
/-- tuple(seq) -/
theorem tupleOf {a : Addr} {xs : List V} (h : SeqA K H a xs) (q : ∀ l H', Same H H' → SqT K H' l xs → Q (.ref l) H') :
    rTupOf K [.ref a] H Q :=
  ⟨a, xs, rfl, h.elim (fun h => .inl ⟨h, fun l hl => q l _ (Same.new hl) (SqT.of upd_same)⟩) fun h => .inr ⟨h, q a H (Same.refl H) h⟩⟩
/-- list(seq) -/
theorem listOf {a : Addr} {xs : List V} (h : SeqA K H a xs) (q : ∀ l H', H l = none → Same H H' → H' l = some (.lst xs) → Q (.ref l) H') :
    rLstOf K [.ref a] H Q := ⟨a, xs, rfl, h, fun l hl => q l _ hl (Same.new hl) upd_same⟩
/-- new lists, new tuples, sums of lists, appends, by what stands afterwards -/
theorem newList {xs : List V} (h : xs.length ≤ 100000) (q : ∀ l H', H l = none → Same H H' → H' l = some (.lst xs) → Q (.ref l) H') : rNewL xs H Q := ⟨Nat.le_trans h (by decide), fun l hl => q l _ hl (Same.new hl) upd_same⟩
theorem newTup {xs : List V} (h : xs.length ≤ 100000) (q : ∀ l H', H l = none → Same H H' → H' l = some (.tup xs) → Q (.ref l) H') : rNewT xs H Q := ⟨Nat.le_trans h (by decide), fun l hl => q l _ hl (Same.new hl) upd_same⟩
theorem catList {a b : Addr} {xs zs : List V} (ha : H a = some (.lst xs)) (hb : H b = some (.lst zs)) (h : xs.length + zs.length ≤ 100000) (q : ∀ l H', H l = none → Same H H' → H' l = some (.lst (xs ++ zs)) → Q (.ref l) H') : rCat (.ref a) (.ref b) H Q :=
  ⟨a, b, xs, zs, rfl, rfl, ha, hb, Nat.le_trans h (by decide), fun l hl => q l _ hl (Same.new hl) upd_same⟩
theorem appList {a : Addr} {xs : List V} {y : V} (ha : H a = some (.lst xs)) (h : xs.length < 100000) (q : ∀ H', SameX a H H' → H' a = some (.lst (xs ++ [y])) → Q .non H') : rAppend (.ref a) [y] H Q := ⟨a, xs, y, rfl, rfl, ha, Nat.lt_of_lt_of_le h (by decide), q _ SameX.upd upd_same⟩
theorem isList {a : Addr} {xs : List V} (ha : H a = some (.lst xs)) : tyV K "list" (.ref a) H := .inl ⟨rfl, xs, SqL.of ha⟩
theorem ixL {a : Addr} {xs : List V} {i : Nat} (ha : H a = some (.lst xs)) (hi : xs[i]? = some v) (q : Q v H) : rIxL K (.ref a) (.int (i : Int)) H Q := ⟨a, xs, i, v, rfl, rfl, SqL.of ha, atI_nat hi, q⟩
theorem ixT {a : Addr} {xs : List V} {i : Nat} (ha : SqT K H a xs) (hi : xs[i]? = some v) (q : Q v H) : rIxT K (.ref a) (.int (i : Int)) H Q := ⟨a, xs, i, v, rfl, rfl, ha, atI_nat hi, q⟩
theorem setL {a : Addr} {xs : List V} {i : Nat} {P : Hp → Prop} (ha : H a = some (.lst xs)) (hi : i < xs.length) (q : ∀ H', SameX a H H' → H' a = some (.lst (xs.set i v)) → P H') : rSetL (.ref a) (.int (i : Int)) v H P := ⟨a, xs, i, i, rfl, rfl, ha, ixN_nat rfl hi, q _ SameX.upd upd_same⟩
theorem lenA {a : Addr} {xs : List V} (h : SeqA K H a xs) (q : Q (.int (xs.length : Int)) H) : rLenOf K [.ref a] H Q := ⟨a, xs, rfl, h, q⟩
/-- what a for asks once its turns are known -/
def forK (J : It) (g : TG) (tb : TS) (D : Ends) (σ : L2.St) (H : Hp) : Prop := ∃ W : Nat → Nat → L2.St → Hp → Prop, (∃ m, W 0 m σ H) ∧ ∀ i m σ H, W i m σ H →
  (J.stop i H ∧ D.nx σ H) ∨ (J.go i H ∧ ∃ N : L2.St → Hp → Prop, (∀ σ' H', N σ' H' → ∃ m', m' < m ∧ W (i + 1) m' σ' H') ∧ ∀ x H', J.yld i H x H' → g x σ H' fun σ2 H2 => tb { D with nx := N, ct := N, bk := D.nx } σ2 H2)
def forI (g : TG) (tb : TS) (D : Ends) (σ : L2.St) (n : Int) (H : Hp) : Prop := ∃ j : Int, [V.int n] = [.int j] ∧ -(2 ^ 62) ≤ j ∧ j < 2 ^ 62 ∧ forK (Itr 0 j.toNat) g tb D σ H
theorem x_for1 (q : ta σ H fun vs H1 => ∃ j : Int, vs = [.int j] ∧ -(2 ^ 62) ≤ j ∧ j < 2 ^ 62 ∧ forK (Itr 0 j.toNat) g ts D σ H1) : tFor (iRng1 ta) g ts D σ H := q
theorem x_forL (q : te σ H fun x H1 => ∃ a, x = .ref a ∧ (∃ xs, SqL K H1 a xs) ∧ forK (Itl K a) g ts D σ H1) : tFor (iList K te) g ts D σ H := q
theorem x_forT (q : te σ H fun x H1 => ∃ a, x = .ref a ∧ (∃ xs, SqT K H1 a xs) ∧ forK (Itt K a) g ts D σ H1) : tFor (iTup K te) g ts D σ H := q
theorem rng1 {n : Int} (h0 : -100000 ≤ n) (h1 : n ≤ 100000) (q : forK (Itr 0 n.toNat) g ts D σ H) : ∃ j : Int, [V.int n] = [.int j] ∧ -(2 ^ 62) ≤ j ∧ j < 2 ^ 62 ∧ forK (Itr 0 j.toNat) g ts D σ H := ⟨n, rfl, by omega, by omega, q⟩
theorem overL {a : Addr} {xs : List V} (h : SqL K H a xs) (q : forK (Itl K a) g ts D σ H) : ∃ b, V.ref a = .ref b ∧ (∃ xs, SqL K H b xs) ∧ forK (Itl K b) g ts D σ H := ⟨a, rfl, ⟨_, h⟩, q⟩
theorem overT {a : Addr} {xs : List V} (h : SqT K H a xs) (q : forK (Itt K a) g ts D σ H) : ∃ b, V.ref a = .ref b ∧ (∃ xs, SqT K H b xs) ∧ forK (Itt K b) g ts D σ H := ⟨a, rfl, ⟨_, h⟩, q⟩
end
/-! ### steps: more readings by their form -/
theorem pe_fldK {X : Cx} {K : PySem.W.Frag} {e : Expr} {f : Str} {pos : Pos} {ta : TE} (eK : X.K = K) (he : PE X e ta) (hb : attributeBase e f X.env (eval e X.env) = eval e X.env) : PE X (.Attribute e f pos) (tFld K ta f) := eK ▸ pe_fld he hb
section
variable {K : PySem.W.Frag} {σ : L2.St} {H : Hp} {Q : VK} {QS : L2.St → Hp → Prop} {v : V} {te tb ti : TE} {tt : TT} {D : Ends}
theorem x_gsub {to ti : TE} {t : TSet} (q : to σ H fun o H1 => ti σ H1 fun i H2 => t o i v H2 fun H3 => QS σ H3) : gSub to ti t v σ H QS := q
theorem x_int1 {P : Int → Prop} {R : Prop} {i : Int} (q : P i) : (∃ k, [V.int i] = [V.int k] ∧ P k) ∨ R := .inl ⟨i, rfl, q⟩
theorem x_exL {P : Int → Prop} {i : Int} (q : P i) : ∃ k, [V.int i] = [V.int k] ∧ P k := ⟨i, rfl, q⟩
theorem min_if (i j : Int) : (if j < i then j else i) = min i j := by rw [Int.min_def]; split <;> split <;> omega
theorem max_if (i j : Int) : (if j > i then j else i) = max i j := by rw [Int.max_def]; split <;> split <;> omega
def rMin2 : List V → Hp → VK → Prop := fun xs H Q => ∃ i j, xs = [.int i, .int j] ∧ Q (.int (min i j)) H
def rMax2 : List V → Hp → VK → Prop := fun xs H Q => ∃ i j, xs = [.int i, .int j] ∧ Q (.int (max i j)) H
def ab (x : Int) : Int := if x < 0 then -x else x
def rAbs : List V → Hp → VK → Prop := fun xs H Q => ∃ i, xs = [.int i] ∧ Q (.int (ab i)) H
theorem call_min2K {X : Cx} (hc : X.calm = true) : CallR X (.builtin "min") rMin2 := by
  intro pins s σ H xs us Q I r h
  obtain ⟨i, j, e, q⟩ := h
  exact call_min2 hc pins s σ H xs us Q I r ⟨i, j, e, by rw [min_if]; exact q⟩
theorem call_max2K {X : Cx} (hc : X.calm = true) : CallR X (.builtin "max") rMax2 := by
  intro pins s σ H xs us Q I r h
  obtain ⟨i, j, e, q⟩ := h
  exact call_max2 hc pins s σ H xs us Q I r ⟨i, j, e, by rw [max_if]; exact q⟩
theorem call_absK {X : Cx} : CallR X (.builtin "abs") rAbs := call_abs
theorem x_min2 {i j : Int} (q : Q (.int (min i j)) H) : rMin2 [.int i, .int j] H Q := ⟨i, j, rfl, q⟩
theorem x_max2 {i j : Int} (q : Q (.int (max i j)) H) : rMax2 [.int i, .int j] H Q := ⟨i, j, rfl, q⟩
theorem x_abs {i : Int} (q : Q (.int (ab i)) H) : rAbs [.int i] H Q := ⟨i, rfl, q⟩
theorem x_brTT {p q : Prop} (h : p) : brB (true && true) p q := x_brT h
theorem x_mod {i j : Int} (h : 0 < j) (q : Q (.int (i % j)) H) : rI (fun _ j => 0 < j) (fun i j => .int (i % j)) (.int i) (.int j) H Q := ⟨i, j, rfl, rfl, h, q⟩
theorem x_mulR {i j : Int} (h : -(2 ^ 64) < j ∧ j < 2 ^ 64) (q : Q (.int (i * j)) H) : rI CMul (fun i j => .int (i * j)) (.int i) (.int j) H Q := ⟨i, j, rfl, rfl, .inr h, q⟩
theorem x_mulL {i j : Int} (h : -(2 ^ 64) < i ∧ i < 2 ^ 64) (q : Q (.int (i * j)) H) : rI CMul (fun i j => .int (i * j)) (.int i) (.int j) H Q := ⟨i, j, rfl, rfl, .inl h, q⟩
theorem x_div {i j : Int} (h : 0 < j ∧ j < 1073741824) (q : Q (.int (i / j)) H) : rI CDiv (fun i j => .int (i / j)) (.int i) (.int j) H Q := ⟨i, j, rfl, rfl, h, q⟩
theorem x_divW {i j : Int} (h0 : 0 < j) (h : j < 2 ^ 62) (q : Q (.int (i / j)) H) : rI CDivW (fun i j => .int (i / j)) (.int i) (.int j) H Q := ⟨i, j, rfl, rfl, ⟨h0, Nat.lt_trans (PySem.Flt.log2_lt_of (k := 62) (by decide) (by omega)) (by decide)⟩, q⟩
theorem x_pow {i j : Int} (h : 0 ≤ j ∧ j ≤ 1000000 ∧ i.natAbs < 2 ^ 64) (q : Q (.int (i ^ j.toNat)) H) : rI CPow (fun i j => .int (i ^ j.toNat)) (.int i) (.int j) H Q := ⟨i, j, rfl, rfl, h, q⟩
theorem x_nN {P : Prop} (q : P) : V.non = V.non ∧ P := ⟨rfl, q⟩
theorem x_chain {r r' : R2} {tc : TE} (q : te σ H fun x H1 => tb σ H1 fun y H2 => r x y H2 fun z H3 => ∃ k, z = .bl k ∧ brB k (tc σ H3 fun w' H4 => r' y w' H4 Q) (Q (.bl false) H3)) : tChain r r' te tb tc σ H Q := by
  refine cast (congrArg (fun z => te σ H z) ?_) q
  funext x H1
  refine congrArg (fun z => tb σ H1 z) ?_
  funext y H2
  refine congrArg (fun z => r x y H2 z) ?_
  funext z H3
  refine congrArg Exists ?_
  funext k
  refine congrArg (fun p => z = .bl k ∧ p) ?_
  exact propext ⟨fun h => x_ite h, fun h => by cases k with
    | true => exact x_brT (by rw [if_pos rfl] at h; exact h)
    | false => exact x_brF (by rw [if_neg Bool.false_ne_true] at h; exact h)⟩
theorem x_meth {C : Addr} {m : Str} {sp : Sp} {dvs : List V} {E : XK} {ta : TE} {t : TA} (q : ta σ H fun x H1 => ∃ a dx fs, x = .ref a ∧ H1 a = some (.ins C dx fs) ∧ fs.lookup m = none ∧ t σ H1 fun vs H2 => sp (x :: (vs ++ dvs)) H2 Q E) : tMeth C m sp dvs E ta t σ H Q := q
theorem x_prop {C : Addr} {sp : Sp} {dvs : List V} {E : XK} {ta : TE} (q : ta σ H fun x H1 => ∃ a dx fs, x = .ref a ∧ H1 a = some (.ins C dx fs) ∧ sp (.ref a :: dvs) H1 Q E) : tProp C sp dvs E ta σ H Q := q
theorem x_make {C : Addr} {sp : Sp} {dvs : List V} {E : XK} {t : TA} (q : t σ H fun vs H1 => ∀ x dx, H1 x = none → H1 dx = none → dx ≠ x → sp (.ref x :: (vs ++ dvs)) (upd (upd H1 dx (.own x)) x (.ins C dx [])) (fun v H2 => v = .non ∧ Q (.ref x) H2) E) : tMake C sp dvs E t σ H Q := q
theorem x_fldaug {rd : V → V → Hp → VK → Prop} {f : Str} (q : te σ H fun x H1 => ∃ a C dx fs v, x = .ref a ∧ H1 a = some (.ins C dx fs) ∧ Cls K C ∧ NoAttr K C f ∧ fs.lookup f = some v ∧ tb σ H1 fun y H2 => rd v y H2 fun z H3 => ∃ dx' fs', H3 a = some (.ins C dx' fs') ∧ fs'.length < 1000 ∧ D.nx σ (L2.upd H3 a (.ins C dx' (putF f z fs')))) : sFldAug K te tb rd f D σ H := q
theorem x_rAdd {i j : Int} (q : Q (.int (i + j)) H) : rAdd (.int i) (.int j) H Q := ⟨i, j, rfl, rfl, q⟩
theorem x_ipI {f : Int → Int → Int} {i j : Int} (q : Q (.int (f i j)) H) : ipI f (.int i) (.int j) H Q := ⟨i, j, rfl, rfl, q⟩
theorem x_rSub {i j : Int} (q : Q (.int (i - j)) H) : rSub (.int i) (.int j) H Q := ⟨i, j, rfl, rfl, q⟩
theorem rngF {n : Int} {g : TG} {ts : TS} (h0 : -100000 ≤ n) (h1 : n ≤ 100000) (q : forK (Itr 0 n.toNat) g ts D σ H) : -(2 ^ 62) ≤ n ∧ n < 2 ^ 62 ∧ forK (Itr 0 n.toNat) g ts D σ H := ⟨by omega, by omega, q⟩
/-- a field is raised -/
theorem fraise {f : Str} {p C dx : Addr} {fs : List (Str × V)} {P : Hp → Prop} {T : V → V → Hp → VK → Prop} {tv : TE} {σ : L2.St} (h : H p = some (.ins C dx fs)) (c : Cls K C) (n : NoAttr K C f) (l : fs.length < 1000) (e : fs.lookup f = some v)
    (q : tv σ H fun y H2 => T v y H2 fun z H3 => ∃ dx' fs', H3 p = some (.ins C dx' fs') ∧ fs'.length < 1000 ∧ P (L2.upd H3 p (.ins C dx' (putF f z fs')))) :
    ∃ a C dx fs v, V.ref p = .ref a ∧ H a = some (.ins C dx fs) ∧ Cls K C ∧ NoAttr K C f ∧ fs.lookup f = some v ∧ tv σ H fun y H2 => T v y H2 fun z H3 => ∃ dx' fs', H3 a = some (.ins C dx' fs') ∧ fs'.length < 1000 ∧ P (L2.upd H3 a (.ins C dx' (putF f z fs'))) := ⟨p, C, dx, fs, v, rfl, h, c, n, e, q⟩
theorem fput {f : Str} {z : V} {p C dx : Addr} {fs fs' : List (Str × V)} {P : Hp → Prop} (h : H p = some (.ins C dx fs)) (l : fs.length < 1000) (e : putF f z fs = fs') (q : ∀ H', SameX p H H' → H' p = some (.ins C dx fs') → P H') :
    ∃ dx' fs', H p = some (.ins C dx' fs') ∧ fs'.length < 1000 ∧ P (L2.upd H p (.ins C dx' (putF f z fs'))) := ⟨dx, fs, h, l, q _ SameX.upd (by rw [e]; exact upd_same)⟩
end
/-! ### o[i] op= e, o a list -/
theorem pget_list {X : Cx} : PGet X (rIxL X.K) := by
  intro pins s σ H o i ov iv Q I ro ri h
  obtain ⟨p, xs, k, z, rfl, rfl, hq, he, q⟩ := h
  cases ro
  obtain ⟨t, rfl⟩ := ri
  obtain ⟨its, r, pl, hz⟩ := I.list hq
  obtain ⟨j, h1, h2, h3, h4, h5⟩ := atI_get he
  obtain ⟨w, ew, rw'⟩ := r.get h2
  have hl := r.length
  have hn := line63
  have fin : EP X pins σ Q w s := ⟨z, H, I, rw', q⟩
  by_cases h0 : 0 ≤ k
  · have hj : k.toNat = j := by
      rw [seqIndex_of h0 h5] at h1
      exact Option.some.inj h1
    exact wpAny_getItem_list pl.isList h0 (by omega) (by rw [hj]; simpa using ew) fin
  · have hj : (k + (its.toArray.size : Int)).toNat = j := by
      rw [seqIndex_neg (by omega) h4] at h1
      rw [List.size_toArray, ← hl]
      exact Option.some.inj h1
    exact wpAny_getItem_list_neg pl.isList (by omega) (by rw [List.size_toArray] <;> omega) (by omega) (by rw [hj]; simpa using ew) fin
theorem x_augS {to ti te : TE} {tget : V → V → Hp → VK → Prop} {tip : TIp} {tset : TSet} {D : Ends} {σ : L2.St} {H : Hp} (q : to σ H fun o H1 => ti σ H1 fun i H2 => tget o i H2 fun x H3 => te σ H3 fun y H4 => tip x y H4 fun z H5 => tset o i z H5 fun H6 => D.nx σ H6) : tAugS to ti te tget tip tset D σ H := q
theorem x_negU {i : Int} {H : Hp} {Q : VK} (q : Q (.int (-i)) H) : rU (fun i => .int (-i)) (.int i) H Q := ⟨i, rfl, q⟩
/-- for_range, by its name -/
theorem for_rangeK {lo : Int} {n : Nat} {g : TG} {ts : TS} {D : Ends} {σ : L2.St} {H : Hp} (Pv : Nat → L2.St → Hp → Prop) (h0 : Pv 0 σ H)
    (hs : ∀ i σ H, i < n → Pv i σ H → g (.int (lo + i)) σ H fun σ2 H2 => ts { D with nx := Pv (i + 1), ct := Pv (i + 1), bk := D.nx } σ2 H2) (hd : ∀ σ H, Pv n σ H → D.nx σ H) : forK (Itr lo n) g ts D σ H := for_range Pv h0 hs hd
local macro_rules
  | `(tactic| w_up) => `(tactic| with_reducible first
    | refine x_seq ?_ | refine x_asg ?_ | refine x_op ?_ | refine x_c ?_
    | refine x_v0 ?_ | refine x_v1 ?_ | refine x_v2 ?_ | refine x_v3 ?_ | refine x_v4 ?_ | refine x_v5 ?_ | refine x_v6 ?_ | refine x_v7 ?_ | refine x_v8 ?_ | refine x_v9 ?_ | refine x_v10 ?_ | refine x_v11 ?_ | refine x_v12 ?_ | refine x_v13 ?_ | refine x_v14 ?_ | refine x_v15 ?_ | refine x_v16 ?_ | refine x_v17 ?_ | refine x_v18 ?_ | refine x_v19 ?_
    | refine x_g0 ?_ | refine x_g1 ?_ | refine x_g2 ?_ | refine x_g3 ?_ | refine x_g4 ?_ | refine x_g5 ?_ | refine x_g6 ?_ | refine x_g7 ?_ | refine x_g8 ?_ | refine x_g9 ?_ | refine x_g10 ?_ | refine x_g11 ?_ | refine x_g12 ?_ | refine x_g13 ?_ | refine x_g14 ?_ | refine x_g15 ?_ | refine x_g16 ?_ | refine x_g17 ?_ | refine x_g18 ?_ | refine x_g19 ?_
    | refine x_cons ?_ | refine x_nil ?_ | refine x_I0 ?_ | refine x_exI ?_ | refine x_exB ?_ | refine x_eqI ?_ | refine x_neI ?_ | refine x_eqS ?_ | refine x_neS ?_
    | refine x_test ?_ | refine x_tB ?_ | refine x_ifS ?_ | refine x_if ?_ | refine x_and ?_ | refine x_or ?_ | refine x_not ?_ | refine x_andV ?_ | refine x_orV ?_ | refine x_notV ?_
    | refine x_ite ?_ | refine x_brT ?_ | refine x_brF ?_ | refine x_brN ?_
    | refine x_call ?_ | refine x_for1 ?_ | refine x_forL ?_ | refine x_forT ?_ | refine x_sFld ?_ | refine x_fld ?_ | refine x_cb ?_ | refine x_bm ?_ | refine x_un ?_ | refine x_sl ?_ | refine x_np ?_ | refine x_pt ?_
    | refine x_next ?_ | refine x_ret ?_ | refine x_retN ?_ | refine x_drop ?_ | refine x_brk ?_ | refine x_cont ?_ | refine x_lst ?_ | refine x_tup ?_ | dsimp only | dsimp only [List.set_cons_succ, List.set_cons_zero])
local macro_rules
  | `(tactic| o_args) => `(tactic| repeat w_up)
local macro_rules
  | `(tactic| w_up) => `(tactic| first
    | with_reducible refine x_augS ?_ | with_reducible refine x_negU ?_ | with_reducible refine x_gsub ?_ | with_reducible refine x_int1 ?_ | with_reducible refine x_exL ?_ | with_reducible refine x_min2 ?_ | with_reducible refine x_max2 ?_ | with_reducible refine x_abs ?_ | with_reducible refine x_brTT ?_
    | with_reducible refine x_mod (by decide) ?_ | with_reducible refine x_mulR ⟨by decide, by decide⟩ ?_ | with_reducible refine x_mulL ⟨by decide, by decide⟩ ?_ | with_reducible refine x_div ⟨by decide, by decide⟩ ?_
    | with_reducible refine x_pow ⟨by decide, by decide, by decide⟩ ?_
    | with_reducible refine x_nN ?_ | with_reducible refine x_chain ?_ | with_reducible refine x_meth ?_ | with_reducible refine x_prop ?_ | with_reducible refine x_make ?_ | with_reducible refine x_fldaug ?_ | with_reducible refine x_ipI ?_ | with_reducible refine x_rAdd ?_ | with_reducible refine x_rSub ?_
    | with_reducible refine brDT (by decide) ?_ | with_reducible refine brDF (by decide) ?_
    | with_reducible refine x_ixT (by assumption) (by with_unfolding_all exact rfl) ?_
    | with_reducible refine x_ixL (by assumption) (by with_unfolding_all exact rfl) ?_)
/-! ### general words -/
theorem Same.ofX {D : Addr} {H H' : Hp} (hD : H D = none) (s : SameX D H H') : Same H H' := fun b o e => s b o (ne_of_none e hD) e
theorem getq_lt {α : Type} {xs : List α} {i : Nat} {x : α} (h : xs[i]? = some x) : i < xs.length := (List.getElem?_eq_some_iff.mp h).1
theorem getq_app {α : Type} {vs : List α} {v w : α} {k : Nat} (h : (vs ++ [v])[k]? = some w) : (k < vs.length ∧ vs[k]? = some w) ∨ (k = vs.length ∧ w = v) := by
  have hk := getq_lt h
  rw [List.length_append] at hk
  have hk : k < vs.length + 1 := hk
  by_cases q : k < vs.length
  · rw [List.getElem?_append_left q] at h
    exact .inl ⟨q, h⟩
  · have e : k = vs.length := by omega
    subst e
    rw [List.getElem?_append_right (Nat.le_refl _), Nat.sub_self] at h
    exact .inr ⟨rfl, (Option.some.inj h).symm⟩
theorem none_back {p l : Addr} {H H' : Hp} (s : SameX p H H') (n : l ≠ p) (h : H' l = none) : H l = none := by
  cases q : H l with
  | none => rfl
  | some o => rw [s _ _ n q] at h; cases h
theorem none_of {H H' : Hp} {l : Addr} (s : Same H H') (h : H' l = none) : H l = none := by
  cases q : H l with
  | none => rfl
  | some o => rw [s _ _ q] at h; cases h
/-- only lists change -/
def LS (H H' : Hp) : Prop := ∀ a o, (∀ xs, o ≠ .lst xs) → H a = some o → H' a = some o
theorem LS.refl (H : Hp) : LS H H := fun _ _ _ h => h
theorem LS.trans {H H1 H2 : Hp} (x : LS H H1) (y : LS H1 H2) : LS H H2 := fun a o n h => y a o n (x a o n h)
theorem LS.of {H H' : Hp} (s : Same H H') : LS H H' := fun a o _ h => s a o h
theorem LS.ofX {H H' : Hp} {p : Addr} {xs : List V} (hp : H p = some (.lst xs)) (s : SameX p H H') : LS H H' := fun a o n h => s a o (fun e => by subst e; rw [hp] at h; cases h; exact n _ rfl) h
theorem LS.sqT {K : PySem.W.Frag} {H H' : Hp} {a : Addr} {xs : List V} (s : LS H H') (h : SqT K H a xs) : SqT K H' a xs := by
  rcases h with (h | ⟨o, h⟩) | h
  · exact .inl (.inl (s _ _ (fun _ z => nomatch z) h))
  · exact .inl (.inr ⟨o, s _ _ (fun _ z => nomatch z) h⟩)
  · exact .inr h
theorem sliceL {K : PySem.W.Frag} {H : Hp} {Q : VK} {a : Addr} {xs : List V} {lo hi : Option Int} (h : SqL K H a xs) (q : ∀ l H', H l = none → Same H H' → H' l = some (.lst (cutV xs lo hi)) → Q (.ref l) H') : rSlL K (.ref a) lo hi H Q := ⟨a, xs, rfl, h, fun l hl => q l _ hl (Same.new hl) upd_same⟩
theorem cut_to (xs : List V) (i : Nat) : cutV xs none (some (i : Int)) = xs.take i := by
  have e1 : HT.sIx xs.length 0 none = 0 := rfl
  have e2 : HT.sIx xs.length xs.length (some (i : Int)) = min i xs.length := by
    unfold HT.sIx
    simp
    intro h
    omega
  unfold cutV
  rw [e1, e2, List.drop_zero, Nat.sub_zero, List.take_eq_take_iff]
  omega
theorem cut_from (xs : List V) (i : Nat) : cutV xs (some (i : Int)) none = xs.drop i := by
  have e1 : HT.sIx xs.length xs.length none = xs.length := rfl
  have e2 : HT.sIx xs.length 0 (some (i : Int)) = min i xs.length := HT.sIx_nat _ _ _
  unfold cutV
  rw [e1, e2]
  by_cases h : i ≤ xs.length
  · rw [Nat.min_eq_left h, List.take_of_length_le (by rw [List.length_drop]; exact Nat.le_refl _)]
  · rw [Nat.min_eq_right (by omega), Nat.sub_self, List.take_zero, List.drop_of_length_le (by omega)]
theorem dp_ints {K : PySem.W.Frag} {H : Hp} : ∀ ns : List Int, DpAll K H (ns.map V.int) (ns.map PyData.int)
  | [] => .nil
  | n :: r => .cons (.int n) (dp_ints r)
theorem lay_all : ∀ ns : List Int, PyData.canLayAll0 (ns.map PyData.int) = true ∧ PyData.depthAll (ns.map PyData.int) = 0
  | [] => ⟨by simp only [List.map_nil, PyData.canLayAll0], by simp only [List.map_nil, PyData.depthAll]⟩
  | n :: r => by
    obtain ⟨h1, h2⟩ := lay_all r
    exact ⟨by simp only [List.map_cons, PyData.canLayAll0, PyData.canLay0, h1, Bool.and_self], by simp only [List.map_cons, PyData.depthAll, PyData.depth, h2, Nat.max_self]⟩
theorem lay_ints (ns : List Int) : PySem.SeqAt.shaped (.list (ns.map PyData.int)) = true := by
  obtain ⟨h1, h2⟩ := lay_all ns
  unfold PySem.SeqAt.shaped
  simp only [PyData.canLay0, PyData.depth, h1, h2]
  decide
theorem eqv_all : ∀ xs ys : List Int, PyData.eqvAll (xs.map PyData.int) (ys.map PyData.int) = decide (xs = ys)
  | [], [] => by simp [PyData.eqvAll]
  | [], y :: ys => by simp [PyData.eqvAll]
  | x :: xs, [] => by simp [PyData.eqvAll]
  | x :: xs, y :: ys => by
    have e := eqv_all xs ys
    simp only [List.map_cons, PyData.eqvAll, e, PyData.eqv]
    by_cases h : x = y <;> by_cases g : xs = ys <;> simp [h, g]
theorem eqv_ints (xs ys : List Int) : PyData.eqv (.list (xs.map PyData.int)) (.list (ys.map PyData.int)) = decide (xs = ys) := by
  simp only [PyData.eqv]
  exact eqv_all xs ys
/-- two lists of ints compared -/
theorem eqLL {K : PySem.W.Frag} {H : Hp} {Q : VK} {a b : Addr} {xs ys : List Int} (ha : SqL K H a (xs.map V.int)) (hb : SqL K H b (ys.map V.int)) (q : Q (.bl (decide (xs = ys))) H) : rEqD K (.ref a) (.ref b) H Q :=
  ⟨_, _, .lst ha (dp_ints xs), .lst hb (dp_ints ys), lay_ints xs, lay_ints ys, by rw [eqv_ints]; exact q⟩
theorem neLL {K : PySem.W.Frag} {H : Hp} {Q : VK} {a b : Addr} {xs ys : List Int} (ha : SqL K H a (xs.map V.int)) (hb : SqL K H b (ys.map V.int)) (q : Q (.bl (!decide (xs = ys))) H) : rNeD K (.ref a) (.ref b) H Q :=
  ⟨_, _, .lst ha (dp_ints xs), .lst hb (dp_ints ys), lay_ints xs, lay_ints ys, by rw [eqv_ints]; exact q⟩
/-- a comprehension over a list of ints, filtered, its items ints -/
theorem lc_ints {K : PySem.W.Frag} {a : Addr} {ns : List Int} {te tel : TE} {tt : TT} {σ : L2.St} {H : Hp} {Q : VK} {j : Nat} (p : Int → Bool) (f : Int → Int) (hte : ∀ R' : VK, R' (.ref a) H → te σ H R') (hS : SqL K H a (ns.map V.int)) (hz : ns.length < 100000)
    (ht : ∀ x ∈ ns, ∀ H', Same H H' → ∀ Qt : Bool → Hp → Prop, Qt (p x) H' → tt ((σ.set j none).set j (some (.int x))) H' Qt)
    (he : ∀ x ∈ ns, p x = true → ∀ H', Same H H' → ∀ Qe : VK, Qe (.int (f x)) H' → tel ((σ.set j none).set j (some (.int x))) H' Qe)
    (hd : ∀ D H', H D = none → Same H H' → H' D = some (.lst (((ns.filter p).map f).map V.int)) → Q (.ref D) H') : tLc (iList K te) (gName j) tt tel [j] σ H Q := by
  refine hte _ ⟨a, rfl, ⟨_, hS⟩, fun D hD => lc_list (K := K) (a := a) (xs := ns.map V.int) (fun i H' => H' D = some (.lst ((((ns.take i).filter p).map f).map V.int)) ∧ SameX D H H') ⟨upd_same, SameX.upd⟩ (fun i H' _ h => (Same.ofX hD h.2).seq hS) ?_ ?_⟩
  · rintro i x H' hi ⟨h1, h2⟩
    rw [List.getElem?_map] at hi
    cases e : ns[i]? with
    | none => rw [e] at hi; cases hi
    | some u =>
      rw [e] at hi
      cases hi
      have hil := getq_lt e
      have mem : u ∈ ns := List.mem_of_getElem? e
      refine ⟨?_, ?_⟩
      · show ((((σ.set j none).set j (some (.int u))).set j none) = σ.set j none)
        rw [List.set_set, List.set_set]
      have e2 : ns.take (i + 1) = ns.take i ++ [u] := by
        rw [List.take_succ, e]
        rfl
      refine ht u mem H' (Same.ofX hD h2) _ ?_
      cases hp : p u with
      | false =>
        rw [if_neg Bool.false_ne_true]
        refine ⟨?_, h2⟩
        rw [e2, List.filter_append]
        simp only [List.filter, hp, List.append_nil]
        exact h1
      | true =>
        rw [if_pos rfl]
        refine he u mem hp H' (Same.ofX hD h2) _ ⟨_, h1, ?_, ?_, h2.upd'⟩
        · rw [List.length_map, List.length_map]
          have := List.length_filter_le p (ns.take i)
          rw [List.length_take] at this
          exact Nat.lt_of_lt_of_le (show _ < 100000 by omega) (by decide)
        · rw [e2, List.filter_append]
          simp only [List.filter, hp, List.map_append, List.map_cons, List.map_nil]
          exact upd_same
  · rintro H' ⟨h1, h2⟩
    rw [List.length_map, List.take_length] at h1
    exact hd D H' hD (Same.ofX hD h2) h1
/-- a comprehension over a list, its items new -/
theorem lc_lstN {K : PySem.W.Frag} {a : Addr} {xs : List V} {te tel : TE} {σ : L2.St} {H : Hp} {Q : VK} {j : Nat} (P : Nat → List V → Hp → Prop) (hte : ∀ R' : VK, R' (.ref a) H → te σ H R') (hS : SqL K H a xs) (hz : xs.length < 100000) (h0 : ∀ H', Same H H' → P 0 [] H')
    (hm : ∀ i vs H1 H2, Same H1 H2 → P i vs H1 → P i vs H2) (hw : ∀ D H1 H2 i vs, H D = none → SameX D H1 H2 → Same H H1 → (∃ acc, H1 D = some (.lst acc)) → P i vs H1 → P i vs H2)
    (hs : ∀ D i x vs H', xs[i]? = some x → Same H H' → P i vs H' → vs.length = i → H D = none → (∃ o, H' D = some o) → ∀ Qe : VK, (∀ v H'', Same H' H'' → P (i + 1) (vs ++ [v]) H'' → Qe v H'') → tel ((σ.set j none).set j (some x)) H' Qe)
    (hd : ∀ D vs H', H D = none → vs.length = xs.length → P xs.length vs H' → H' D = some (.lst vs) → Same H H' → Q (.ref D) H') : tLc (iList K te) (gName j) tYes tel [j] σ H Q := by
  refine hte _ ⟨a, rfl, ⟨_, hS⟩, fun D hD => lc_list (K := K) (a := a) (xs := xs) (fun i H' => ∃ vs : List V, vs.length = i ∧ P i vs H' ∧ H' D = some (.lst vs) ∧ SameX D H H') ⟨[], rfl, h0 _ (Same.new hD), upd_same, SameX.upd⟩ (fun i H' _ ⟨_, _, _, _, h⟩ => (Same.ofX hD h).seq hS) ?_ ?_⟩
  · rintro i x H' hi ⟨vs, hl, hr, h1, h2⟩
    refine ⟨?_, ?_⟩
    · show ((((σ.set j none).set j (some x)).set j none) = σ.set j none)
      rw [List.set_set, List.set_set]
    dsimp only [tYes]
    rw [if_pos rfl]
    have S0 := Same.ofX hD h2
    refine hs D i x vs H' hi S0 hr hl hD ⟨_, h1⟩ _ fun v H'' s2 r => ⟨vs, s2 _ _ h1, ?_, vs ++ [v], ?_, hw D H'' _ _ _ hD SameX.upd (S0.trans s2) ⟨vs, s2 _ _ h1⟩ r, upd_same, (h2.trans (SameX.of s2)).upd'⟩
    · have := getq_lt hi
      exact Nat.lt_of_lt_of_le (show vs.length < 100000 by omega) (by decide)
    · rw [List.length_append, hl]; rfl
  · rintro H' ⟨vs, hl, hr, h1, h2⟩
    exact hd D vs H' hD hl hr h1 (Same.ofX hD h2)
theorem all_rep (n : Nat) : (List.replicate n true).all id = true := by simp
theorem Same.ofX2 {H H1 H2 : Hp} {l : Addr} (hl : H l = none) (s1 : Same H H1) (s2 : SameX l H1 H2) : Same H H2 := fun b o e => s2 b o (ne_of_none e hl) (s1 b o e)
/-! ### own errors -/
abbrev sp_InvalidNumber_init_ (K : PySem.W.Frag) : Sp := sp_xinit K "number"
theorem ok_InvalidNumber_init_ (T : Txt K mg) : FnOk P w K mg base CX0 1 T.a_InvalidNumber_init_ T.fd_InvalidNumber_init_ ["self", "number"] (sp_InvalidNumber_init_ K) := by
  have S := sc_InvalidNumber_init_
  refine T.F_InvalidNumber_init_.ok S (fun vs H Q E h => ?_) (fun cdv A outer s H vs Q E hr h => ?_)
  · obtain ⟨a, C, v, rfl, _⟩ := h
    rfl
  · obtain ⟨a, C, v, rfl, O, hn, ha, k⟩ := h
    refine ⟨_, (pss_one (ps_ost (pv 0) (pv 1))), ?_⟩
    exact ⟨_, rfl, _, rfl, a, C, rfl, O, hn, .inl ⟨ha, k⟩⟩
abbrev sp_InvalidSetting_init_ (K : PySem.W.Frag) : Sp := sp_xinit K "setting"
theorem ok_InvalidSetting_init_ (T : Txt K mg) : FnOk P w K mg base CX0 1 T.a_InvalidSetting_init_ T.fd_InvalidSetting_init_ ["self", "setting"] (sp_InvalidSetting_init_ K) := by
  have S := sc_InvalidSetting_init_
  refine T.F_InvalidSetting_init_.ok S (fun vs H Q E h => ?_) (fun cdv A outer s H vs Q E hr h => ?_)
  · obtain ⟨a, C, v, rfl, _⟩ := h
    rfl
  · obtain ⟨a, C, v, rfl, O, hn, ha, k⟩ := h
    refine ⟨_, (pss_one (ps_ost (pv 0) (pv 1))), ?_⟩
    exact ⟨_, rfl, _, rfl, a, C, rfl, O, hn, .inl ⟨ha, k⟩⟩
/-- an error of the class at C with the one field f -/
def Err (C : Addr) (f : Str) (v : V) (H : Hp) (E : XK) : Prop := ∀ d H', Same H H' → H' d = some (.xd [(f, v)]) → E (.ref C) (some d) H'
/-- x lies not in lo .. hi -/
def Out (K : PySem.W.Frag) (H : Hp) (x : V) (lo hi : Int) : Prop := ∃ o, Kd K H x o ∧ inR lo hi o = false
theorem Out.same {K : PySem.W.Frag} {H H' : Hp} {x : V} {lo hi : Int} (h : Out K H x lo hi) (s : Same H H') : Out K H' x lo hi := h.elim fun o h => ⟨o, h.1.same s, h.2⟩
theorem Out.typ {K : PySem.W.Frag} {H H' : Hp} {x : V} {lo hi : Int} (h : Out K H x lo hi) (s : Typ H H') : Out K H' x lo hi := h.elim fun o h => ⟨o, h.1.typ s, h.2⟩
theorem Out.int {K : PySem.W.Frag} {H : Hp} {n lo hi : Int} (h : n < lo ∨ hi < n) : Out K H (.int n) lo hi := ⟨some n, rfl, by
  show (decide (lo ≤ n) && decide (n ≤ hi)) = false
  rcases h with h | h
  · rw [decide_eq_false (show ¬ lo ≤ n by omega)]; rfl
  · rw [decide_eq_false (show ¬ n ≤ hi by omega), Bool.and_false]⟩
theorem Out.odd {K : PySem.W.Frag} {H : Hp} {x : V} {lo hi : Int} (h : IntK K H x false) : Out K H x lo hi := ⟨none, h, rfl⟩
theorem out_between {K : PySem.W.Frag} {H : Hp} {Q : VK} {x : V} {lo hi : Int} {E : XK} (h : Out K H x lo hi) (q : Q (.bl false) H) : sp_is_between K [x, .int lo, .int hi] H Q E := by
  obtain ⟨o, h1, h2⟩ := h
  cases o with
  | none => exact ⟨x, lo, hi, rfl, .inr ⟨h1, q⟩⟩
  | some n => exact ⟨x, lo, hi, rfl, .inl ⟨n, h1, by rw [show (decide (lo ≤ n) && decide (n ≤ hi)) = false from h2]; exact q⟩⟩
theorem in_between {K : PySem.W.Frag} {H : Hp} {Q : VK} {n lo hi : Int} {E : XK} (h1 : lo ≤ n) (h2 : n ≤ hi) (q : Q (.bl true) H) : sp_is_between K [.int n, .int lo, .int hi] H Q E :=
  ⟨.int n, lo, hi, rfl, .inl ⟨n, rfl, by rw [decide_eq_true h1, decide_eq_true h2]; exact q⟩⟩
/-- x is no count -/
def Less (K : PySem.W.Frag) (H : Hp) (x : V) (lo : Int) : Prop := (∃ n, x = .int n ∧ n < lo) ∨ IntK K H x false
theorem Less.same {K : PySem.W.Frag} {H H' : Hp} {x : V} {lo : Int} (h : Less K H x lo) (s : Same H H') : Less K H' x lo := h.elim .inl fun h => .inr (h.same s)
/-- menus of a try: what is caught, and what e is -/
theorem errX {K : PySem.W.Frag} {a D dd : Addr} {fs : List (Str × V)} {c : V} {cv : Value} {b : Bool} {H : Hp} {Q : VK} (hcv : ∀ u, RelV c u → u = cv) (ec : ExcC K D) (hd : H dd = some (.xd fs)) (hk : PySem.W.kitOne K (.ref D) cv = some b) (q : Q (.bl b) H) : rIsX K a (.ref D) (some dd) [.ref a, c] H Q := ⟨c, cv, b, D, dd, fs, rfl, hcv, rfl, ec, rfl, hd, hk, q⟩
theorem errF {K : PySem.W.Frag} {a C dd : Addr} {f : Str} {fs : List (Str × V)} {v : V} {H : Hp} {P : V → Prop} (T : XfC K C) (hn : PySem.W.findIn K (.ref C) f = some none) (hd : H dd = some (.xd fs)) (e : fs.lookup f = some v) (q : P v) :
    V.ref a = V.ref a ∧ ∃ (C' dd' : Addr) (fs : List (Str × V)) (v : V), Value.ref C = .ref C' ∧ XfC K C' ∧ PySem.W.findIn K (.ref C') f = some none ∧ some dd = some dd' ∧ H dd' = some (.xd fs) ∧ fs.lookup f = some v ∧ P v := ⟨rfl, C, dd, fs, v, rfl, T, hn, rfl, hd, e, q⟩
section
variable {K : PySem.W.Frag} {σ : L2.St} {H : Hp} {Q : VK} {v : V} {te : TE} {D : Ends} {i : Nat}
theorem x_xg {a : Addr} {cls : Value} {d : Option Addr} {f : Str} (q : te σ H fun x H1 => x = .ref a ∧ ∃ (C dd : Addr) (fs : List (Str × V)) (v : V), cls = .ref C ∧ XfC K C ∧ PySem.W.findIn K (.ref C) f = some none ∧ d = some dd ∧ H1 dd = some (.xd fs) ∧ fs.lookup f = some v ∧ Q v H1) : tXg K a cls d f te σ H Q := q
theorem x_clgo {a : Addr} {ts : TS} (q : ts (unN D i) (σ.set i (some (.ref a))) H) : clGo D (some i) ts a σ H := q
theorem x_methX {C : Addr} {m : Str} {sp : Sp} {E : L2.St → XK} {ta : TE} {t : TA} (q : ta σ H fun x H1 => ∃ a dx fs, x = .ref a ∧ H1 a = some (.ins C dx fs) ∧ fs.lookup m = none ∧ t σ H1 fun vs H2 => sp (x :: vs) H2 Q (E σ)) : tMethX C m sp E ta t σ H Q := q
theorem x_unrt (q : D.rt v H) : (unN D i).rt v H := q
theorem x_unnx (q : D.nx (σ.set i none) H) : (unN D i).nx σ H := q
end
theorem len2 {α : Type} {l : List α} (h : l.length = 2) : ∃ a b, l = [a, b] := by
  match l, h with
  | [a, b], _ => exact ⟨a, b, rfl⟩
theorem len4 {α : Type} {l : List α} (h : l.length = 4) : ∃ a b c d, l = [a, b, c, d] := by
  match l, h with
  | [a, b, c, d], _ => exact ⟨a, b, c, d, rfl⟩
local macro_rules
  | `(tactic| w_up) => `(tactic| first | with_reducible refine x_clgo ?_ | with_reducible refine x_methX ?_ | with_reducible refine x_xg ?_ | with_reducible refine x_unrt ?_ | with_reducible refine x_unnx ?_)
/-! ### is it a sequence -/
def sp_is_sequence (K : PySem.W.Frag) : Sp := fun vs H Q _ => ∃ (x : V) (r : Bool), vs = [x] ∧ SeqK K H x r ∧ ∀ H', Same H H' → Q (.bl r) H'
theorem ok_is_sequence (T : Txt K mg) : FnOk P w K mg base CX0 1 T.a_is_sequence T.fd_is_sequence ["value"] (sp_is_sequence K) := by
  have S := sc_is_sequence
  refine T.F_is_sequence.ok S (fun vs H Q E h => ?_) (fun cdv A outer s H vs Q E hr h => ?_)
  · obtain ⟨x, r, rfl, _⟩ := h
    rfl
  · obtain ⟨x, r, rfl, ⟨t, ty, hk⟩, k⟩ := h
    refine ⟨_, (pss_one (ps_ret (pe_callB (id := "isinstance") call_isiT (by rfl) T.b_isinstance (by decide +kernel) (pa_cons (pv 0) (pa_cons (pe_tup (pa_cons (pe_bltn (v := .ty "list") (u := .type "list") (by rfl) T.b_list (by decide +kernel) rfl) (pa_cons (pe_bltn (v := .ty "tuple") (u := .type "tuple") (by rfl) T.b_tuple (by decide +kernel) rfl) pa_nil))) pa_nil))))), ?_⟩
    refine ⟨_, rfl, (by show 2 ≤ sizeLine; decide), fun tp htp => ?_⟩
    exact ⟨_, tp, _, t, [.type "list", .type "tuple"], r, rfl, upd_same, .cons (.ty _) (.cons (.ty _) .nil), tyX_same ty (Same.new htp), hk, k _ (Same.new htp)⟩
/-! ### comprehensions, any -/
theorem lcG {K : PySem.W.Frag} {a : Addr} {xs : List V} {te tel : TE} {tt : TT} {σ : L2.St} {H : Hp} {Q : VK} {j : Nat} (P : Addr → Nat → List V → Hp → Prop) (hte : ∀ R' : VK, R' (.ref a) H → te σ H R') (hS : SqL K H a xs) (hz : xs.length < 100000)
    (h0 : ∀ D, H D = none → P D 0 [] (upd H D (.lst []))) (hsq : ∀ D i vs H', H D = none → P D i vs H' → SqL K H' a xs)
    (hs : ∀ D i x vs H', H D = none → xs[i]? = some x → vs.length ≤ i → H' D = some (.lst vs) → P D i vs H' → ∀ (Y : VK) (N : Hp → Prop), (∀ v H3, H3 D = some (.lst vs) → P D (i + 1) (vs ++ [v]) (upd H3 D (.lst (vs ++ [v]))) → Y v H3) → (∀ H3, H3 D = some (.lst vs) → P D (i + 1) vs H3 → N H3) →
      tt ((σ.set j none).set j (some x)) H' fun b H2 => if b = true then tel ((σ.set j none).set j (some x)) H2 Y else N H2)
    (hd : ∀ D vs H', H D = none → H' D = some (.lst vs) → vs.length ≤ xs.length → P D xs.length vs H' → Q (.ref D) H') : tLc (iList K te) (gName j) tt tel [j] σ H Q := by
  refine hte _ ⟨a, rfl, ⟨_, hS⟩, fun D hD => lc_list (K := K) (a := a) (xs := xs) (fun i H' => ∃ vs : List V, vs.length ≤ i ∧ P D i vs H' ∧ H' D = some (.lst vs)) ⟨[], Nat.le_refl _, h0 D hD, upd_same⟩ (fun i H' _ ⟨vs, _, h, _⟩ => hsq D i vs H' hD h) ?_ ?_⟩
  · rintro i x H' hi ⟨vs, hl, hp, h1⟩
    have il := (List.getElem?_eq_some_iff.mp hi).1
    refine ⟨?_, ?_⟩
    · show ((((σ.set j none).set j (some x)).set j none) = σ.set j none)
      rw [List.set_set, List.set_set]
    refine hs D i x vs H' hD hi hl h1 hp _ _ (fun v H3 e p => ⟨vs, e, Nat.lt_of_lt_of_le (show vs.length < 100000 by omega) (by decide), vs ++ [v], ?_, p, upd_same⟩) (fun H3 e p => ⟨vs, by omega, p, e⟩)
    rw [List.length_append]
    exact Nat.succ_le_succ hl
  · rintro H' ⟨vs, hl, hp, h1⟩
    exact hd D vs H' hD h1 hl hp
theorem lcGT {K : PySem.W.Frag} {a : Addr} {xs : List V} {te tel : TE} {tt : TT} {σ : L2.St} {H : Hp} {Q : VK} {j : Nat} (P : Addr → Nat → List V → Hp → Prop) (hte : ∀ R' : VK, R' (.ref a) H → te σ H R') (hS : SqT K H a xs) (hz : xs.length < 100000)
    (h0 : ∀ D, H D = none → P D 0 [] (upd H D (.lst []))) (hsq : ∀ D i vs H', H D = none → P D i vs H' → SqT K H' a xs)
    (hs : ∀ D i x vs H', H D = none → xs[i]? = some x → vs.length ≤ i → H' D = some (.lst vs) → P D i vs H' → ∀ (Y : VK) (N : Hp → Prop), (∀ v H3, H3 D = some (.lst vs) → P D (i + 1) (vs ++ [v]) (upd H3 D (.lst (vs ++ [v]))) → Y v H3) → (∀ H3, H3 D = some (.lst vs) → P D (i + 1) vs H3 → N H3) →
      tt ((σ.set j none).set j (some x)) H' fun b H2 => if b = true then tel ((σ.set j none).set j (some x)) H2 Y else N H2)
    (hd : ∀ D vs H', H D = none → H' D = some (.lst vs) → vs.length ≤ xs.length → P D xs.length vs H' → Q (.ref D) H') : tLc (iTup K te) (gName j) tt tel [j] σ H Q := by
  refine hte _ ⟨a, rfl, ⟨_, hS⟩, fun D hD => lc_tup (K := K) (a := a) (xs := xs) (fun i H' => ∃ vs : List V, vs.length ≤ i ∧ P D i vs H' ∧ H' D = some (.lst vs)) ⟨[], Nat.le_refl _, h0 D hD, upd_same⟩ (fun i H' _ ⟨vs, _, h, _⟩ => hsq D i vs H' hD h) ?_ ?_⟩
  · rintro i x H' hi ⟨vs, hl, hp, h1⟩
    have il := (List.getElem?_eq_some_iff.mp hi).1
    refine ⟨?_, ?_⟩
    · show ((((σ.set j none).set j (some x)).set j none) = σ.set j none)
      rw [List.set_set, List.set_set]
    refine hs D i x vs H' hD hi hl h1 hp _ _ (fun v H3 e p => ⟨vs, e, Nat.lt_of_lt_of_le (show vs.length < 100000 by omega) (by decide), vs ++ [v], ?_, p, upd_same⟩) (fun H3 e p => ⟨vs, by omega, p, e⟩)
    rw [List.length_append]
    exact Nat.succ_le_succ hl
  · rintro H' ⟨vs, hl, hp, h1⟩
    exact hd D vs H' hD h1 hl hp
/-! ### a list or a tuple, walked and read -/
def iOr (w1 w2 : TI) : TI := fun σ H R => w1 σ H R ∨ w2 σ H R
theorem pi_seqA {X : Cx} {tg e : Expr} {te : TE} (he : PE X e te) : PI X tg e (iOr (iList X.K te) (iTup X.K te)) := ⟨fun pins s σ H R I h => h.elim ((pi_list he).run pins s σ H R I) ((pi_tup he).run pins s σ H R I)⟩
theorem ix_seqA {K : PySem.W.Frag} {H : Hp} {Q : VK} {a : Addr} {xs : List V} {i : Int} {v : V} (h : SeqA K H a xs) (hi : atI xs i = some v) (q : Q v H) : rIx K (.ref a) (.int i) H Q :=
  h.elim (fun h => .inl ⟨_, _, _, _, rfl, rfl, h, hi, q⟩) (fun h => .inr (.inl ⟨_, _, _, _, rfl, rfl, h, hi, q⟩))
theorem sqT_at {K : PySem.W.Frag} {H H' : Hp} {a : Addr} {xs : List V} (h : SqT K H a xs) (k : ∀ o, H a = some o → H' a = some o) : SqT K H' a xs := by
  rcases h with (h | ⟨o, h⟩) | h
  · exact .inl (.inl (k _ h))
  · exact .inl (.inr ⟨o, k _ h⟩)
  · exact .inr h
theorem sqL_at {K : PySem.W.Frag} {H H' : Hp} {a : Addr} {xs : List V} (h : SqL K H a xs) (k : ∀ o, H a = some o → H' a = some o) : SqL K H' a xs := by
  rcases h with (h | ⟨o, h⟩) | h
  · exact .inl (.inl (k _ h))
  · exact .inl (.inr ⟨o, k _ h⟩)
  · exact .inr h
theorem lcGA {K : PySem.W.Frag} {a : Addr} {xs : List V} {te tel : TE} {tt : TT} {σ : L2.St} {H : Hp} {Q : VK} {j : Nat} (P : Addr → Nat → List V → Hp → Prop) (hte : ∀ R' : VK, R' (.ref a) H → te σ H R') (hS : SeqA K H a xs) (hz : xs.length < 100000)
    (h0 : ∀ D, H D = none → P D 0 [] (upd H D (.lst []))) (hk : ∀ D i vs H', H D = none → P D i vs H' → ∀ o, H a = some o → H' a = some o)
    (hs : ∀ D i x vs H', H D = none → xs[i]? = some x → vs.length ≤ i → H' D = some (.lst vs) → P D i vs H' → ∀ (Y : VK) (N : Hp → Prop), (∀ v H3, H3 D = some (.lst vs) → P D (i + 1) (vs ++ [v]) (upd H3 D (.lst (vs ++ [v]))) → Y v H3) → (∀ H3, H3 D = some (.lst vs) → P D (i + 1) vs H3 → N H3) →
      tt ((σ.set j none).set j (some x)) H' fun b H2 => if b = true then tel ((σ.set j none).set j (some x)) H2 Y else N H2)
    (hd : ∀ D vs H', H D = none → H' D = some (.lst vs) → vs.length ≤ xs.length → P D xs.length vs H' → Q (.ref D) H') : tLc (iOr (iList K te) (iTup K te)) (gName j) tt tel [j] σ H Q :=
  hS.elim (fun h => .inl (lcG P hte h hz h0 (fun D i vs H' hD p => sqL_at h (hk D i vs H' hD p)) hs hd)) fun h => .inr (lcGT P hte h hz h0 (fun D i vs H' hD p => sqT_at h (hk D i vs H' hD p)) hs hd)
/-! ### frames: all but what is named stands, nothing goes -/
def Ch (G : List Addr) (H H' : Hp) : Prop := (∀ b o, b ∉ G → H b = some o → H' b = some o) ∧ ∀ b, H b ≠ none → H' b ≠ none
def Al (F : List Addr) (H : Hp) : Prop := ∀ x ∈ F, H x ≠ none
section
variable {G F : List Addr} {H H1 H2 : Hp} {a l : Addr} {o : HO}
theorem Ch.refl : Ch G H H := ⟨fun _ _ _ h => h, fun _ h => h⟩
theorem Ch.trans (x : Ch G H H1) (y : Ch G H1 H2) : Ch G H H2 := ⟨fun b o n h => y.1 b o n (x.1 b o n h), fun b h => y.2 b (x.2 b h)⟩
theorem Ch.of (s : Same H H1) : Ch G H H1 := ⟨fun b o _ h => s b o h, fun b h => by
  cases q : H b with
  | none => exact absurd q h
  | some o => rw [s _ _ q]; exact fun z => nomatch z⟩
theorem Ch.ofX (h : a ∈ G) (s : SameX a H H1) (e : H1 a = some o) : Ch G H H1 := ⟨fun b o n q => s b o (fun z => n (z ▸ h)) q, fun b q => by
  by_cases z : b = a
  · rw [z, e]; exact fun z => nomatch z
  · cases q' : H b with
    | none => exact absurd q' q
    | some o => rw [s _ _ z q']; exact fun z => nomatch z⟩
theorem Ch.more (x : Ch G H H1) (h : ∀ b ∈ G, b ∈ F) : Ch F H H1 := ⟨fun b o n q => x.1 b o (fun z => n (h b z)) q, x.2⟩
/-- what is new may change -/
theorem Ch.drop (x : Ch (l :: G) H H1) (h : H l = none) : Ch G H H1 := ⟨fun b o n q => x.1 b o (fun z => by
  rcases List.mem_cons.mp z with z | z
  · rw [z, h] at q; cases q
  · exact n z) q, x.2⟩
theorem Ch.same (x : Ch [] H H1) : Same H H1 := fun b o h => x.1 b o (fun z => nomatch z) h
theorem Ch.sameX (x : Ch [a] H H1) : SameX a H H1 := fun b o n h => x.1 b o (fun z => n (List.mem_singleton.mp z)) h
theorem Ch.at (x : Ch G H H1) (n : a ∉ G) (h : H a = some o) : H1 a = some o := x.1 a o n h
theorem Ch.none (x : Ch G H H1) (h : H1 a = none) : H a = none := by
  cases q : H a with
  | none => rfl
  | some o => exact absurd h (x.2 a (by rw [q]; exact fun z => nomatch z))
theorem Al.ch (A : Al F H) (x : Ch G H H1) : Al F H1 := fun b h => x.2 b (A b h)
theorem Al.same (A : Al F H) (x : Same H H1) : Al F H1 := A.ch (Ch.of (G := []) x)
theorem Al.nil : Al [] H := fun _ h => nomatch h
theorem Al.cons (h : H a = some o) (A : Al F H) : Al (a :: F) H := fun b hb => by
  rcases List.mem_cons.mp hb with e | hb
  · rw [e, h]; exact fun z => nomatch z
  · exact A b hb
theorem Al.less (A : Al F H) (h : ∀ b ∈ G, b ∈ F) : Al G H := fun b q => A b (h b q)
theorem Al.new (A : Al F H) (h : H l = none) : l ∉ F := fun z => A l z h
theorem Al.one (h : H a = some o) : Al [a] H := .cons h .nil
end
/-! ### a box of five, drawn from -/
def Box (a : Addr) (F : List Addr) (H : Hp) : Prop := ∃ (c : Addr) (cs : List Int) (p r s n : Int), H a = some (.lst [.ref c, .int p, .int r, .int s, .int n]) ∧ H c = some (.lst (cs.map V.int)) ∧ a ∉ F ∧ c ∉ F ∧ 0 ≤ p ∧ 0 ≤ r
section
variable {a l : Addr} {F G : List Addr} {H H' : Hp}
theorem Box.ch (B : Box a F H) (x : Ch G H H') (h : ∀ b ∈ G, b ∈ F) : Box a F H' := by
  obtain ⟨c, cs, p, r, s, n, h1, h2, h3, h4, h5, h6⟩ := B
  exact ⟨c, cs, p, r, s, n, x.at (fun z => h3 (h _ z)) h1, x.at (fun z => h4 (h _ z)) h2, h3, h4, h5, h6⟩
theorem Box.same (B : Box a F H) (s : Same H H') : Box a F H' := B.ch (Ch.of (G := []) s) (fun _ h => nomatch h)
theorem Box.own (B : Box a F H) (hl : H l = none) (s : Same H H') : Box a (l :: F) H' := by
  obtain ⟨c, cs, p, r, z, n, h1, h2, h3, h4, h5, h6⟩ := B
  refine ⟨c, cs, p, r, z, n, s _ _ h1, s _ _ h2, fun q => ?_, fun q => ?_, h5, h6⟩
  · rcases List.mem_cons.mp q with q | q
    · rw [q, hl] at h1; cases h1
    · exact h3 q
  · rcases List.mem_cons.mp q with q | q
    · rw [q, hl] at h2; cases h2
    · exact h4 q
theorem Box.less (B : Box a F H) (h : ∀ b ∈ G, b ∈ F) : Box a G H := by
  obtain ⟨c, cs, p, r, z, n, h1, h2, h3, h4, h5, h6⟩ := B
  exact ⟨c, cs, p, r, z, n, h1, h2, fun q => h3 (h _ q), fun q => h4 (h _ q), h5, h6⟩
theorem Box.al (B : Box a F H) : ∃ o, H a = some o := by
  obtain ⟨c, cs, p, r, z, n, h1, _⟩ := B
  exact ⟨_, h1⟩
theorem Box.nin (B : Box a F H) : a ∉ F := by
  obtain ⟨c, cs, p, r, z, n, _, _, h, _⟩ := B
  exact h
end
def sp__law_box (K : PySem.W.Frag) : Sp := fun vs H Q _ => ∃ (a : Addr) (ns : List Int), vs = [.ref a] ∧ SqL K H a (ns.map V.int) ∧ ∀ b H', H b = none → Same H H' → (∀ F, Al F H → Box b F H') → Q (.ref b) H'
theorem ok__law_box (T : Txt K mg) : FnOk P w K mg base CX0 1 T.a__law_box T.fd__law_box ["script"] (sp__law_box K) := by
  have S := sc__law_box
  refine T.F__law_box.ok S (fun vs H Q E h => ?_) (fun cdv A outer s H vs Q E hr h => ?_)
  · obtain ⟨a, ns, rfl, _⟩ := h
    rfl
  · obtain ⟨a, ns, rfl, hS, k⟩ := h
    refine ⟨_, (pss_one (ps_ret (pe_lst (pa_cons (pe_callTy (T := "list") (call_listK (K := K) rfl) (by rfl) T.b_list (by decide +kernel) (pa_cons (pv 0) pa_nil)) (pa_cons pe_int (pa_cons pe_int (pa_cons pe_int (pa_cons pe_int pa_nil)))))))), ?_⟩
    refine st__law_box ?_
    o_args
    refine listOf (.inl hS) fun c H1 nc s1 h1 => ?_
    o_args
    refine newList (by simp) fun b H2 nb s2 h2 => ?_
    have bH : H b = none := none_of s1 nb
    o_args
    refine k b H2 bH (s1.trans s2) fun F A => ⟨c, ns, _, _, _, _, h2, s2 _ _ h1, A.new bH, A.new nc, by decide, by decide⟩
def sp__law_draw : Sp := fun vs H Q _ => ∃ (a : Addr) (F : List Addr) (m : Int), vs = [.ref a, .int m] ∧ Box a F H ∧ 0 < m ∧ m < 2 ^ 62 ∧ ∀ d H', 0 ≤ d → d < m → Box a F H' → Ch [a] H H' → Q (.int d) H'
theorem ok__law_draw (T : Txt K mg) : FnOk P w K mg base CX0 1 T.a__law_draw T.fd__law_draw ["box", "size"] (sp__law_draw) := by
  have S := sc__law_draw
  refine T.F__law_draw.ok S (fun vs H Q E h => ?_) (fun cdv A outer s H vs Q E hr h => ?_)
  · obtain ⟨a, F, m, rfl, _⟩ := h
    rfl
  · obtain ⟨a, F, m, rfl, ⟨c, cs, p, r, s, n, hA, hC, nA, nC, p0, r0⟩, m0, m1, k⟩ := h
    have m0' : m ≠ 0 := by omega
    have ca : c ≠ a := ne_of hC hA (fun e => by
      injection e with e
      cases cs with
      | nil => cases e
      | cons x r => injection e with e1 _; cases e1)
    refine ⟨_, (pss_cons (ps_asg (pe_op op_add (pe_ix ix_list (pv 0) pe_int (fun _ _ => rfl)) pe_int) (pg_sub (pv 0) pe_int set_list))
      (C8.pss_cut (ps_if (PW.pt (pw_and (pt_cmpR op_eq (pe_ix ix_list (pv 0) pe_int (fun _ _ => rfl)) pe_int (nomark _)) (pw_and1 (pt_cmpR op_lt (pe_ix ix_list (pv 0) pe_int (fun _ _ => rfl)) (pe_callB (id := "len") (call_lenK (K := K) rfl) (by rfl) T.b_len (by decide +kernel) (pa_cons (pe_ix ix_list (pv 0) pe_int (fun _ _ => rfl)) pa_nil)) (nomark _))))) (pss_cons (ps_set (i := 2) S.nd rfl (Or.inl rfl) (pe_ix ix_list (pe_ix ix_list (pv 0) pe_int (fun _ _ => rfl)) (pe_ix ix_list (pv 0) pe_int (fun _ _ => rfl)) (fun _ _ => rfl)))
      (pss_cons (ps_asg (pe_op op_add (pe_ix ix_list (pv 0) pe_int (fun _ _ => rfl)) pe_int) (pg_sub (pv 0) pe_int set_list))
      (pss_one (ps_if (pt_cmpR op_ge (pe_callB (id := "abs") call_absK (by rfl) T.b_abs (by decide +kernel) (pa_cons (pv 2) pa_nil)) (pe_op op_pow pe_int pe_int) (nomark _)) (pss_one (ps_asg (pe_callB (id := "abs") call_absK (by rfl) T.b_abs (by decide +kernel) (pa_cons (pv 2) pa_nil)) (pg_sub (pv 0) pe_int set_list))) (pss_one (ps_asg (pe_op op_mod (pe_callTy (T := "int") call_int1 (by rfl) T.b_int (by decide +kernel) (pa_cons (pe_op op_add (pe_op op_add (pe_op op_mul (pe_ix ix_list (pv 0) pe_int (fun _ _ => rfl)) pe_int) (pe_op op_mul (pv 2) pe_int)) (pe_ix ix_list (pv 0) pe_int (fun _ _ => rfl))) pa_nil)) pe_int) (pg_sub (pv 0) pe_int set_list))))))) pss_nil)
      (pss_cons (ps_if (pt_cmpR op_gt (pe_ix ix_list (pv 0) pe_int (fun _ _ => rfl)) pe_int (nomark _)) (pss_cons (ps_set (i := 3) S.nd rfl (Or.inl rfl) (pe_op op_mod (pe_callTy (T := "int") call_int1 (by rfl) T.b_int (by decide +kernel) (pa_cons (pe_ix ix_list (pv 0) pe_int (fun _ _ => rfl)) pa_nil)) (pv 1)))
      (pss_cons (ps_asg (pe_op op_fdivW (pe_ix ix_list (pv 0) pe_int (fun _ _ => rfl)) (pv 1)) (pg_sub (pv 0) pe_int set_list))
      (pss_one (ps_ret (pv 3))))) pss_nil)
      (pss_cons (ps_asg (pe_op op_mod (pe_callTy (T := "int") call_int1 (by rfl) T.b_int (by decide +kernel) (pa_cons (pe_op op_mul (pe_ix ix_list (pv 0) pe_int (fun _ _ => rfl)) pe_int) pa_nil)) pe_int) (pg_sub (pv 0) pe_int set_list))
      (pss_cons (ps_set (i := 4) S.nd rfl (Or.inl rfl) (pe_op op_mod (pe_callTy (T := "int") call_int1 (by rfl) T.b_int (by decide +kernel) (pa_cons (pe_op op_mul (pe_ix ix_list (pv 0) pe_int (fun _ _ => rfl)) pe_int) pa_nil)) pe_int))
      (pss_one (ps_ret (pe_op op_mod (pe_callTy (T := "int") call_int1 (by rfl) T.b_int (by decide +kernel) (pa_cons (pe_op op_add (pe_op op_add (pe_op op_fdiv (pv 4) pe_int) (pe_ix ix_list (pv 0) pe_int (fun _ _ => rfl))) (pe_op op_fdiv (pe_ix ix_list (pv 0) pe_int (fun _ _ => rfl)) pe_int)) pa_nil)) (pv 1))))))))), ?_⟩
    refine st__law_draw ?_
    o_args
    refine setL (i := 4) hA (by simp) fun H1 s1 h1 => ?_
    have h1 : H1 a = some (.lst [.ref c, .int p, .int r, .int s, .int (n + 1)]) := h1
    have c1 := s1 _ _ ca hC
    refine ⟨fun σ H' => ∃ v p' r' s', σ = [some (.ref a), some (.int m), v, none, none] ∧ H' a = some (.lst [.ref c, .int p', .int r', .int s', .int (n + 1)]) ∧ SameX a H1 H' ∧ 0 ≤ p' ∧ 0 ≤ r', ?_, ?_⟩
    · o_args
      refine brD (fun q => ?_) (fun q => ?_)
      · o_args
        refine lenA (.inl (SqL.of c1)) ?_
        o_args
        refine brD (fun q2 => ?_) (fun q2 => ?_)
        · obtain ⟨pn, rfl⟩ : ∃ pn : Nat, p = pn := ⟨p.toNat, by omega⟩
          have q3 : pn < (cs.map V.int).length := by omega
          rw [List.length_map] at q3
          o_args
          refine ixL c1 (show (cs.map V.int)[pn]? = some (.int cs[pn]) by rw [List.getElem?_map, List.getElem?_eq_getElem q3]; rfl) ?_
          generalize cs[pn] = cell
          o_args
          refine setL (i := 1) h1 (by simp) fun H2 s2 h2 => ?_
          have h2 : H2 a = some (.lst [.ref c, .int ((pn : Int) + 1), .int r, .int s, .int (n + 1)]) := h2
          have e18 : (10 : Int) ^ Int.toNat 18 = 1000000000000000000 := rfl
          o_args
          refine brD (fun q4 => ?_) (fun q4 => ?_)
          · rw [e18] at q4
            o_args
            refine setL (i := 2) h2 (by simp) fun H3 s3 h3 => ?_
            o_args
            exact ⟨_, _, _, _, rfl, h3, s2.trans s3, by omega, by omega⟩
          · o_args
            refine setL (i := 3) h2 (by simp) fun H3 s3 h3 => ?_
            o_args
            exact ⟨_, _, _, _, rfl, h3, s2.trans s3, by omega, by omega⟩
        · o_args
          exact ⟨_, _, _, _, rfl, h1, SameX.refl, p0, r0⟩
      · o_args
        exact ⟨_, _, _, _, rfl, h1, SameX.refl, p0, r0⟩
    · rintro σ H2 ⟨v, p', r', s', rfl, h2, s2, p1, r1⟩
      have fin : ∀ {r'' s'' H3}, H3 a = some (.lst [.ref c, .int p', .int r'', .int s'', .int (n + 1)]) → SameX a H2 H3 → 0 ≤ r'' → Box a F H3 ∧ Ch [a] H H3 := fun h3 s3 r3 => by
        have S := (s1.trans s2).trans s3
        exact ⟨⟨c, cs, p', _, _, n + 1, h3, S _ _ ca hC, nA, nC, p1, r3⟩, Ch.ofX List.mem_cons_self S h3⟩
      o_args
      refine brD (fun q => ?_) (fun q => ?_)
      · o_args
        refine ⟨_, _, rfl, rfl, m0, ?_⟩
        o_args
        refine x_divW m0 m1 ?_
        o_args
        refine setL (i := 2) h2 (by simp) fun H3 s3 h3 => ?_
        o_args
        obtain ⟨B3, C3⟩ := fin h3 s3 (Int.ediv_nonneg r1 (by omega))
        exact k _ _ (Int.emod_nonneg _ m0') (Int.emod_lt_of_pos _ m0) B3 C3
      · o_args
        refine setL (i := 3) h2 (by simp) fun H3 s3 h3 => ?_
        have h3 : H3 a = some (.lst [.ref c, .int p', .int r', .int (s' * 48271 % 2147483647), .int (n + 1)]) := h3
        o_args
        refine ⟨_, _, rfl, rfl, m0, ?_⟩
        o_args
        obtain ⟨B3, C3⟩ := fin h3 s3 r1
        exact k _ _ (Int.emod_nonneg _ m0') (Int.emod_lt_of_pos _ m0) B3 C3
/-! ### repr of data of any kind (behind guard) -/
section
open PySem.Spec PyProof.Rows
variable {X : Cx}
/-- what repr is asked of: data without dicts, its text within the line, its ints within the digits -/
def rReprD (K : PySem.W.Frag) : List V → Hp → VK → Prop := fun xs H Q => ∃ (x : V) (d : PyData), xs = [x] ∧ Dp K H x d ∧ d.showable = true ∧ d.hasDict = false ∧ d.depth ≤ 100 ∧ d.shown.length ≤ sizeLine ∧ (∀ i, d = .int i → i.natAbs.log2 < 1920) ∧ Q (.str d.shown) H
theorem call_reprD (still : X.A.guards = some []) (un : X.A.units + 150 < cLine) : CallR X (.builtin "repr") (rReprD X.K) := by
  intro pins s σ H xs us Q I rv h
  obtain ⟨x, d, rfl, hd, sh, nd, dp, sz, hi, q⟩ := h
  rcases rv with _ | ⟨r1, r2⟩
  cases r2
  cases hd with
  | non =>
    cases r1
    exact PySem.P.repr_of_none ⟨.str _, H, I.tok _, ⟨_, rfl⟩, by rw [PyData.shown_none] at q; exact q⟩
  | bl b =>
    cases r1
    exact PySem.P.repr_of_bool ⟨.str _, H, I.tok _, ⟨_, rfl⟩, by rw [PyData.shown_bool] at q; exact q⟩
  | int i =>
    obtain ⟨t, rfl⟩ := r1
    exact PySem.P.repr_of_int (hi i rfl) ⟨.str _, H, I.tok _, ⟨_, rfl⟩, by rw [PyData.shown_int] at q; exact q⟩
  | str z =>
    obtain ⟨t, rfl⟩ := r1
    rw [PyData.shown_str] at q sz
    exact PySem.P.repr_of_str ⟨.str _, H, I.tok _, ⟨_, rfl⟩, q⟩ sz
  | lst hs hr =>
    cases r1
    obtain ⟨as, hr⟩ := Dp.reads I _ _ _ (.lst hs hr) rfl
    exact repr_of_reads' hr sh (fun z => by rw [nd] at z; cases z) still (by omega) (fun _ _ z => z) (fun h' u tk keep => ⟨.str _, H, I.kept keep, ⟨u, rfl⟩, q⟩) sz
  | tup hs hr =>
    cases r1
    obtain ⟨as, hr⟩ := Dp.reads I _ _ _ (.tup hs hr) rfl
    exact repr_of_reads' hr sh (fun z => by rw [nd] at z; cases z) still (by omega) (fun _ _ z => z) (fun h' u tk keep => ⟨.str _, H, I.kept keep, ⟨u, rfl⟩, q⟩) sz
/-- in an except suite it is as still as outside -/
theorem still_suite {a : Addr} {pn : List (Addr × Obj)} (h : X.A.guards = some []) : (X.suite a pn).A.guards = some [] := h
end
theorem room_un {k : Nat} {A : Around} (r : Room k A) : A.units + 150 < cLine := by have := r.un; omega
theorem x_callS {σ : L2.St} {H : Hp} {Q : VK} {sp : Sp} {E : L2.St → XK} {t : TA} (q : t σ H fun vs H1 => sp vs H1 Q (E σ)) : tCallS sp E t σ H Q := q
theorem x_con {K : PySem.W.Frag} {te : TE} {f : Str} {σ : L2.St} {H : Hp} {Q : VK} (q : te σ H fun x H1 => ∃ a C dx fs v u, x = .ref a ∧ H1 a = some (.ins C dx fs) ∧ Cls K C ∧ Con K C f v u ∧ fs.lookup f = none ∧ Q v H1) : tCon K te f σ H Q := q
theorem x_neB {i j : Bool} {H : Hp} {Q : VK} (q : Q (.bl (!decide (i = j))) H) : rNe (.bl i) (.bl j) H Q := ⟨rfl, by
  have e : decide (V.bl i = V.bl j) = decide (i = j) := by cases i <;> cases j <;> decide +kernel
  rw [e]; exact q⟩
theorem x_eqB {i j : Bool} {H : Hp} {Q : VK} (q : Q (.bl (decide (i = j))) H) : rEq (.bl i) (.bl j) H Q := ⟨rfl, by
  have e : decide (V.bl i = V.bl j) = decide (i = j) := by cases i <;> cases j <;> decide +kernel
  rw [e]; exact q⟩
local macro_rules
  | `(tactic| w_up) => `(tactic| first | with_reducible refine x_callS ?_ | with_reducible refine x_con ?_ | with_reducible refine x_neB ?_ | with_reducible refine x_eqB ?_)
/-! ### del xs[:c] -/
section
open PySem.Spec PyProof.Rows
theorem drop_zip (c : Nat) (f : Value × Nat → Option Value) (hf : ∀ x k, f (x, k) = if k < c then none else some x) : ∀ (xs : List Value) (j : Nat), (xs.zipIdx j).filterMap f = xs.drop (c - j)
  | [], j => by simp
  | x :: xs, j => by
    rw [List.zipIdx_cons, List.filterMap_cons, hf]
    by_cases q : j < c
    · rw [if_pos q]
      show (xs.zipIdx (j + 1)).filterMap f = _
      rw [drop_zip c f hf xs (j + 1), show c - j = (c - (j + 1)) + 1 by omega]
      rfl
    · rw [if_neg q]
      show x :: (xs.zipIdx (j + 1)).filterMap f = _
      rw [drop_zip c f hf xs (j + 1), show c - j = 0 by omega, show c - (j + 1) = 0 by omega]
      rfl
theorem cut_bounds {c n : Nat} (hc : c ≤ n) : sliceBounds none (some (c : Int)) none n = (0, (c : Int), 1) := by
  simp only [sliceBounds, Option.getD_none]
  have h2 : ¬ ((c : Int) < 0) := by omega
  simp only [h2, if_false, show (1 : Int) > 0 by decide, if_true]
  congr 1
  congr 1
  omega
variable {prog : Program} {w : World} {A : Around} {E : Value → Shared → Prop} {s : Shared}
theorem delItem_cut {l sl : Addr} {items : Array Value} {n : Nat} {vu : Value} {c : Nat} {Q : Unit → Shared → Prop}
    (e : s.heap.get? l = some { cls := .type "list", data := .seq items n }) (hs : s.heap.IsSliceOf sl .none vu .none) (pu : IsPart vu (some (c : Int))) (hc : c ≤ items.size)
    (hsz : items.size ≤ sizeLine) (h : Q () { s with heap := s.heap.update l (Obj.mapSeq fun xs => (xs.toList.drop c).toArray) }) :
    wpAny (model prog w) A (delItem (.ref l) (.ref sl)) Q E s := by
  have hl : s.heap.IsList l items := PySem.IsL.isList e
  obtain ⟨os, hos, hcs, hds⟩ := id hs
  have hTs : s.TypeIs (.ref sl) "slice" := ⟨os, hos, hcs⟩
  have hstep : ¬ ((rawPart none == rawInt 0) = true) := Bool.false_ne_true
  refine wpAny_delItem_slot hl.typeIs (by decide) PySem.F.slot_list_delitem (wpAny_call_entry PySem.F.slot_list_delitem hl.typeIs PySem.F.entry_list_delitem ?_ (PySem.F.args_list_delitem_2 _ _))
  show wpAny _ _ (Builtin.List.listSubscript? (.ref sl) >>= _) _ _ s
  refine wpAny_bind ?_
  unfold Builtin.List.listSubscript?
  refine wpAny_bind (wpAny_specialOf hTs slice_no_index ?_)
  simp only [Option.isNone_none, if_true]
  refine wpAny_pure ?_
  show wpAny _ _ (typeOf (.ref sl) >>= _) _ _ s
  refine wpAny_bind (wpAny_typeOf hTs ?_)
  rw [if_neg (by decide)]
  rw [listSliceParts_eq]
  refine wpAny_bind (wpAny_bind (wpAny_field hos hds (x := .none) rfl (wpAny_bind (wpAny_listPart .none ?_))))
  rw [if_neg hstep]
  refine wpAny_bind (wpAny_field hos hds (x := .none) rfl (wpAny_bind (wpAny_listPart .none ?_)))
  refine wpAny_bind (wpAny_field hos hds (x := vu) rfl (wpAny_bind (wpAny_listPart pu (wpAny_pure ?_))))
  unfold Builtin.List.listItems
  refine wpAny_bind (wpAny_bind (wpAny_seqItems e rfl (wpAny_pure ?_)))
  refine wpAny_bind (wpAny_of_eq ((sliceIndices_raw none (some (c : Int)) none items.size (by simp)).trans (congrArg (pure : Int × Int × Int → Sem (Int × Int × Int)) (cut_bounds hc))) ?_)
  refine wpAny_bind (wpAny_rule ?_)
  refine wpAny_bind (m := updateSeq l _) ?_
  refine wpAny_updateSeq (hz := hsz) (_hz' := ?z) e rfl ?_
  case z =>
    rw [List.size_toArray]
    refine Nat.le_trans (List.length_filterMap_le _ _) ?_
    rw [List.length_zipIdx, Array.length_toList]
    omega
  refine wpAny_bind (wpAny_letGo ?_)
  refine wpAny_pure ⟨.none, rfl, ?_⟩
  have ef : ∀ f : Value × Nat → Option Value, (∀ x k, f (x, k) = if k < c then none else some x) → (fun xs : Array Value => (xs.toList.zipIdx.filterMap f).toArray) = fun xs => (xs.toList.drop c).toArray := fun f hf => by
    funext xs
    rw [drop_zip c f hf xs.toList 0, Nat.sub_zero]
  refine Eq.mpr (congrArg (fun g => Q () { s with heap := s.heap.update l (Obj.mapSeq g) }) (ef _ ?_)) h
  intro x k
  show (if (decide ((0 : Int) ≤ (k : Int)) && decide ((k : Int) < (c : Int)) && (((k : Int) - 0) % 1 == 0)) = true then none else some x) = _
  have z : (((k : Int) - 0) % 1 == 0) = true := by rw [Int.emod_one]; rfl
  rw [z, Bool.and_true, decide_eq_true (show (0 : Int) ≤ (k : Int) by omega), Bool.true_and]
  by_cases q : k < c
  · rw [if_pos q, if_pos (decide_eq_true (show (k : Int) < c by omega))]
  · rw [if_neg q, decide_eq_false (show ¬ (k : Int) < c by omega), if_neg Bool.false_ne_true]
end
section
open PySem.Spec PyProof.Rows
variable {X : Cx} {o hi : Expr} {to : TE} {th : TO} {tpos p2 pos : Pos}
/-- del xs[:c] of a list -/
def tDelCut (to : TE) (th : TO) : TS := fun D σ H => to σ H fun x H1 => th σ H1 fun u H2 => ∃ (l : Addr) (xs : List V) (c : Nat), x = .ref l ∧ u = some (c : Int) ∧ H2 l = some (.lst xs) ∧ c ≤ xs.length ∧ D.nx σ (L2.upd H2 l (.lst (xs.drop c)))
theorem ps_delCut (ho : PE X o to) (hh : PO X (some hi) th) : PS X (.Delete [.Subscript o (.Slice none (some hi) none p2) tpos] pos) (tDelCut to th) := by
  refine ⟨fun pins s σ H D I h => ?_⟩
  refine wpAny_Delete (wpAny_deleteEach_cons (wpAny_delete_Subscript (thn (ho.run pins s σ H _ I h) fun v s1 ⟨x, H1, I1, rx, q1⟩ => ?_)))
  refine wpAny_Slice (thn ((po_none (X := X)).run pins s1 σ H1 (fun l H' => l = none ∧ th σ H' _) I1 ⟨rfl, q1⟩) fun vl s2 ⟨l, H2, I2, pl, el0, q2⟩ => thn (hh.run pins s2 σ H2 _ I2 q2) fun vu s3 ⟨u, H3, I3, pu, q3⟩ => ?_)
  rw [evalPart_none]
  refine wpAny_pure ?_
  obtain ⟨l', xs, c, ex, eu, hH, hc, q⟩ := q3
  subst ex eu
  cases (show v = Value.ref l' from rx)
  have I4 : Inv X pins σ H3 { s3 with heap := s3.heap.push { cls := .type "slice", data := .fields #[vl, vu, .none] } } := I3.kept (t' := s3.toks) fun b ob q => Heap.get?_push_of_some _ q
  obtain ⟨z, its, n, r, hl, e⟩ := I4.lstM hH
  subst el0
  have el : vl = .none := by cases pl; rfl
  subst el
  have zl : its.length = xs.length := r.length.symm
  refine delItem_cut (c := c) e (Heap.IsSliceOf.new ..) pu (by rw [List.size_toArray]; omega) (by rw [List.size_toArray, zl]; omega) (wpAny_deleteEach_nil ⟨σ, _, ?_, q⟩)
  refine I4.lset (its' := its.drop c) (t' := s3.toks) hH e ?_ (r.drop c) ?_
  · rfl
  · rw [List.length_drop]; omega
end
/-! ### xs.extend(t), t a tuple -/
section
open PySem PySem.Spec PyProof.Rows PySem.AutoSeq1 PySem.MeetsSeq
set_option maxRecDepth 8000 in
theorem list_extend_tup (l : Addr) (items : Array Value) (n : Nat) (b : Addr) (d2 : Option Addr) (sl2 : Array (Option Value)) (items2 : Array Value) (n2 : Nat) (hs0 : ¬(!items.isEmpty && Builtin.List.listTooLong (items.size + items2.size)) = true) (hs1 : items.size ≤ sizeLine) (hs2 : items.size + items2.size ≤ sizeLine + 1) :
    Meets (Builtin.«list.extend» ⟨[.ref l, .ref b], []⟩) (fun _ R s => s.heap.get? l = some { cls := .type "list", dict := none, data := .seq items n, slots := #[] } ∧ s.heap.get? b = some ⟨.type "tuple", d2, .seq items2 n2, sl2⟩ ∧ R (.ok (.ret Value.none)) { s with heap := s.heap.update l (Obj.mapSeq fun x => x ++ items2), toks := s.toks }) :=
  .of_wp fun prog w A R s h => by
    obtain ⟨hp, g, d, tk, os⟩ := s; obtain ⟨hl, hb, h⟩ := h; have f1 := PySem.AutoSeq1.idx_int; have f2 := PySem.AutoSeq1.sub_tuple_tuple; have f3 := PySem.AutoSeq1.sub_list_list; have f4 := PySem.AutoSeq1.sub_tuple_list; have f5 := PySem.AutoSeq1.sub_list_tuple;
    have hz' : (items ++ items2).size ≤ sizeLine + 1 := by rw [Array.size_append]; exact hs2
    wp_walk using (wpAny_updateSeq hl rfl (hz := hs1) (_hz' := hz')), wpAny_loadPart' hl, wpAny_loadPart' hb; exact ⟨_, rfl, h⟩
def rExtendT (K : PySem.W.Frag) : V → List V → Hp → VK → Prop := fun x vs H Q => ∃ l b xs zs, x = .ref l ∧ vs = [.ref b] ∧ H l = some (.lst xs) ∧ SqT K H b zs ∧ xs.length + zs.length ≤ sizeLine ∧ Q .non (L2.upd H l (.lst (xs ++ zs)))
theorem mt_extendT {X : Cx} : MtM X "list.extend" (rExtendT X.K) := by
  intro pins s σ H x vs v us Q I rx rv h
  obtain ⟨l, b, xs, zs, rfl, rfl, hH, hB, hz, q⟩ := h
  cases rx
  obtain ⟨u, rfl, ru⟩ := rv.one
  cases ru
  obtain ⟨z, its, n, r, hl, e⟩ := I.lstM hH
  obtain ⟨its2, r2, ⟨o2, e2, c2, n2, d2⟩, _⟩ := I.tuple hB
  obtain ⟨oc, od, oda, osl⟩ := o2
  simp only at c2 d2
  subst c2 d2
  have l2 : zs.length = its2.length := r2.length
  have hsz : its.toArray.size + its2.toArray.size ≤ sizeLine := by rw [List.size_toArray, List.size_toArray]; omega
  have hlong : ¬ (!its.toArray.isEmpty && Builtin.List.listTooLong (its.toArray.size + its2.toArray.size)) = true := by
    rw [notLongL hsz, Bool.and_false]
    exact Bool.false_ne_true
  refine call_meets PySem.F.slot_list_extend ⟨_, e, rfl⟩ PySem.F.entry_list_extend (PySem.F.args_list_extend_2 _ _)
    (list_extend_tup l its.toArray n b od osl its2.toArray n2 hlong (by rw [List.size_toArray]; omega) (by omega)) ⟨e, e2, ?_⟩
  refine ⟨.non, _, I.lset (its' := its ++ its2) hH e (by simp) (r.append r2) ?_, rfl, q⟩
  rw [List.length_append]
  omega
end
/-! ### dicts with words for keys -/
theorem room_u1 {k : Nat} {A A' : Around} (r : Room k A) (e : A'.units = A.units := by rfl) : A'.units + 1 < cLine := by have := r.un; rw [e]; omega
section
variable {K : PySem.W.Frag} {σ : L2.St} {H : Hp} {Q : VK} {v : V} {td ty tv : TE} {D : Ends}
theorem x_dget (q : td σ H fun x H1 => ty σ H1 fun y H2 => ∃ a v, x = .ref a ∧ DGet H2 a y (some v) ∧ Q v H2) : tDGet td ty σ H Q := q
theorem x_dput (q : tv σ H fun v H1 => td σ H1 fun x H2 => ty σ H2 fun y H3 => ∃ a H4, x = .ref a ∧ DPut H3 a y v H4 ∧ D.nx σ H4) : sDPut td ty tv D σ H := q
/-- d["k"] -/
theorem dget {a : Addr} {kvs : List (Key × V)} {k : Str} {P : V → Prop} (h : H a = some (.dK kvs)) (e : valV kvs (.inr k) = some v) (q : P v) : ∃ b u, V.ref a = .ref b ∧ DGet H b (.str k) (some u) ∧ P u := ⟨a, v, rfl, .inl ⟨kvs, .inr k, .inl h, rfl, e.symm⟩, q⟩
/-- d["k"] = v -/
theorem dput {a : Addr} {kvs kvs' : List (Key × V)} {k : Str} {P : Hp → Prop} (h : H a = some (.dK kvs)) (l : kvs.length < 1000) (e : putK kvs (.inr k) v = kvs') (q : ∀ H', SameX a H H' → H' a = some (.dK kvs') → P H') : ∃ b H4, V.ref a = .ref b ∧ DPut H b (.str k) v H4 ∧ P H4 :=
  ⟨a, _, rfl, .inl ⟨kvs, .inr k, h, rfl, Nat.lt_of_lt_of_le l (by decide), rfl⟩, q _ SameX.upd (by rw [e]; exact upd_same)⟩
end
section
variable {σ : L2.St} {H : Hp} {Q : VK} {Qp : List (V × V) → Hp → Prop} {tk tv : TE} {trs : List (TE × TE)}
theorem x_disp (q : ∀ p, H p = none → tPairs trs σ (upd H p (.dK [])) fun ps H2 => H2 p = some (.dK []) ∧ ∃ kvs : List (Key × V), ps = kvs.map (fun kv => (kV kv.1, kv.2)) ∧ kvs.length ≤ 15 ∧ Q (.ref p) (upd H2 p (.dK (mergeK [] kvs)))) : tDisp trs σ H Q := q
theorem x_pnil (q : Qp [] H) : tPairs [] σ H Qp := q
theorem x_pcons (q : tk σ H fun x H1 => tv σ H1 fun y H2 => tPairs trs σ H2 fun ps H3 => Qp ((x, y) :: ps) H3) : tPairs ((tk, tv) :: trs) σ H Qp := q
end
local macro_rules
  | `(tactic| w_up) => `(tactic| first | with_reducible refine x_dget ?_ | with_reducible refine x_dput ?_ | with_reducible refine x_disp ?_ | with_reducible refine x_pcons ?_ | with_reducible refine x_pnil ?_ | with_reducible refine x_setp ?_ | with_reducible refine dget (by assumption) (by with_unfolding_all exact rfl) ?_)
/-! ### a caught error, handed to another def -/
section
open PySem.Spec PyProof.Rows L2H
structure FnPin (P : Program) (w : World) (K : PySem.W.Frag) (mg : Str → Option Value) (base : Heap) (k : Nat) (f : Addr) (fd : FuncData) (ps : List Str) (sp : Addr → Value → Option Addr → Sp) : Prop where
  cnt : ∀ a cls d vs H Q E, sp a cls d vs H Q E → vs.length = ps.length
  go : ∀ (A : Around) (outer : List Env) (s : Shared) (H : Hp) (args : Args) (us : List Value) (vs : List V) (Q : VK) (E : XK) (a : Addr) (oe : Obj) (cls : Value) (d : Option Addr), Zc cls d oe → (∃ vs, oe.data = .fields vs) → RoomH k A → PinOk outer H s (a, oe) → Env0 P w K mg base A outer s H →
    BindsTo s fd args (ps.zip us) → Vals vs us → sp a cls d vs H Q E → codeAny (model P w) A (.call (.ref f) args) (CR CX0 outer P w H s Q E) s
theorem pin_fn {P : Program} {w : World} {K : PySem.W.Frag} {mg : Str → Option Value} {base : Heap} {x qual : Str} {st : Stmt} {f : Addr} {fd : FuncData} {N ps : List Str} {k : Nat} {sp : Addr → Value → Option Addr → Sp} (F : Fun K x qual st f fd) (S : FnScope N ps (defScope st))
    (cnt : ∀ a cls d vs H Q E, sp a cls d vs H Q E → vs.length = ps.length)
    (bod : ∀ (cdv : Value) (A : Around) (outer : List Env) (s : Shared) (H : Hp) (vs : List V) (Q : VK) (E : XK) (a : Addr) (oe : Obj) (cls : Value) (d : Option Addr), Zc cls d oe → (∃ vs, oe.data = .fields vs) → RoomH k (A.deeper (envOfC qual (defScope st) s.heap.objs.size f cdv)) → sp a cls d vs H Q E →
      ∃ t, PSs (cxH CX0 P w K mg base N qual (defScope st) f cdv A outer s H E (a, oe)).nox (defBody st) t ∧ t { nx := fun _ H' => Q .non H', rt := Q } (L2.start N vs) H) : FnPin P w K mg base (k + 1) f fd ps sp := by
  obtain ⟨oc, od, kV, doc, pm, an, cdv, ct, osl, rfl, lk, hcd⟩ := F.ex
  refine ⟨cnt, fun A outer s H args us vs Q E a oe cls d hz hf room pin e0 bnd rv want => ?_⟩
  have kin : K.In s.heap := e0.mod.kin.keeps fun b o hb => (e0.bs b o hb).1
  have limit : s.heap.NoLimit := e0.mod.nolimit.keeps fun b o hb => (e0.bs b o hb).1
  have param : ∀ y ∈ ps.zip us, (defScope st).names.lookup y.1 = some .local ∨ ((defScope st).names.lookup y.1 = some .cell ∧ ((cellsFrom (s.heap.objs.size + 1) (defScope st).names []).lookup y.1).isSome = true) := by
    rintro ⟨n, v⟩ hy
    refine (S.par n (List.of_mem_zip hy).1).imp id fun c => ⟨c, PySem.W.cellsFrom_some _ _ _ (.inl c)⟩
  refine codeAny_call_function room.depth (kin _ _ lk) rfl S.co S.gen rfl (PySem.W.codeRec_of kin hcd) (bnd _ _ _ _ (wpAny_newFunctionEnv_cells S.kind param fun env he s1 x => ?_))
  subst he
  refine ⟨limit.keeps x.toInCall.keep, codeAny_func ?_⟩
  obtain ⟨t, ht, hq⟩ := bod cdv A outer s H vs Q E a oe cls d hz hf (room.deeper _) want
  refine wpAny_mono (ht.nox.run [] s1 (L2.start N vs) H _ (inv_startH S pin e0 (cnt _ _ _ _ _ _ _ want) rv x) hq) (fun fl s' hs => ?_) fun _ _ z => z
  cases fl with
  | ret u => exact let ⟨v, _, H', J, rr, q⟩ := hs; ⟨v, H', J.os, J.bare, J.base, J.hok, rr, q⟩
  | next => exact let ⟨_, H', J, q⟩ := hs; ⟨V.non, H', J.os, J.bare, J.base, J.hok, rfl, q⟩
  | brk => exact let ⟨_, _, _, q⟩ := hs; False.elim q
  | cont => exact let ⟨_, _, _, q⟩ := hs; False.elim q
variable {X : Cx} {a : Addr} {oe : Obj} {cls : Value} {d : Option Addr} {pn : List (Addr × Obj)} {n : Str}
/-- isinstance(e, c), e a pinned error -/
theorem call_isP (hm : (a, oe) ∈ X.pn) (hz : Zc cls d oe) (hf : ∃ vs, oe.data = .fields vs) : CallR X (.builtin "isinstance") (rIsX X.K a cls d) := by
  intro pins s σ H xs us Q I r h
  obtain ⟨c, cv, b, D, dd, fs, rfl, hcv, ec, C, ed, ea, e, q⟩ := h
  subst ec ed
  obtain ⟨u1, u2, rfl, r1, r2⟩ := vals2 r
  cases (show u1 = Value.ref a from r1)
  cases (hcv _ r2)
  obtain ⟨mA, hns, hr⟩ := (show ObjOk X.prog X.w H s.heap dd (.xd fs) from I.hok dd _ ea)
  obtain ⟨od, ho, hl⟩ := lookIn_ns hns
  obtain ⟨vs, hv⟩ := hf
  have J : PySem.W.InstAt s.heap a oe D (some od) := ⟨(I.pin (a, oe) (List.mem_append_left _ hm)).1, hz.1, by unfold PySem.W.notCls; rw [hv] <;> rfl, by rw [hz.2]; exact ho⟩
  obtain ⟨cd, hc, _⟩ := PySem.W.any_some C.hd
  exact PySem.W.kia_one (PySem.W.kitx_exc (by rw [hc]; rfl) C.hg C.hk C.hs C.ha C.hn C.ht C.hm) I.kIn J e (fun z => nomatch z) fun tk => ⟨.bl b, H, I.tok tk, rfl, q⟩
/-- f(e, ..) in a suite -/
theorem pe_callPin {k : Nat} {f : Addr} {fd : FuncData} {ps : List Str} {sp : Addr → Value → Option Addr → Sp} {x : Str} {e : Expr} {es : List Expr} {t : TA} {p pos : Pos} (E : XK) (hz : Zc cls d oe) (hf : ∃ vs, oe.data = .fields vs) (F : FnPin X.prog X.w X.K X.mg X.base k f fd ps sp) (hr : Room k X.A) (hg : Gl X x) (hm : X.mg x = some (.ref f))
    (hk : PySem.W.keepIn X.K (.ref f) = true) (hb : Binds X.K fd ps []) (ha : PA (X.suite a ((a, oe) :: pn)) (e :: es) t) (hdb : (x == ("__debug__" : Str)) = false := by decide) (he : starEach (e :: es) X.env = (false, eval e X.env) :: starEach es X.env := by rfl) (hpl : (backTo pos (starEach es X.env)).any (·.1) = false := by rfl) :
    PE (X.suite a ((a, oe) :: pn)) (.Call (.Name x p) (e :: es) [] pos) (tCall (sp a cls d) [] E t) := by
  refine ⟨fun pins s σ H Q I h => ?_⟩
  refine wpAny_Call_Name_kw (ld_glob (X := X.suite a ((a, oe) :: pn)) I hg hm ?_ hdb)
  refine PySem.W.callWith_K (h₀ := X.base) I.ok.mod.kin hk (thn (ha.run pos pins s σ H _ I h) fun us s1 ⟨vs, H1, I1, r, q⟩ => ⟨I1.kIn, ?_⟩) he hpl
  have q : sp a cls d vs H1 Q E := by
    have z : sp a cls d (vs ++ []) H1 Q E := q
    rw [List.append_nil] at z
    exact z
  have pin := I1.pin (a, oe) (List.mem_append_left _ List.mem_cons_self)
  have off : a ∉ frs (X.suite a ((a, oe) :: pn)).stack := fun z => by
    rcases List.mem_cons.mp (I1.stkSub a z) with z | z
    · exact pin.2.2.1 z
    · exact pin.2.2.2.1 z
  have hl : us.length = ps.length := by rw [← r.length]; exact F.cnt _ _ _ _ _ _ _ q
  have bnd := hb s1 us I1.kIn (by rw [List.append_nil]; exact hl)
  rw [List.append_nil] at bnd
  refine wpAny_call (codeAny_mono (F.go (X.suite a ((a, oe) :: pn)).A (X.suite a ((a, oe) :: pn)).stack s1 H1 ⟨us, []⟩ us vs Q E a oe cls d hz hf ⟨hr.dp, hr.un⟩ ⟨pin.1, pin.2.1, off, pin.2.2.2.2⟩ I1.env0 bnd r q) fun r s' hq => ?_)
  cases r with
  | error e => exact False.elim hq
  | ok fl =>
    cases fl with
    | ret u => exact I1.after hq
    | next => exact False.elim hq
    | brk => exact False.elim hq
    | cont => exact False.elim hq
end
/-! ### slices of a list or a tuple; extended by either -/
section
open PySem.Spec PyProof.Rows
def SeqN (K : PySem.W.Frag) (H : Hp) (a : Addr) (xs : List V) : Prop := H a = some (.lst xs) ∨ SqT K H a xs
def rSlQ (K : PySem.W.Frag) : V → Option Int → Option Int → Hp → VK → Prop := fun x lo hi H Q => rSlL K x lo hi H Q ∨ L2.rSlA K x lo hi H Q
theorem sl_seqQ {X : Cx} : SlR X (rSlQ X.K) := by
  exact SlR.or sl_list sl_tupA
def rExtA (K : PySem.W.Frag) : V → List V → Hp → VK → Prop := fun x vs H Q => rExtend x vs H Q ∨ rExtendT K x vs H Q
theorem mt_extendA {X : Cx} : MtM X "list.extend" (rExtA X.K) := by
  intro pins s σ H x vs v us Q I rx rv h
  rcases h with h | h
  · exact mt_extend pins s σ H x vs v us Q I rx rv h
  · exact mt_extendT pins s σ H x vs v us Q I rx rv h
theorem sliceA {K : PySem.W.Frag} {H : Hp} {Q : VK} {a : Addr} {xs : List V} {lo hi : Option Int} (h : SeqA K H a xs) (q : ∀ l H', Same H H' → SeqN K H' l (cutV xs lo hi) → Q (.ref l) H') : rSlQ K (.ref a) lo hi H Q := by
  rcases h with h | h
  · exact .inl ⟨a, xs, rfl, h, fun l hl => q l _ (Same.new hl) (.inl upd_same)⟩
  · refine .inr ⟨a, xs, rfl, h, fun z => q a H (Same.refl H) (.inr ?_), fun _ l hl => q l _ (Same.new hl) (.inr (SqT.of upd_same))⟩
    have e : cutV xs lo hi = xs := by
      unfold cutV
      rw [z.1, z.2, List.drop_zero, Nat.sub_zero, List.take_length]
    rw [e]
    exact h
theorem extA {K : PySem.W.Frag} {H : Hp} {Q : VK} {a b : Addr} {xs zs : List V} (ha : H a = some (.lst xs)) (hb : SeqN K H b zs) (h : xs.length + zs.length ≤ 100000) (q : ∀ H', SameX a H H' → H' a = some (.lst (xs ++ zs)) → Q .non H') : rExtA K (.ref a) [.ref b] H Q := by
  rcases hb with hb | hb
  · exact .inl ⟨a, b, xs, zs, rfl, rfl, ha, hb, Nat.le_trans h (by decide), q _ SameX.upd upd_same⟩
  · exact .inr ⟨a, b, xs, zs, rfl, rfl, ha, hb, Nat.le_trans h (by decide), q _ SameX.upd upd_same⟩
end
/-- for x in a list or a tuple -/
theorem forSeq {K : PySem.W.Frag} {a : Addr} {xs : List V} {te : TE} {g : TG} {ts : TS} {D : Ends} {σ : L2.St} {H : Hp} (hte : ∀ R : VK, R (.ref a) H → te σ H R) (hS : SeqA K H a xs) (Pv : Nat → L2.St → Hp → Prop) (h0 : Pv 0 σ H) (hk : ∀ i σ H', Pv i σ H' → ∀ o, H a = some o → H' a = some o)
    (hs : ∀ i x σ H, xs[i]? = some x → Pv i σ H → g x σ H fun σ2 H2 => ts { D with nx := Pv (i + 1), ct := Pv (i + 1), bk := D.nx } σ2 H2) (hd : ∀ σ H, Pv xs.length σ H → D.nx σ H) : tFor (iOr (iList K te) (iTup K te)) g ts D σ H := by
  rcases hS with hS | hS
  · exact .inl (hte _ ⟨a, rfl, ⟨_, hS⟩, for_list Pv h0 (fun i σ H' _ p => sqL_at hS (hk i σ H' p)) hs hd⟩)
  · exact .inr (hte _ ⟨a, rfl, ⟨_, hS⟩, for_tup Pv h0 (fun i σ H' _ p => sqT_at hS (hk i σ H' p)) hs hd⟩)
/-! ### the outbox -/
abbrev sp_NotAllowed_init_ (K : PySem.W.Frag) : Sp := sp_xinit K "state"
theorem ok_NotAllowed_init_ (T : Txt K mg) : FnOk P w K mg base CX0 1 T.a_NotAllowed_init_ T.fd_NotAllowed_init_ ["self", "state"] (sp_NotAllowed_init_ K) := by
  have S := sc_NotAllowed_init_
  refine T.F_NotAllowed_init_.ok S (fun vs H Q E h => ?_) (fun cdv A outer s H vs Q E hr h => ?_)
  · obtain ⟨a, C, v, rfl, _⟩ := h
    rfl
  · obtain ⟨a, C, v, rfl, O, hn, ha, k⟩ := h
    refine ⟨_, (pss_one (ps_ost (pv 0) (pv 1))), ?_⟩
    exact ⟨_, rfl, _, rfl, a, C, rfl, O, hn, .inl ⟨ha, k⟩⟩
theorem Err.same {C : Addr} {f : Str} {v : V} {H H' : Hp} {E : XK} (h : Err C f v H E) (s : Same H H') : Err C f v H' E := fun d H1 s1 e => h d H1 (s.trans s1) e
def sp_is_byte (K : PySem.W.Frag) : Sp := fun vs H Q _ => ∃ (x : V), vs = [x] ∧ ((∃ n, x = .int n ∧ 0 ≤ n ∧ n ≤ 255 ∧ Q (.bl true) H) ∨ (Out K H x 0 255 ∧ Q (.bl false) H))
theorem ok_is_byte (T : Txt K mg) : FnOk P w K mg base CX0 3 T.a_is_byte T.fd_is_byte ["value"] (sp_is_byte K) := by
  have S := sc_is_byte
  refine T.F_is_byte.ok S (fun vs H Q E h => ?_) (fun cdv A outer s H vs Q E hr h => ?_)
  · obtain ⟨x, rfl, _⟩ := h
    rfl
  · obtain ⟨x, rfl, h⟩ := h
    refine ⟨_, (pss_one (ps_ret (pe_call (ok_is_between T) (hr.mono (by decide)) rfl T.g_is_between T.F_is_between.kp T.B_is_between .nil pass0 (pa_cons (pv 0) (pa_cons pe_int (pa_cons pe_int pa_nil)))))), ?_⟩
    refine st_is_byte ?_
    o_args
    rcases h with ⟨n, rfl, h0, h1, k⟩ | ⟨ho, k⟩
    · refine in_between h0 h1 ?_
      o_args
      exact k
    · refine out_between ho ?_
      o_args
      exact k
def sp_require_limit (K : PySem.W.Frag) (Ce : Addr) : Sp := fun vs H Q E => ∃ (x : V), vs = [x] ∧ ((∃ n, x = .int n ∧ 1 ≤ n ∧ n ≤ 65535 ∧ Q .non H) ∨ (Out K H x 1 65535 ∧ Err Ce "setting" (.str "limit") H E))
theorem ok_require_limit (T : Txt K mg) : FnOk P w K mg base (L2.CX P w) 3 T.a_require_limit T.fd_require_limit ["limit"] (sp_require_limit K T.c_InvalidSetting) := by
  have S := sc_require_limit
  refine T.F_require_limit.okX S (fun vs H Q E h => ?_) (fun cdv A outer s H vs Q E hr h => ?_)
  · obtain ⟨x, rfl, _⟩ := h
    rfl
  · obtain ⟨x, rfl, h⟩ := h
    refine ⟨_, (pss_one (ps_if (pt_not (pt_val (pe_call (ok_is_between T) (hr.mono (by decide)) rfl T.g_is_between T.F_is_between.kp T.B_is_between .nil pass0 (pa_cons (pv 0) (pa_cons pe_int (pa_cons pe_int pa_nil)))))) (pss_one (ps_raise rfl (takes_of rfl rfl rfl rfl) (pmk_oex T.X_InvalidSetting.o T.X_InvalidSetting.i T.X_InvalidSetting.t (ok_InvalidSetting_init_ T) (hr.mono (by decide)) T.B_InvalidSetting_init_ .nil pass0 rfl T.X_InvalidSetting.g (pa_cons pe_str pa_nil)))) pss_nil)), ?_⟩
    refine st_require_limit ?_
    o_args
    rcases h with ⟨n, rfl, h0, h1, k⟩ | ⟨ho, hE⟩
    · refine in_between h0 h1 ?_
      o_args
      exact k
    · refine out_between ho ?_
      o_args
      exact mkO_of T.X_InvalidSetting.o T.nX_InvalidSetting fun d H1 nd ss hx => hE d H1 ss hx
/-- what require_data is told: bytes, no sequence, or a sequence whose first item that is no byte is y -/
def Bytes (ns : List Int) : Prop := ∀ n ∈ ns, 0 ≤ n ∧ n ≤ 255
def DataSp (K : PySem.W.Frag) (Ce : Addr) (x : V) (H : Hp) (E : XK) (P : List Int → Prop) : Prop :=
  (∃ a ns, x = .ref a ∧ SeqA K H a (ns.map V.int) ∧ Bytes ns ∧ ns.length ≤ 1000 ∧ P ns) ∨ (SeqK K H x false ∧ Err Ce "number" x H E) ∨
  (∃ a ns y zs, x = .ref a ∧ SeqA K H a (ns.map V.int ++ y :: zs) ∧ Bytes ns ∧ Out K H y 0 255 ∧ Err Ce "number" y H E)
theorem DataSp.mono {K : PySem.W.Frag} {Ce : Addr} {x : V} {H : Hp} {E E' : XK} {P P' : List Int → Prop} (h : DataSp K Ce x H E P) (hp : ∀ ns, P ns → P' ns) (he : ∀ a b c, E a b c → E' a b c) : DataSp K Ce x H E' P' := by
  rcases h with ⟨a, ns, h1, h2, h3, h4, h5⟩ | ⟨h1, h2⟩ | ⟨a, ns, y, zs, h1, h2, h3, h4, h5⟩
  · exact .inl ⟨a, ns, h1, h2, h3, h4, hp _ h5⟩
  · exact .inr (.inl ⟨h1, fun d H' s e => he _ _ _ (h2 d H' s e)⟩)
  · exact .inr (.inr ⟨a, ns, y, zs, h1, h2, h3, h4, fun d H' s e => he _ _ _ (h5 d H' s e)⟩)
theorem SeqK.same {K : PySem.W.Frag} {H H' : Hp} {x : V} {r : Bool} (h : SeqK K H x r) (s : Same H H') : SeqK K H' x r := h.elim fun t h => ⟨t, tyX_same h.1 s, h.2⟩
def sp_require_data (K : PySem.W.Frag) (Ce : Addr) : Sp := fun vs H Q E => ∃ (x : V), vs = [x] ∧ DataSp K Ce x H E (fun _ => ∀ H', Same H H' → Q .non H')
theorem ok_require_data (T : Txt K mg) : FnOk P w K mg base (L2.CX P w) 4 T.a_require_data T.fd_require_data ["data"] (sp_require_data K T.c_InvalidNumber) := by
  have S := sc_require_data
  refine T.F_require_data.okX S (fun vs H Q E h => ?_) (fun cdv A outer s H vs Q E hr h => ?_)
  · obtain ⟨x, rfl, _⟩ := h
    rfl
  · obtain ⟨x, rfl, h⟩ := h
    refine ⟨_, (pss_cons (ps_if (pt_not (pt_val (pe_call (ok_is_sequence T) (hr.mono (by decide)) rfl T.g_is_sequence T.F_is_sequence.kp T.B_is_sequence .nil pass0 (pa_cons (pv 0) pa_nil)))) (pss_one (ps_raise rfl (takes_of rfl rfl rfl rfl) (pmk_oex T.X_InvalidNumber.o T.X_InvalidNumber.i T.X_InvalidNumber.t (ok_InvalidNumber_init_ T) (hr.mono (by decide)) T.B_InvalidNumber_init_ .nil pass0 rfl T.X_InvalidNumber.g (pa_cons (pv 0) pa_nil)))) pss_nil)
      (pss_one (ps_for (passes_of rfl) rfl (pi_seqA (pv 0)) (pg_name (i := 1) S.nd rfl (Or.inl rfl)) (pss_one (ps_if (pt_not (pt_val (pe_call (ok_is_byte T) (hr.mono (by decide)) rfl T.g_is_byte T.F_is_byte.kp T.B_is_byte .nil pass0 (pa_cons (pv 1) pa_nil)))) (pss_one (ps_raise rfl (takes_of rfl rfl rfl rfl) (pmk_oex T.X_InvalidNumber.o T.X_InvalidNumber.i T.X_InvalidNumber.t (ok_InvalidNumber_init_ T) (hr.mono (by decide)) T.B_InvalidNumber_init_ .nil pass0 rfl T.X_InvalidNumber.g (pa_cons (pv 1) pa_nil)))) pss_nil))))), ?_⟩
    refine st_require_data ?_
    o_args
    rcases h with ⟨a, ns, rfl, hA, hb, hl, k⟩ | ⟨hk, hE⟩ | ⟨a, ns, y, zs, rfl, hA, hb, ho, hE⟩
    · refine ⟨_, true, rfl, seqK_of hA, fun H1 s1 => ?_⟩
      o_args
      refine forSeq (fun R q => ⟨_, rfl, q⟩) (hA.sm s1) (fun i σ H' => (∃ z, σ = [some (.ref a), z]) ∧ Same H1 H') ⟨⟨none, rfl⟩, Same.refl H1⟩ (fun i σ H' h o e => h.2 _ _ e) (fun i x σ H' hi h => ?_) (fun σ H' h => ?_)
      · obtain ⟨⟨z, rfl⟩, s⟩ := h
        rw [List.getElem?_map] at hi
        obtain ⟨n, en, rfl⟩ := Option.map_eq_some_iff.mp hi
        obtain ⟨b0, b1⟩ := hb n (List.mem_of_getElem? en)
        o_args
        refine ⟨_, rfl, .inl ⟨n, rfl, b0, b1, ?_⟩⟩
        o_args
        exact ⟨⟨_, rfl⟩, s⟩
      · obtain ⟨⟨z, rfl⟩, s⟩ := h
        o_args
        exact k _ (s1.trans s)
    · refine ⟨_, false, rfl, hk, fun H1 s1 => ?_⟩
      o_args
      exact ⟨_, rfl, mkO_of T.X_InvalidNumber.o T.nX_InvalidNumber fun d H2 nd ss hx => hE d H2 (s1.trans ss) hx⟩
    · refine ⟨_, true, rfl, seqK_of hA, fun H1 s1 => ?_⟩
      o_args
      refine forSeq (fun R q => ⟨_, rfl, q⟩) (hA.sm s1) (fun i σ H' => i ≤ ns.length ∧ (∃ z, σ = [some (.ref a), z]) ∧ Same H1 H') ⟨Nat.zero_le _, ⟨none, rfl⟩, Same.refl H1⟩ (fun i σ H' h o e => h.2.2 _ _ e) (fun i x σ H' hi h => ?_) (fun σ H' h => ?_)
      · obtain ⟨il, ⟨z, rfl⟩, s⟩ := h
        by_cases q : i < ns.length
        · rw [List.getElem?_append_left (by rw [List.length_map]; exact q), List.getElem?_map] at hi
          obtain ⟨n, en, rfl⟩ := Option.map_eq_some_iff.mp hi
          obtain ⟨b0, b1⟩ := hb n (List.mem_of_getElem? en)
          o_args
          refine ⟨_, rfl, .inl ⟨n, rfl, b0, b1, ?_⟩⟩
          o_args
          exact ⟨q, ⟨_, rfl⟩, s⟩
        · have e : i = ns.length := by omega
          subst e
          rw [List.getElem?_append_right (by rw [List.length_map]; exact Nat.le_refl _), List.length_map, Nat.sub_self] at hi
          cases hi
          o_args
          refine ⟨_, rfl, .inr ⟨ho.same (s1.trans s), ?_⟩⟩
          o_args
          exact ⟨_, rfl, mkO_of T.X_InvalidNumber.o T.nX_InvalidNumber fun d H2 nd ss hx => hE d H2 ((s1.trans s).trans ss) hx⟩
      · obtain ⟨il, _⟩ := h
        rw [List.length_append, List.length_map, List.length_cons] at il
        omega
/-! ### the outbox's object: the limit, all that was ever put, the base, whether it is closed, the urgent end -/
structure Bx where
  lim : Int
  con : List Int
  base : Nat
  closed : Bool
  urg : Int
structure Bx.ok (B : Bx) : Prop where
  l1 : 1 ≤ B.lim
  l2 : B.lim ≤ 65535
  b1 : 1 ≤ B.base
  b2 : B.base ≤ B.con.length + 1
  sz : B.con.length ≤ 50000
def Bx.kept (B : Bx) : List Int := B.con.drop (B.base - 1)
def Bx.fs (B : Bx) (l : Addr) : List (Str × V) := [("_limit", .int B.lim), ("base", .int B.base), ("end", .int (1 + B.con.length)), ("closed", .bl B.closed), ("urgent_end", .int B.urg), ("_kept", .ref l)]
def OutAt (C : Addr) (H : Hp) (p l : Addr) (B : Bx) : Prop := (∃ dx, H p = some (.ins C dx (B.fs l))) ∧ H l = some (.lst (B.kept.map V.int)) ∧ B.ok
section
variable {C p l : Addr} {H H' : Hp} {B : Bx} {G : List Addr}
theorem OutAt.same (h : OutAt C H p l B) (s : Same H H') : OutAt C H' p l B := ⟨h.1.elim fun dx h => ⟨dx, s _ _ h⟩, s _ _ h.2.1, h.2.2⟩
theorem OutAt.ch (h : OutAt C H p l B) (s : Ch G H H') (n : p ∉ G) (m : l ∉ G) : OutAt C H' p l B := ⟨h.1.elim fun dx h => ⟨dx, s.at n h⟩, s.at m h.2.1, h.2.2⟩
theorem OutAt.ne (h : OutAt C H p l B) : l ≠ p := fun e => by
  obtain ⟨⟨dx, h1⟩, h2, _⟩ := h
  rw [e, h1] at h2
  cases h2
end
def Bx.spare (B : Bx) : Int := max 0 (B.lim - (1 + B.con.length - B.base))
def Bx.many (B : Bx) (ns : List Int) : Int := min B.spare ns.length
def Bx.add (B : Bx) (ns : List Int) : Bx := { B with con := B.con ++ ns.take (B.many ns).toNat }
def Bx.urge (B : Bx) (ns : List Int) : Bx := { B.add ns with urg := if 0 < B.many ns then 1 + (B.add ns).con.length else B.urg }
theorem Bx.many0 (B : Bx) (ns : List Int) : 0 ≤ B.many ns ∧ B.many ns ≤ ns.length := by
  unfold Bx.many Bx.spare
  omega
theorem Bx.add_len (B : Bx) (ns : List Int) : ((B.add ns).con.length : Int) = B.con.length + B.many ns := by
  have := B.many0 ns
  show ((B.con ++ ns.take (B.many ns).toNat).length : Int) = _
  rw [List.length_append, List.length_take]
  omega
theorem Bx.add_kept (B : Bx) (ns : List Int) (h : B.ok) : (B.add ns).kept = B.kept ++ ns.take (B.many ns).toNat := by
  show (B.con ++ ns.take (B.many ns).toNat).drop (B.base - 1) = _
  rw [List.drop_append_of_le_length (by have := h.b2; omega)]
  rfl
theorem Bx.kept_len (B : Bx) (h : B.ok) : (B.kept.length : Int) = B.con.length + 1 - B.base := by
  have := h.b1; have := h.b2
  unfold Bx.kept
  rw [List.length_drop]
  omega
/-- all that stands but the fields of the one -/
theorem OutAt.put {C p l dx : Addr} {H H' : Hp} {B B' : Bx} (h : OutAt C H p l B) (s : SameX p H H') (e : H' p = some (.ins C dx (B'.fs l))) (k : B'.kept = B.kept) (o : B'.ok) : OutAt C H' p l B' := ⟨⟨dx, e⟩, by rw [k]; exact s _ _ h.ne h.2.1, o⟩
/-- the limit is set by its property -/
def sp_Outbox_limit_set (K : PySem.W.Frag) (C Ce : Addr) : Sp := fun vs H Q E => ∃ (p dx : Addr) (fs : List (Str × V)) (x : V), vs = [.ref p, x] ∧ H p = some (.ins C dx fs) ∧ fs.length < 1000 ∧
  ((∃ n, x = .int n ∧ 1 ≤ n ∧ n ≤ 65535 ∧ ∀ H', SameX p H H' → H' p = some (.ins C dx (putF "_limit" (.int n) fs)) → Q .non H') ∨ (Out K H x 1 65535 ∧ Err Ce "setting" (.str "limit") H E))
theorem ok_Outbox_limit_set (T : Txt K mg) : FnOk P w K mg base (L2.CX P w) 4 T.a_Outbox_limit_set T.fd_Outbox_limit_set ["self", "value"] (sp_Outbox_limit_set K T.c_Outbox T.c_InvalidSetting) := by
  have S := sc_Outbox_limit_set
  refine T.F_Outbox_limit_set.okX S (fun vs H Q E h => ?_) (fun cdv A outer s H vs Q E hr h => ?_)
  · obtain ⟨p, dx, fs, x, rfl, _⟩ := h
    rfl
  · obtain ⟨p, dx, fs, x, rfl, hp, hl, h⟩ := h
    refine ⟨_, (pss_cons (ps_expr (pe_call (ok_require_limit T) (hr.mono (by decide)) rfl T.g_require_limit T.F_require_limit.kp T.B_require_limit .nil (passes_call (takes_of rfl rfl rfl rfl) (fun _ _ _ _ h => h)) (pa_cons (pv 1) pa_nil)))
      (pss_one (ps_fld (pv 0) (pv 1) rfl))), ?_⟩
    refine st_Outbox_limit_set ?_
    o_args
    rcases h with ⟨n, rfl, h0, h1, k⟩ | ⟨ho, hE⟩
    · refine ⟨_, rfl, .inl ⟨n, rfl, h0, h1, ?_⟩⟩
      o_args
      refine fstore hp T.cl_Outbox T.n_Outbox__limit hl rfl fun H1 s1 h1 => ?_
      o_args
      exact k H1 s1 h1
    · exact ⟨_, rfl, .inr ⟨ho, hE⟩⟩
def sp_Outbox_init_ (K : PySem.W.Frag) (C Ce : Addr) : Sp := fun vs H Q E => ∃ (p dx : Addr) (x : V), vs = [.ref p, x] ∧ H p = some (.ins C dx []) ∧
  ((∃ n, x = .int n ∧ 1 ≤ n ∧ n ≤ 65535 ∧ ∀ l H', H l = none → Ch [p] H H' → OutAt C H' p l ⟨n, [], 1, false, 0⟩ → Q .non H') ∨ (Out K H x 1 65535 ∧ Err Ce "setting" (.str "limit") H E))
theorem ok_Outbox_init_ (T : Txt K mg) : FnOk P w K mg base (L2.CX P w) 7 T.a_Outbox_init_ T.fd_Outbox_init_ ["self", "limit"] (sp_Outbox_init_ K T.c_Outbox T.c_InvalidSetting) := by
  have S := sc_Outbox_init_
  refine T.F_Outbox_init_.okX S (fun vs H Q E h => ?_) (fun cdv A outer s H vs Q E hr h => ?_)
  · obtain ⟨p, dx, x, rfl, _⟩ := h
    rfl
  · obtain ⟨p, dx, x, rfl, hp, h⟩ := h
    refine ⟨_, (pss_cons (ps_setp (pv 0) (pv 1) T.cl_Outbox T.SE_Outbox_limit_set (ok_Outbox_limit_set T) (hr.mono (by decide)) T.B_Outbox_limit_set (passes_call (takes_of rfl rfl rfl rfl) (fun _ _ _ _ h => h)) rfl)
      (pss_cons (ps_fld (pv 0) pe_int rfl)
      (pss_cons (ps_fld (pv 0) pe_int rfl)
      (pss_cons (ps_fld (pv 0) pe_bl rfl)
      (pss_cons (ps_fld (pv 0) pe_int rfl)
      (pss_one (ps_fld (pv 0) (pe_lst pa_nil) rfl))))))), ?_⟩
    refine st_Outbox_init_ ?_
    o_args
    refine ⟨p, dx, _, rfl, hp, ?_⟩
    refine ⟨p, dx, _, x, rfl, hp, by decide, ?_⟩
    rcases h with ⟨n, rfl, h0, h1, k⟩ | ⟨ho, hE⟩
    · refine .inl ⟨n, rfl, h0, h1, fun H1 s1 h1 => ?_⟩
      o_args
      refine fstore h1 T.cl_Outbox T.n_Outbox_base (Nat.le_of_ble_eq_true rfl) rfl fun H2 s2 h2 => ?_
      o_args
      refine fstore h2 T.cl_Outbox T.n_Outbox_end (Nat.le_of_ble_eq_true rfl) rfl fun H3 s3 h3 => ?_
      o_args
      refine fstore h3 T.cl_Outbox T.n_Outbox_closed (Nat.le_of_ble_eq_true rfl) rfl fun H4 s4 h4 => ?_
      o_args
      refine fstore h4 T.cl_Outbox T.n_Outbox_urgent_end (Nat.le_of_ble_eq_true rfl) rfl fun H5 s5 h5 => ?_
      o_args
      refine newList (by simp) fun l H6 nl s6 h6 => ?_
      have lp : l ≠ p := Ne.symm (ne_of_none h5 nl)
      o_args
      refine fstore (s6 _ _ h5) T.cl_Outbox T.n_Outbox__kept (Nat.le_of_ble_eq_true rfl) rfl fun H7 s7 h7 => ?_
      o_args
      have S : SameX p H H5 := (((s1.trans s2).trans s3).trans s4).trans s5
      have c : Ch [p] H H7 := (Ch.ofX List.mem_cons_self S h5).trans ((Ch.of s6).trans (Ch.ofX List.mem_cons_self s7 h7))
      exact k l H7 (none_back S lp nl) c ⟨⟨_, h7⟩, s7 _ _ lp h6, ⟨h0, by assumption, Nat.le_refl _, Nat.le_refl _, Nat.zero_le _⟩⟩
    · exact .inr ⟨ho, hE⟩
theorem x_delCut {to : TE} {th : TO} {D : Ends} {σ : L2.St} {H : Hp} (q : to σ H fun x H1 => th σ H1 fun u H2 => ∃ (l : Addr) (xs : List V) (c : Nat), x = .ref l ∧ u = some (c : Int) ∧ H2 l = some (.lst xs) ∧ c ≤ xs.length ∧ D.nx σ (L2.upd H2 l (.lst (xs.drop c)))) : tDelCut to th D σ H := q
theorem cut_mid (xs : List V) (i j : Nat) : cutV xs (some (i : Int)) (some (j : Int)) = (xs.take j).drop i := by
  have e1 : HT.sIx xs.length 0 (some (i : Int)) = min i xs.length := HT.sIx_nat _ _ _
  have e2 : HT.sIx xs.length xs.length (some (j : Int)) = min j xs.length := HT.sIx_nat _ _ _
  unfold cutV
  rw [e1, e2, List.drop_take]
  by_cases h : i ≤ xs.length
  · rw [Nat.min_eq_left h, List.take_eq_take_iff, List.length_drop]
    omega
  · have e3 : min i xs.length = xs.length := by omega
    rw [e3, List.drop_of_length_le (Nat.le_refl _), List.drop_of_length_le (show xs.length ≤ i by omega), List.take_nil, List.take_nil]
def sp_Outbox_limit (C : Addr) : Sp := fun vs H Q _ => ∃ (p l : Addr) (B : Bx), vs = [.ref p] ∧ OutAt C H p l B ∧ Q (.int B.lim) H
theorem ok_Outbox_limit (T : Txt K mg) : FnOk P w K mg base CX0 1 T.a_Outbox_limit T.fd_Outbox_limit ["self"] (sp_Outbox_limit T.c_Outbox) := by
  have S := sc_Outbox_limit
  refine T.F_Outbox_limit.ok S (fun vs H Q E h => ?_) (fun cdv A outer s H vs Q E hr h => ?_)
  · obtain ⟨p, l, B, rfl, _⟩ := h
    rfl
  · obtain ⟨p, l, B, rfl, ⟨⟨dx, hp⟩, hl, ok⟩, k⟩ := h
    refine ⟨_, (pss_one (ps_ret (pe_fld (pv 0) rfl))), ?_⟩
    refine st_Outbox_limit ?_
    o_args
    refine fget hp T.cl_Outbox T.n_Outbox__limit rfl ?_
    o_args
    exact k
def sp_Outbox_free (C : Addr) : Sp := fun vs H Q _ => ∃ (p l : Addr) (B : Bx), vs = [.ref p] ∧ OutAt C H p l B ∧ Q (.int B.spare) H
theorem ok_Outbox_free (T : Txt K mg) : FnOk P w K mg base CX0 1 T.a_Outbox_free T.fd_Outbox_free ["self"] (sp_Outbox_free T.c_Outbox) := by
  have S := sc_Outbox_free
  refine T.F_Outbox_free.ok S (fun vs H Q E h => ?_) (fun cdv A outer s H vs Q E hr h => ?_)
  · obtain ⟨p, l, B, rfl, _⟩ := h
    rfl
  · obtain ⟨p, l, B, rfl, ⟨⟨dx, hp⟩, hl, ok⟩, k⟩ := h
    refine ⟨_, (pss_one (ps_ret (pe_callB (id := "max") (call_max2K rfl) (by rfl) T.b_max (by decide +kernel) (pa_cons pe_int (pa_cons (pe_op op_sub (pe_fld (pv 0) rfl) (pe_op op_sub (pe_fld (pv 0) rfl) (pe_fld (pv 0) rfl))) pa_nil))))), ?_⟩
    refine st_Outbox_free ?_
    o_args
    refine fget hp T.cl_Outbox T.n_Outbox__limit rfl ?_
    o_args
    refine fget hp T.cl_Outbox T.n_Outbox_end rfl ?_
    o_args
    refine fget hp T.cl_Outbox T.n_Outbox_base rfl ?_
    o_args
    exact k
def Bx.bound (B : Bx) : Int := if B.closed = true then 1 + B.con.length + 1 else 1 + B.con.length
def sp_Outbox_bound (C : Addr) : Sp := fun vs H Q _ => ∃ (p l : Addr) (B : Bx), vs = [.ref p] ∧ OutAt C H p l B ∧ Q (.int B.bound) H
theorem ok_Outbox_bound (T : Txt K mg) : FnOk P w K mg base CX0 1 T.a_Outbox_bound T.fd_Outbox_bound ["self"] (sp_Outbox_bound T.c_Outbox) := by
  have S := sc_Outbox_bound
  refine T.F_Outbox_bound.ok S (fun vs H Q E h => ?_) (fun cdv A outer s H vs Q E hr h => ?_)
  · obtain ⟨p, l, B, rfl, _⟩ := h
    rfl
  · obtain ⟨p, l, B, rfl, ⟨⟨dx, hp⟩, hl, ok⟩, k⟩ := h
    refine ⟨_, (pss_one (ps_ret (pe_ifExp (pt_val (pe_fld (pv 0) rfl)) (pe_op op_add (pe_fld (pv 0) rfl) pe_int) (pe_fld (pv 0) rfl)))), ?_⟩
    refine st_Outbox_bound ?_
    o_args
    unfold Bx.bound at k
    refine fget hp T.cl_Outbox T.n_Outbox_closed rfl ?_
    o_args
    refine br2 (fun q => ?_) (fun q => ?_)
    · rw [if_pos q] at k
      o_args
      refine fget hp T.cl_Outbox T.n_Outbox_end rfl ?_
      o_args
      exact k
    · rw [if_neg (by rw [q]; exact Bool.false_ne_true)] at k
      o_args
      refine fget hp T.cl_Outbox T.n_Outbox_end rfl ?_
      o_args
      exact k
def sp_Outbox_resize (K : PySem.W.Frag) (C Ce : Addr) : Sp := fun vs H Q E => ∃ (p l : Addr) (B : Bx) (x : V), vs = [.ref p, x] ∧ OutAt C H p l B ∧
  ((∃ n, x = .int n ∧ 1 ≤ n ∧ n ≤ 65535 ∧ ∀ H', Ch [p] H H' → OutAt C H' p l { B with lim := n } → Q .non H') ∨ (Out K H x 1 65535 ∧ Err Ce "setting" (.str "limit") H E))
theorem ok_Outbox_resize (T : Txt K mg) : FnOk P w K mg base (L2.CX P w) 7 T.a_Outbox_resize T.fd_Outbox_resize ["self", "limit"] (sp_Outbox_resize K T.c_Outbox T.c_InvalidSetting) := by
  have S := sc_Outbox_resize
  refine T.F_Outbox_resize.okX S (fun vs H Q E h => ?_) (fun cdv A outer s H vs Q E hr h => ?_)
  · obtain ⟨p, l, B, x, rfl, _⟩ := h
    rfl
  · obtain ⟨p, l, B, x, rfl, O, h⟩ := h
    obtain ⟨⟨dx, hp⟩, hl, ok⟩ := id O
    refine ⟨_, (pss_one (ps_setp (pv 0) (pv 1) T.cl_Outbox T.SE_Outbox_limit_set (ok_Outbox_limit_set T) (hr.mono (by decide)) T.B_Outbox_limit_set (passes_call (takes_of rfl rfl rfl rfl) (fun _ _ _ _ h => h)) rfl)), ?_⟩
    refine st_Outbox_resize ?_
    o_args
    refine ⟨p, dx, _, rfl, hp, ?_⟩
    refine ⟨p, dx, _, x, rfl, hp, (by decide : 6 < 1000), ?_⟩
    rcases h with ⟨n, rfl, h0, h1, k⟩ | ⟨ho, hE⟩
    · refine .inl ⟨n, rfl, h0, h1, fun H1 s1 h1 => ?_⟩
      o_args
      exact k H1 (Ch.ofX List.mem_cons_self s1 h1) (O.put s1 h1 rfl ⟨h0, by assumption, ok.b1, ok.b2, ok.sz⟩)
    · exact .inr ⟨ho, hE⟩
def sp_Outbox_shut (C : Addr) : Sp := fun vs H Q _ => ∃ (p l : Addr) (B : Bx), vs = [.ref p] ∧ OutAt C H p l B ∧ ∀ H', Ch [p] H H' → OutAt C H' p l { B with closed := true } → Q .non H'
theorem ok_Outbox_shut (T : Txt K mg) : FnOk P w K mg base CX0 1 T.a_Outbox_shut T.fd_Outbox_shut ["self"] (sp_Outbox_shut T.c_Outbox) := by
  have S := sc_Outbox_shut
  refine T.F_Outbox_shut.ok S (fun vs H Q E h => ?_) (fun cdv A outer s H vs Q E hr h => ?_)
  · obtain ⟨p, l, B, rfl, _⟩ := h
    rfl
  · obtain ⟨p, l, B, rfl, O, k⟩ := h
    obtain ⟨⟨dx, hp⟩, hl, ok⟩ := id O
    refine ⟨_, (pss_one (ps_fld (pv 0) pe_bl rfl)), ?_⟩
    refine st_Outbox_shut ?_
    o_args
    refine fstore hp T.cl_Outbox T.n_Outbox_closed (by decide : 6 < 1000) rfl fun H1 s1 h1 => ?_
    o_args
    exact k H1 (Ch.ofX List.mem_cons_self s1 h1) (O.put s1 h1 rfl ⟨ok.l1, ok.l2, ok.b1, ok.b2, ok.sz⟩)
/-- the closed outbox refuses; else the data is looked at -/
def PutSp (K : PySem.W.Frag) (Ca Ce : Addr) (B : Bx) (x : V) (H : Hp) (E : XK) (P : List Int → Prop) : Prop := (B.closed = true ∧ Err Ca "state" (.str "closed") H E) ∨ (B.closed = false ∧ DataSp K Ce x H E P)
def sp_Outbox_put (K : PySem.W.Frag) (C Ca Ce : Addr) : Sp := fun vs H Q E => ∃ (p l : Addr) (B : Bx) (x : V), vs = [.ref p, x] ∧ OutAt C H p l B ∧ B.con.length < 40000 ∧ PutSp K Ca Ce B x H E fun ns => ∀ H', Ch [p, l] H H' → OutAt C H' p l (B.add ns) → Q (.int (B.many ns)) H'
theorem ok_Outbox_put (T : Txt K mg) : FnOk P w K mg base (L2.CX P w) 5 T.a_Outbox_put T.fd_Outbox_put ["self", "data"] (sp_Outbox_put K T.c_Outbox T.c_NotAllowed T.c_InvalidNumber) := by
  have S := sc_Outbox_put
  refine T.F_Outbox_put.okX S (fun vs H Q E h => ?_) (fun cdv A outer s H vs Q E hr h => ?_)
  · obtain ⟨p, l, B, x, rfl, _⟩ := h
    rfl
  · obtain ⟨p, l, B, x, rfl, O, hz, h⟩ := h
    obtain ⟨⟨dx, hp⟩, hl, ok⟩ := id O
    refine ⟨_, (pss_cons (ps_if (pt_val (pe_fld (pv 0) rfl)) (pss_one (ps_raise rfl (takes_of rfl rfl rfl rfl) (pmk_oex T.X_NotAllowed.o T.X_NotAllowed.i T.X_NotAllowed.t (ok_NotAllowed_init_ T) (hr.mono (by decide)) T.B_NotAllowed_init_ .nil pass0 rfl T.X_NotAllowed.g (pa_cons pe_str pa_nil)))) pss_nil)
      (pss_cons (ps_expr (pe_call (ok_require_data T) (hr.mono (by decide)) rfl T.g_require_data T.F_require_data.kp T.B_require_data .nil (passes_call (takes_of rfl rfl rfl rfl) (fun _ _ _ _ h => h)) (pa_cons (pv 1) pa_nil)))
      (pss_cons (ps_set (i := 2) S.nd rfl (Or.inl rfl) (pe_callB (id := "min") (call_min2K rfl) (by rfl) T.b_min (by decide +kernel) (pa_cons (pe_prop (pv 0) T.cl_Outbox T.PR_Outbox_free (ok_Outbox_free T) (hr.mono (by decide)) T.B_Outbox_free .nil pass0 rfl) (pa_cons (pe_callB (id := "len") (call_lenK (K := K) rfl) (by rfl) T.b_len (by decide +kernel) (pa_cons (pv 1) pa_nil)) pa_nil))))
      (pss_cons (ps_expr (pe_bm PySem.F.plainAttrs_list PySem.F.slot_list_extend PySem.F.type_list_extend mt_extendA (pe_fld (pv 0) rfl) (pa_cons (pe_slice sl_seqQ (pv 1) po_none (po_some (pv 2))) pa_nil)))
      (pss_cons (ps_fldaug (pv 0) (pv 2) ip_add)
      (pss_one (ps_ret (pv 2)))))))), ?_⟩
    refine st_Outbox_put ?_
    o_args
    refine fget hp T.cl_Outbox T.n_Outbox_closed rfl ?_
    o_args
    rcases h with ⟨hc, hE⟩ | ⟨hc, h⟩
    · refine brT hc ?_
      o_args
      exact mkO_of T.X_NotAllowed.o T.nX_NotAllowed fun d H2 nd ss hx => hE d H2 ss hx
    refine brF hc ?_
    o_args
    rcases h with ⟨a, ns, rfl, hA, hb, hn, k⟩ | h | h
    · refine ⟨_, rfl, .inl ⟨a, ns, rfl, hA, hb, hn, fun H1 s1 => ?_⟩⟩
      have O1 := O.same s1
      obtain ⟨⟨dx1, hp1⟩, hl1, _⟩ := id O1
      have A1 := hA.sm s1
      o_args
      refine ⟨p, dx1, _, rfl, hp1, ?_⟩
      refine ⟨p, l, B, rfl, O1, ?_⟩
      o_args
      refine lenA A1 ?_
      rw [List.length_map]
      o_args
      refine fget hp1 T.cl_Outbox T.n_Outbox__kept rfl ?_
      o_args
      refine ⟨isList hl1, ?_⟩
      o_args
      refine sliceA A1 fun m H2 s2 hm => ?_
      have mn := B.many0 ns
      obtain ⟨c, hc'⟩ : ∃ c : Nat, B.many ns = c := ⟨(B.many ns).toNat, by omega⟩
      have hm : SeqN K H2 m ((ns.take c).map V.int) := by
        have e : min B.spare (ns.length : Int) = (c : Int) := hc'
        rw [e, cut_to, ← List.map_take] at hm
        exact hm
      have kl := B.kept_len ok
      have := ok.b1
      o_args
      refine extA (s2 _ _ hl1) hm (by rw [List.length_map, List.length_map, List.length_take]; omega) fun H3 s3 h3 => ?_
      have lp := O.ne
      have hp3 := s3 _ _ (Ne.symm lp) (s2 _ _ hp1)
      have c3 : Ch [p, l] H H3 := (Ch.of (s1.trans s2)).trans (Ch.ofX (by simp) s3 h3)
      o_args
      refine fraise hp3 T.cl_Outbox T.n_Outbox_end (by decide : 6 < 1000) rfl ?_
      o_args
      refine fput hp3 (by decide : 6 < 1000) rfl fun H4 s4 h4 => ?_
      o_args
      refine k H4 (c3.trans (Ch.ofX (by simp) s4 h4)) ⟨⟨dx1, ?_⟩, ?_, ok.l1, ok.l2, ok.b1, ?_, ?_⟩
      · rw [h4]
        unfold Bx.fs
        rw [B.add_len]
        show some (HO.ins _ _ [_, _, ("end", V.int (1 + (B.con.length : Int) + min B.spare (ns.length : Int))), _, _, _]) = _
        rw [show (1 + ((B.con.length : Int) + B.many ns)) = 1 + (B.con.length : Int) + min B.spare (ns.length : Int) by unfold Bx.many; omega]
        rfl
      · rw [s4 _ _ lp h3, B.add_kept ns ok, List.map_append, hc']
        rfl
      · have e := B.add_len ns
        have := ok.b2
        show B.base ≤ _
        omega
      · have e := B.add_len ns
        have := hn
        omega
    · exact ⟨_, rfl, .inr (.inl h)⟩
    · exact ⟨_, rfl, .inr (.inr h)⟩
theorem putF_urg {B : Bx} {l : Addr} {v : Int} : putF "urgent_end" (.int v) (B.fs l) = ({ B with urg := v } : Bx).fs l := rfl
def sp_Outbox_urge (K : PySem.W.Frag) (C Ca Ce : Addr) : Sp := fun vs H Q E => ∃ (p l : Addr) (B : Bx) (x : V), vs = [.ref p, x] ∧ OutAt C H p l B ∧ B.con.length < 40000 ∧ PutSp K Ca Ce B x H E fun ns => ∀ H', Ch [p, l] H H' → OutAt C H' p l (B.urge ns) → Q (.int (B.many ns)) H'
theorem ok_Outbox_urge (T : Txt K mg) : FnOk P w K mg base (L2.CX P w) 6 T.a_Outbox_urge T.fd_Outbox_urge ["self", "data"] (sp_Outbox_urge K T.c_Outbox T.c_NotAllowed T.c_InvalidNumber) := by
  have S := sc_Outbox_urge
  refine T.F_Outbox_urge.okX S (fun vs H Q E h => ?_) (fun cdv A outer s H vs Q E hr h => ?_)
  · obtain ⟨p, l, B, x, rfl, _⟩ := h
    rfl
  · obtain ⟨p, l, B, x, rfl, O, hz, h⟩ := h
    obtain ⟨⟨dx, hp⟩, hl, ok⟩ := id O
    refine ⟨_, (pss_cons (ps_set (i := 2) S.nd rfl (Or.inl rfl) (pe_meth (pv 0) T.cl_Outbox T.m_Outbox_put (ok_Outbox_put T) (hr.mono (by decide)) T.B_Outbox_put .nil (passes_call (takes_of rfl rfl rfl rfl) (fun _ _ _ _ h => h)) (pa_cons (pv 1) pa_nil)))
      (pss_cons (ps_if (pt_cmpR op_gt (pv 2) pe_int (nomark _)) (pss_one (ps_fld (pv 0) (pe_fld (pv 0) rfl) rfl)) pss_nil)
      (pss_one (ps_ret (pv 2))))), ?_⟩
    refine st_Outbox_urge ?_
    o_args
    refine ⟨p, dx, _, rfl, hp, rfl, ?_⟩
    o_args
    refine ⟨p, l, B, x, rfl, O, hz, ?_⟩
    rcases h with h | ⟨hc, h⟩
    · exact .inl h
    · refine .inr ⟨hc, h.mono (fun ns k H1 c1 O1 => ?_) (fun _ _ _ z => z)⟩
      obtain ⟨⟨dx1, hp1⟩, hl1, ok1⟩ := id O1
      o_args
      refine brD (fun q => ?_) (fun q => ?_)
      · o_args
        refine fget hp1 T.cl_Outbox T.n_Outbox_end rfl ?_
        o_args
        refine fstore hp1 T.cl_Outbox T.n_Outbox_urgent_end (by decide : 6 < 1000) putF_urg fun H2 s2 h2 => ?_
        o_args
        have e : B.urge ns = { B.add ns with urg := 1 + ((B.add ns).con.length : Int) } := by
          unfold Bx.urge
          rw [if_pos q]
        refine k H2 (c1.trans (Ch.ofX (by simp) s2 h2)) ?_
        rw [e]
        exact O1.put s2 h2 rfl ⟨ok1.l1, ok1.l2, ok1.b1, ok1.b2, ok1.sz⟩
      · o_args
        have e : B.urge ns = B.add ns := by
          unfold Bx.urge
          rw [if_neg q]
          rfl
        exact k H1 c1 (by rw [e]; exact O1)
def sp_Outbox_cut (K : PySem.W.Frag) (C Ce : Addr) : Sp := fun vs H Q E => ∃ (p l : Addr) (B : Bx) (x y : V), vs = [.ref p, x, y] ∧ OutAt C H p l B ∧
  ((∃ m n : Nat, x = .int m ∧ y = .int n ∧ B.base ≤ m ∧ m ≤ n ∧ n ≤ B.con.length + 1 ∧ ∀ t H', H t = none → Same H H' → H' t = some (.tup (((B.con.take (n - 1)).drop (m - 1)).map V.int)) → Q (.ref t) H') ∨
   (Out K H x B.base (1 + B.con.length) ∧ Err Ce "number" x H E) ∨ (∃ m : Int, x = .int m ∧ B.base ≤ m ∧ m ≤ 1 + B.con.length ∧ Out K H y m (1 + B.con.length) ∧ Err Ce "number" y H E))
theorem ok_Outbox_cut (T : Txt K mg) : FnOk P w K mg base (L2.CX P w) 3 T.a_Outbox_cut T.fd_Outbox_cut ["self", "low", "high"] (sp_Outbox_cut K T.c_Outbox T.c_InvalidNumber) := by
  have S := sc_Outbox_cut
  refine T.F_Outbox_cut.okX S (fun vs H Q E h => ?_) (fun cdv A outer s H vs Q E hr h => ?_)
  · obtain ⟨p, l, B, x, y, rfl, _⟩ := h
    rfl
  · obtain ⟨p, l, B, x, y, rfl, O, h⟩ := h
    obtain ⟨⟨dx, hp⟩, hl, ok⟩ := id O
    refine ⟨_, (pss_cons (ps_if (pt_not (pt_val (pe_call (ok_is_between T) (hr.mono (by decide)) rfl T.g_is_between T.F_is_between.kp T.B_is_between .nil pass0 (pa_cons (pv 1) (pa_cons (pe_fld (pv 0) rfl) (pa_cons (pe_fld (pv 0) rfl) pa_nil)))))) (pss_one (ps_raise rfl (takes_of rfl rfl rfl rfl) (pmk_oex T.X_InvalidNumber.o T.X_InvalidNumber.i T.X_InvalidNumber.t (ok_InvalidNumber_init_ T) (hr.mono (by decide)) T.B_InvalidNumber_init_ .nil pass0 rfl T.X_InvalidNumber.g (pa_cons (pv 1) pa_nil)))) pss_nil)
      (pss_cons (ps_if (pt_not (pt_val (pe_call (ok_is_between T) (hr.mono (by decide)) rfl T.g_is_between T.F_is_between.kp T.B_is_between .nil pass0 (pa_cons (pv 2) (pa_cons (pv 1) (pa_cons (pe_fld (pv 0) rfl) pa_nil)))))) (pss_one (ps_raise rfl (takes_of rfl rfl rfl rfl) (pmk_oex T.X_InvalidNumber.o T.X_InvalidNumber.i T.X_InvalidNumber.t (ok_InvalidNumber_init_ T) (hr.mono (by decide)) T.B_InvalidNumber_init_ .nil pass0 rfl T.X_InvalidNumber.g (pa_cons (pv 2) pa_nil)))) pss_nil)
      (pss_one (ps_ret (pe_callTy (T := "tuple") (call_tupK (K := K) rfl) (by rfl) T.b_tuple (by decide +kernel) (pa_cons (pe_slice sl_list (pe_fld (pv 0) rfl) (po_some (pe_op op_sub (pv 1) (pe_fld (pv 0) rfl))) (po_some (pe_op op_sub (pv 2) (pe_fld (pv 0) rfl)))) pa_nil)))))), ?_⟩
    refine st_Outbox_cut ?_
    o_args
    refine fget hp T.cl_Outbox T.n_Outbox_base rfl ?_
    o_args
    refine fget hp T.cl_Outbox T.n_Outbox_end rfl ?_
    o_args
    have b1 := ok.b1
    rcases h with ⟨m, n, rfl, rfl, h1, h2, h3, k⟩ | ⟨ho, hE⟩ | ⟨m, rfl, h1, h2, ho, hE⟩
    · refine in_between (by omega) (by omega) ?_
      o_args
      refine fget hp T.cl_Outbox T.n_Outbox_end rfl ?_
      o_args
      refine in_between (by omega) (by omega) ?_
      o_args
      refine fget hp T.cl_Outbox T.n_Outbox__kept rfl ?_
      o_args
      refine fget hp T.cl_Outbox T.n_Outbox_base rfl ?_
      o_args
      refine fget hp T.cl_Outbox T.n_Outbox_base rfl ?_
      o_args
      refine sliceL (SqL.of hl) fun l2 H1 n1 s1 h1' => ?_
      o_args
      refine ⟨l2, _, rfl, .inl ⟨SqL.of h1', fun t nt => ?_⟩⟩
      o_args
      refine k t _ (none_of s1 nt) (s1.trans (Same.new nt)) ?_
      have e : cutV (B.kept.map V.int) (some ((m : Int) - B.base)) (some ((n : Int) - B.base)) = ((B.con.take (n - 1)).drop (m - 1)).map V.int := by
        rw [show (m : Int) - B.base = ((m - B.base : Nat) : Int) by omega, show (n : Int) - B.base = ((n - B.base : Nat) : Int) by omega, cut_mid, ← List.map_take, ← List.map_drop]
        unfold Bx.kept
        rw [List.drop_take, List.drop_drop, List.drop_take, show B.base - 1 + (m - B.base) = m - 1 by omega, show n - B.base - (m - B.base) = n - 1 - (m - 1) by omega]
      rw [← e]
      exact upd_same
    · refine out_between ho ?_
      o_args
      exact ⟨_, rfl, mkO_of T.X_InvalidNumber.o T.nX_InvalidNumber fun d H2 nd ss hx => hE d H2 ss hx⟩
    · refine in_between h1 h2 ?_
      o_args
      refine fget hp T.cl_Outbox T.n_Outbox_end rfl ?_
      o_args
      refine out_between ho ?_
      o_args
      exact ⟨_, rfl, mkO_of T.X_InvalidNumber.o T.nX_InvalidNumber fun d H2 nd ss hx => hE d H2 ss hx⟩
def sp_Outbox_release (K : PySem.W.Frag) (C Ce : Addr) : Sp := fun vs H Q E => ∃ (p l : Addr) (B : Bx) (x : V), vs = [.ref p, x] ∧ OutAt C H p l B ∧
  ((∃ m : Nat, x = .int m ∧ B.base ≤ m ∧ m ≤ B.con.length + 1 ∧ ∀ H', Ch [p, l] H H' → OutAt C H' p l { B with base := m } → Q (.int ((m : Int) - B.base)) H') ∨ (Out K H x B.base (1 + B.con.length) ∧ Err Ce "number" x H E))
theorem ok_Outbox_release (T : Txt K mg) : FnOk P w K mg base (L2.CX P w) 3 T.a_Outbox_release T.fd_Outbox_release ["self", "offset"] (sp_Outbox_release K T.c_Outbox T.c_InvalidNumber) := by
  have S := sc_Outbox_release
  refine T.F_Outbox_release.okX S (fun vs H Q E h => ?_) (fun cdv A outer s H vs Q E hr h => ?_)
  · obtain ⟨p, l, B, x, rfl, _⟩ := h
    rfl
  · obtain ⟨p, l, B, x, rfl, O, h⟩ := h
    obtain ⟨⟨dx, hp⟩, hl, ok⟩ := id O
    refine ⟨_, (pss_cons (ps_if (pt_not (pt_val (pe_call (ok_is_between T) (hr.mono (by decide)) rfl T.g_is_between T.F_is_between.kp T.B_is_between .nil pass0 (pa_cons (pv 1) (pa_cons (pe_fld (pv 0) rfl) (pa_cons (pe_fld (pv 0) rfl) pa_nil)))))) (pss_one (ps_raise rfl (takes_of rfl rfl rfl rfl) (pmk_oex T.X_InvalidNumber.o T.X_InvalidNumber.i T.X_InvalidNumber.t (ok_InvalidNumber_init_ T) (hr.mono (by decide)) T.B_InvalidNumber_init_ .nil pass0 rfl T.X_InvalidNumber.g (pa_cons (pv 1) pa_nil)))) pss_nil)
      (pss_cons (ps_set (i := 2) S.nd rfl (Or.inl rfl) (pe_op op_sub (pv 1) (pe_fld (pv 0) rfl)))
      (pss_cons (ps_delCut (pe_fld (pv 0) rfl) (po_some (pv 2)))
      (pss_cons (ps_fld (pv 0) (pv 1) rfl)
      (pss_one (ps_ret (pv 2))))))), ?_⟩
    refine st_Outbox_release ?_
    o_args
    refine fget hp T.cl_Outbox T.n_Outbox_base rfl ?_
    o_args
    refine fget hp T.cl_Outbox T.n_Outbox_end rfl ?_
    o_args
    have b1 := ok.b1
    rcases h with ⟨m, rfl, h1, h2, k⟩ | ⟨ho, hE⟩
    · refine in_between (by omega) (by omega) ?_
      o_args
      refine fget hp T.cl_Outbox T.n_Outbox_base rfl ?_
      o_args
      refine x_delCut ?_
      o_args
      refine fget hp T.cl_Outbox T.n_Outbox__kept rfl ?_
      o_args
      have kl := B.kept_len ok
      refine ⟨l, _, m - B.base, rfl, by rw [show (m : Int) - B.base = ((m - B.base : Nat) : Int) by omega], hl, by rw [List.length_map]; omega, ?_⟩
      have lp := O.ne
      generalize hH1 : L2.upd H l (.lst ((B.kept.map V.int).drop (m - B.base))) = H1
      have s1 : SameX l H H1 := by rw [← hH1]; exact SameX.upd
      have h1' : H1 l = some (.lst ((B.kept.map V.int).drop (m - B.base))) := by rw [← hH1]; exact upd_same
      have hp1 := s1 _ _ (Ne.symm lp) hp
      o_args
      refine fstore hp1 T.cl_Outbox T.n_Outbox_base (by decide : 6 < 1000) rfl fun H2 s2 h2' => ?_
      o_args
      refine k H2 ((Ch.ofX (by simp) s1 h1').trans (Ch.ofX (by simp) s2 h2')) ⟨⟨dx, h2'⟩, ?_, ok.l1, ok.l2, by show 1 ≤ m; omega, h2, ok.sz⟩
      rw [s2 _ _ lp h1', ← List.map_drop]
      unfold Bx.kept
      rw [List.drop_drop, show B.base - 1 + (m - B.base) = m - 1 by omega]
    · refine out_between ho ?_
      o_args
      exact ⟨_, rfl, mkO_of T.X_InvalidNumber.o T.nX_InvalidNumber fun d H2 nd ss hx => hE d H2 ss hx⟩
/-! ### what repr can show -/
structure Atom (d : PyData) : Prop where
  sh : d.showable = true
  nd : d.hasDict = false
  dp : d.depth ≤ 10
  ln : d.shown.length ≤ 2000
theorem lg_small {n : Int} (h : n.natAbs < 2 ^ 60) : n.natAbs.log2 < 1920 := by
  by_cases z : n.natAbs = 0
  · rw [z]
    decide
  · exact Nat.lt_trans ((Nat.log2_lt z).2 h) (by decide)
theorem Atom.int {n : Int} (h : n.natAbs < 2 ^ 60) : Atom (.int n) := ⟨by simp only [PyData.showable, lg_small h, decide_true], rfl, by simp only [PyData.depth]; omega, by
  have := PyProof.Rows.int_text_len_1921 (lg_small h)
  simp only [PyData.shown]
  exact Nat.le_trans this (by decide)⟩
theorem Atom.bl (b : Bool) : Atom (.bool b) := by cases b <;> exact ⟨rfl, rfl, by simp only [PyData.depth]; omega, by decide +kernel⟩
theorem Atom.non : Atom .none := ⟨rfl, rfl, by simp only [PyData.depth]; omega, by decide +kernel⟩
/-- x can be shown -/
def Rpr (K : PySem.W.Frag) (H : Hp) (x : V) : Prop := ∃ d, Dp K H x d ∧ d.showable = true ∧ d.hasDict = false ∧ d.depth ≤ 100 ∧ d.shown.length ≤ sizeLine ∧ (∀ i, d = .int i → i.natAbs.log2 < 1920)
theorem Rpr.int {K : PySem.W.Frag} {H : Hp} {n : Int} (h : n.natAbs < 2 ^ 60) : Rpr K H (.int n) := ⟨_, .int n, (Atom.int h).sh, rfl, Nat.le_trans (Atom.int h).dp (by decide), Nat.le_trans (Atom.int h).ln (by decide), fun i e => by cases e; exact lg_small h⟩
theorem atoms_sh : ∀ {ds : List PyData}, (∀ d ∈ ds, Atom d) → PyData.showableAll ds = true ∧ PyData.hasDictAll ds = false ∧ PyData.depthAll ds ≤ 10 ∧ ((PyData.shownAll ds).map (·.length)).sum ≤ 2000 * ds.length ∧ (PyData.shownAll ds).length = ds.length
  | [], _ => ⟨rfl, rfl, by simp only [PyData.depthAll]; omega, by simp [PyData.shownAll], by simp [PyData.shownAll]⟩
  | d :: ds, h => by
    obtain ⟨h1, h2, h3, h4, h5⟩ := atoms_sh (ds := ds) fun e he => h e (List.mem_cons_of_mem _ he)
    have A := h d List.mem_cons_self
    refine ⟨?_, ?_, ?_, ?_, ?_⟩
    · simp only [PyData.showableAll, A.sh, h1, Bool.and_self]
    · simp only [PyData.hasDictAll, A.nd, h2, Bool.or_self]
    · unfold PyData.depthAll
      exact Nat.max_le.mpr ⟨A.dp, h3⟩
    · have := A.ln
      simp only [PyData.shownAll, List.map_cons, List.sum_cons, List.length_cons]
      omega
    · simp only [PyData.shownAll, List.length_cons, h5]
theorem Rpr.tup {K : PySem.W.Frag} {H : Hp} {t : Addr} {xs : List V} {ds : List PyData} (h : H t = some (.tup xs)) (hd : DpAll K H xs ds) (ha : ∀ d ∈ ds, Atom d) (hl : ds.length ≤ 10) : Rpr K H (.ref t) := by
  obtain ⟨h1, h2, h3, h4, h5⟩ := atoms_sh ha
  refine ⟨.tuple ds, .tup (SqT.of h) hd, by simp only [PyData.showable, h1], by simp only [PyData.hasDict, h2], by simp only [PyData.depth]; omega, ?_, fun i e => nomatch e⟩
  simp only [PyData.shown]
  have := tupleText_len_le (PyData.shownAll ds)
  rw [sizeLine_eq]
  omega
/-- repr of one value twice -/
theorem Rpr.ask {K : PySem.W.Frag} {H : Hp} {x : V} (h : Rpr K H x) : ∃ z : Str, ∀ Q : VK, Q (.str z) H → rReprD K [x] H Q := by
  obtain ⟨d, h1, h2, h3, h4, h5, h6⟩ := h
  exact ⟨d.shown, fun Q q => ⟨x, d, rfl, h1, h2, h3, h4, h5, h6, q⟩⟩
/-! ### what is drawn -/
def sp__law_is_whole (K : PySem.W.Frag) : Sp := fun vs H Q _ => ∃ (x : V) (r : Bool), vs = [x] ∧ IntK K H x r ∧ Q (.bl r) H
theorem ok__law_is_whole (T : Txt K mg) : FnOk P w K mg base CX0 1 T.a__law_is_whole T.fd__law_is_whole ["value"] (sp__law_is_whole K) := by
  have S := sc__law_is_whole
  refine T.F__law_is_whole.ok S (fun vs H Q E h => ?_) (fun cdv A outer s H vs Q E hr h => ?_)
  · obtain ⟨x, r, rfl, _⟩ := h
    rfl
  · obtain ⟨x, r, rfl, ⟨t, i, b, ty, hi, hb, rfl⟩, k⟩ := h
    refine ⟨_, (pss_one (ps_ret (pe_and (pe_callB (id := "isinstance") call_isi (by rfl) T.b_isinstance (by decide +kernel) (pa_cons (pv 0) (pa_cons (pe_bltn (v := .ty "int") (u := .type "int") (by rfl) T.b_int (by decide +kernel) rfl) pa_nil))) (pe_one (pe_not (pe_callB (id := "isinstance") call_isi (by rfl) T.b_isinstance (by decide +kernel) (pa_cons (pv 0) (pa_cons (pe_bltn (v := .ty "bool") (u := .type "bool") (by rfl) T.b_bool (by decide +kernel) rfl) pa_nil)))))))), ?_⟩
    refine ⟨_, rfl, _, _, _, _, i, rfl, .ty _, ty, hi, i, rfl, ?_⟩
    cases i with
    | false => exact iteF k
    | true => exact iteT ⟨_, rfl, _, _, _, _, b, rfl, .ty _, ty, hb, b, rfl, k⟩
def sp__law_limit : Sp := fun vs H Q _ => ∃ (a : Addr) (F : List Addr), vs = [.ref a] ∧ Box a F H ∧ ∀ n H', 1 ≤ n → n ≤ 65535 → Box a F H' → Ch [a] H H' → Q (.int n) H'
theorem ok__law_limit (T : Txt K mg) : FnOk P w K mg base CX0 2 T.a__law_limit T.fd__law_limit ["box"] (sp__law_limit) := by
  have S := sc__law_limit
  refine T.F__law_limit.ok S (fun vs H Q E h => ?_) (fun cdv A outer s H vs Q E hr h => ?_)
  · obtain ⟨a, F, rfl, _⟩ := h
    rfl
  · obtain ⟨a, F, rfl, B, k⟩ := h
    refine ⟨_, (pss_cons (ps_if (pt_cmpR op_eq (pe_call (ok__law_draw T) (hr.mono (by decide)) rfl T.g__law_draw T.F__law_draw.kp T.B__law_draw .nil pass0 (pa_cons (pv 0) (pa_cons pe_int pa_nil))) pe_int (nomark _)) (pss_one (ps_ret (pe_op op_add pe_int (pe_call (ok__law_draw T) (hr.mono (by decide)) rfl T.g__law_draw T.F__law_draw.kp T.B__law_draw .nil pass0 (pa_cons (pv 0) (pa_cons pe_int pa_nil)))))) pss_nil)
      (pss_one (ps_ret (pe_op op_add pe_int (pe_call (ok__law_draw T) (hr.mono (by decide)) rfl T.g__law_draw T.F__law_draw.kp T.B__law_draw .nil pass0 (pa_cons (pv 0) (pa_cons pe_int pa_nil))))))), ?_⟩
    refine st__law_limit ?_
    o_args
    refine ⟨a, F, _, rfl, B, by decide, by decide, fun w H1 w0 w1 B1 c1 => ?_⟩
    o_args
    refine brD (fun q => ?_) (fun q => ?_)
    · o_args
      refine ⟨a, F, _, rfl, B1, by decide, by decide, fun n H2 n0 n1 B2 c2 => ?_⟩
      o_args
      exact k _ H2 (by omega) (by omega) B2 (c1.trans c2)
    · o_args
      refine ⟨a, F, _, rfl, B1, by decide, by decide, fun n H2 n0 n1 B2 c2 => ?_⟩
      o_args
      exact k _ H2 (by omega) (by omega) B2 (c1.trans c2)
/-- a list of ints, drawn one by one -/
theorem lcR {ta : TA} {tel : TE} {σ : L2.St} {H : Hp} {Q : VK} {j : Nat} {n : Int} (P : Addr → List Int → Hp → Prop) (hta : ∀ R : List V → Hp → Prop, R [.int n] H → ta σ H R) (n0 : 0 ≤ n) (n1 : n < 100000) (h0 : ∀ D, H D = none → P D [] (upd H D (.lst [])))
    (hs : ∀ D (i : Nat) ns H', H D = none → (i : Int) < n → H' D = some (.lst (ns.map V.int)) → ns.length = i → P D ns H' → ∀ Y : VK, (∀ x H3, H3 D = some (.lst (ns.map V.int)) → P D (ns ++ [x]) (upd H3 D (.lst ((ns ++ [x]).map V.int))) → Y (.int x) H3) → tel ((σ.set j none).set j (some (.int (0 + (i : Int))))) H' Y)
    (hd : ∀ D ns H', H D = none → H' D = some (.lst (ns.map V.int)) → (ns.length : Int) = n → P D ns H' → Q (.ref D) H') : tLc (iRng1 ta) (gName j) tYes tel [j] σ H Q := by
  refine hta _ ⟨n, rfl, by omega, by omega, fun D hD => lc_range (lo := 0) (n := n.toNat) (fun i H' => ∃ ns : List Int, ns.length = i ∧ H' D = some (.lst (ns.map V.int)) ∧ P D ns H') ⟨[], rfl, upd_same, h0 D hD⟩ ?_ ?_⟩
  · rintro i H' hi ⟨ns, hl, h1, hp⟩
    refine ⟨?_, ?_⟩
    · show ((((σ.set j none).set j (some (V.int (0 + (i : Int))))).set j none) = σ.set j none)
      rw [List.set_set, List.set_set]
    dsimp only [tYes]
    rw [if_pos rfl]
    refine hs D i ns H' hD (by omega) h1 hl hp _ fun x H3 e p => ⟨_, e, ?_, ns ++ [x], by rw [List.length_append, hl]; rfl, by rw [List.map_append]; exact upd_same, by rw [List.map_append] at p; exact p⟩
    rw [List.length_map, sizeLine_eq]
    omega
  · rintro H' ⟨ns, hl, h1, hp⟩
    exact hd D ns H' hD h1 (by omega) hp
theorem x_lcR {ta : TA} {tel : TE} {σ : L2.St} {H : Hp} {Q : VK} {j : Nat} (q : ta σ H fun vs H1 => ∃ n, vs = [.int n] ∧ tLc (iRng1 (tCons (tC (.int n)) tNil)) (gName j) tYes tel [j] σ H1 Q) : tLc (iRng1 ta) (gName j) tYes tel [j] σ H Q := by
  refine cast (congrArg (ta σ H) ?_) q
  funext vs H1
  refine propext ⟨?_, ?_⟩
  · rintro ⟨n, rfl, h⟩
    exact h
  · rintro ⟨n, rfl, h⟩
    exact ⟨n, rfl, n, rfl, h⟩
theorem Bytes.nil : Bytes [] := fun _ h => nomatch h
theorem Bytes.snoc {ns : List Int} {x : Int} (h : Bytes ns) (h0 : 0 ≤ x) (h1 : x ≤ 255) : Bytes (ns ++ [x]) := fun n hn => by
  rcases List.mem_append.mp hn with hn | hn
  · exact h n hn
  · rw [List.mem_singleton.mp hn]
    exact ⟨h0, h1⟩
theorem Bytes.take {ns : List Int} {k : Nat} (h : Bytes ns) : Bytes (ns.take k) := fun n hn => h n (List.mem_of_mem_take hn)
theorem Bytes.app {ns ms : List Int} (h : Bytes ns) (g : Bytes ms) : Bytes (ns ++ ms) := fun n hn => (List.mem_append.mp hn).elim (h n) (g n)
theorem Box.off {a l : Addr} {F : List Addr} {H : Hp} (B : Box a F H) (hl : H l = none) : l ≠ a := fun e => by
  obtain ⟨o, h⟩ := B.al
  rw [e, h] at hl
  cases hl
/-- bytes drawn behind one another into a new list -/
def Dn (a : Addr) (F : List Addr) (H : Hp) (D : Addr) (ns : List Int) (H' : Hp) : Prop := Bytes ns ∧ Box a (D :: F) H' ∧ Ch [D, a] H H'
theorem Dn.new {a D : Addr} {F : List Addr} {H : Hp} (B : Box a F H) (h : H D = none) : Dn a F H D [] (upd H D (.lst [])) := ⟨Bytes.nil, B.own h (Same.new h), Ch.of (Same.new h)⟩
theorem Dn.upd {a D : Addr} {F : List Addr} {H H' : Hp} {ns : List Int} {x : Int} {o : HO} {xs : List V} (h : Dn a F H D ns H') (h0 : 0 ≤ x) (h1 : x ≤ 255) (hd : H' D = some o) : Dn a F H D (ns ++ [x]) (upd H' D (.lst xs)) :=
  have c : Ch [D] H' (L2.upd H' D (.lst xs)) := Ch.ofX (by simp) SameX.upd upd_same
  ⟨h.1.snoc h0 h1, h.2.1.ch c (by simp), h.2.2.trans (c.more (by simp))⟩
theorem Dn.fin {a D : Addr} {F : List Addr} {H H' : Hp} {ns : List Int} (h : Dn a F H D ns H') (hD : H D = none) : Bytes ns ∧ Box a F H' ∧ Ch [a] H H' := ⟨h.1, h.2.1.less (fun b q => List.mem_cons_of_mem _ q), h.2.2.drop hD⟩
def sp__law_bytes : Sp := fun vs H Q _ => ∃ (a : Addr) (F : List Addr), vs = [.ref a, .int 70] ∧ Box a F H ∧ ∀ d ns H', H d = none → H' d = some (.lst (ns.map V.int)) → Bytes ns → ns.length ≤ 70 → Box a (d :: F) H' → Ch [a] H H' → Q (.ref d) H'
theorem ok__law_bytes (T : Txt K mg) : FnOk P w K mg base CX0 2 T.a__law_bytes T.fd__law_bytes ["box", "most"] (sp__law_bytes) := by
  have S := sc__law_bytes
  refine T.F__law_bytes.ok S (fun vs H Q E h => ?_) (fun cdv A outer s H vs Q E hr h => ?_)
  · obtain ⟨a, F, rfl, _⟩ := h
    rfl
  · obtain ⟨a, F, rfl, B, k⟩ := h
    refine ⟨_, (pss_cons (ps_set (i := 2) S.nd rfl (Or.inl rfl) (pe_call (ok__law_draw T) (hr.mono (by decide)) rfl T.g__law_draw T.F__law_draw.kp T.B__law_draw .nil pass0 (pa_cons (pv 0) (pa_cons pe_int pa_nil))))
      (C8.pss_cut (ps_if (pt_cmpR op_eq (pe_call (ok__law_draw T) (hr.mono (by decide)) rfl T.g__law_draw T.F__law_draw.kp T.B__law_draw .nil pass0 (pa_cons (pv 0) (pa_cons pe_int pa_nil))) pe_int (nomark _)) (pss_one (ps_set (i := 2) S.nd rfl (Or.inl rfl) (pe_call (ok__law_draw T) (hr.mono (by decide)) rfl T.g__law_draw T.F__law_draw.kp T.B__law_draw .nil pass0 (pa_cons (pv 0) (pa_cons (pe_op op_add (pv 1) pe_int) pa_nil))))) pss_nil)
      (pss_cons (ps_if (pt_cmpR op_eq (pe_call (ok__law_draw T) (hr.mono (by decide)) rfl T.g__law_draw T.F__law_draw.kp T.B__law_draw .nil pass0 (pa_cons (pv 0) (pa_cons pe_int pa_nil))) pe_int (nomark _)) (pss_one (ps_ret (pe_lc (own := [("k", 5)]) (g := gName 5) (tt := tYes) rfl S.nd (pi_range1 (by rfl) T.b_range (pa_cons (pv 2) pa_nil)) (blkOk_by (N := ["box", "most", "many", "base", "step", "k"]) (sc := defScope s__law_bytes) (by decide +kernel)) (fun _ _ _ _ _ => pg_name (i := 5) S.nd rfl (Or.inl rfl)) (fun _ _ _ _ _ => pts_nil) (fun _ _ _ _ _ => (pe_call (ok__law_draw T) (hr.mono (by decide)) rfl T.g__law_draw T.F__law_draw.kp T.B__law_draw .nil pass0 (pa_cons (pv 0) (pa_cons pe_int pa_nil))))))) pss_nil)
      (pss_cons (ps_set (i := 3) S.nd rfl (Or.inr rfl) (pe_call (ok__law_draw T) (hr.mono (by decide)) rfl T.g__law_draw T.F__law_draw.kp T.B__law_draw .nil pass0 (pa_cons (pv 0) (pa_cons pe_int pa_nil))))
      (pss_cons (ps_set (i := 4) S.nd rfl (Or.inr rfl) (pe_call (ok__law_draw T) (hr.mono (by decide)) rfl T.g__law_draw T.F__law_draw.kp T.B__law_draw .nil pass0 (pa_cons (pv 0) (pa_cons pe_int pa_nil))))
      (pss_one (ps_ret (pe_lc (own := [("k", 5)]) (g := gName 5) (tt := tYes) rfl S.nd (pi_range1 (by rfl) T.b_range (pa_cons (pv 2) pa_nil)) (blkOk_by (N := ["box", "most", "many", "base", "step", "k"]) (sc := defScope s__law_bytes) (by decide +kernel)) (fun _ _ _ _ _ => pg_name (i := 5) S.nd rfl (Or.inl rfl)) (fun _ _ _ _ _ => pts_nil) (fun _ _ _ _ _ => (pe_op op_mod (pe_callTy (T := "int") call_int1 (by rfl) T.b_int (by decide +kernel) (pa_cons (pe_op op_add (pv 3) (pe_op op_mul (pv 5) (pv 4))) pa_nil)) pe_int)))))))))), ?_⟩
    refine st__law_bytes ?_
    o_args
    refine ⟨a, F, _, rfl, B, by decide, by decide, fun m H1 m0 m1 B1 c1 => ?_⟩
    o_args
    refine ⟨fun σ H' => ∃ m : Int, σ = [some (.ref a), some (.int 70), some (.int m), none, none, none] ∧ 0 ≤ m ∧ m ≤ 70 ∧ Box a F H' ∧ Ch [a] H H', ?_, ?_⟩
    · o_args
      refine ⟨a, F, _, rfl, B1, by decide, by decide, fun w H2 w0 w1 B2 c2 => ?_⟩
      o_args
      refine brD (fun q => ?_) (fun q => ?_)
      · o_args
        refine ⟨a, F, _, rfl, B2, by decide, by decide, fun m' H3 m0' m1' B3 c3 => ?_⟩
        o_args
        exact ⟨_, rfl, m0', by omega, B3, (c1.trans c2).trans c3⟩
      · o_args
        exact ⟨_, rfl, m0, by omega, B2, c1.trans c2⟩
    rintro σ H3 ⟨m', rfl, m0', m1', B3, c3⟩
    o_args
    refine ⟨a, F, _, rfl, B3, by decide, by decide, fun w' H4 w0' w1' B4 c4 => ?_⟩
    have c4 := c3.trans c4
    o_args
    refine brD (fun q => ?_) (fun q => ?_)
    · o_args
      refine lcR (n := m') (Dn a F H4) (fun R q => ⟨_, rfl, q⟩) m0' (by omega) (fun D hD => Dn.new B4 hD) (fun D i ns H' hD hi hd hl hp Y hY => ?_) (fun D ns H' hD hd hl hp => ?_)
      · o_args
        refine ⟨a, D :: F, _, rfl, hp.2.1, by decide, by decide, fun x H5 x0 x1 B5 c5 => ?_⟩
        have hd5 := c5.at (by simp [B4.off hD]) hd
        exact hY x H5 hd5 (Dn.upd ⟨hp.1, B5, hp.2.2.trans (c5.more (by simp))⟩ x0 (by omega) hd5)
      · obtain ⟨b, B5, c5⟩ := hp.fin hD
        exact k D ns H' (c4.none hD) hd b (by omega) hp.2.1 (c4.trans c5)
    o_args
    refine ⟨a, F, _, rfl, B4, by decide, by decide, fun b H5 b0 b1 B5 c5 => ?_⟩
    o_args
    refine ⟨a, F, _, rfl, B5, by decide, by decide, fun st H6 s0 s1 B6 c6 => ?_⟩
    have c6 := (c4.trans c5).trans c6
    o_args
    refine lcR (n := m') (Dn a F H6) (fun R q => ⟨_, rfl, q⟩) m0' (by omega) (fun D hD => Dn.new B6 hD) (fun D i ns H' hD hi hd hl hp Y hY => ?_) (fun D ns H' hD hd hl hp => ?_)
    · o_args
      refine x_mulL ⟨by omega, by omega⟩ ?_
      o_args
      exact hY _ H' hd (Dn.upd hp (Int.emod_nonneg _ (by decide)) (by have := Int.emod_lt_of_pos (b + (0 + (i : Int)) * st) (show (0 : Int) < 256 by decide); omega) hd)
    · obtain ⟨b, B5, c5⟩ := hp.fin hD
      exact k D ns H' (c6.none hD) hd b (by omega) hp.2.1 (c6.trans c5)
/-! ### what is looked at -/
def sp__law_tuple_is (K : PySem.W.Frag) : Sp := fun vs H Q _ => ∃ (t d : Addr) (ns : List Int), vs = [.ref t, .ref d] ∧ H t = some (.tup (ns.map V.int)) ∧ H d = some (.lst (ns.map V.int)) ∧ ns.length ≤ 60000 ∧ Q (.bl true) H
theorem ok__law_tuple_is (T : Txt K mg) : FnOk P w K mg base CX0 2 T.a__law_tuple_is T.fd__law_tuple_is ["told", "due"] (sp__law_tuple_is K) := by
  have S := sc__law_tuple_is
  refine T.F__law_tuple_is.ok S (fun vs H Q E h => ?_) (fun cdv A outer s H vs Q E hr h => ?_)
  · obtain ⟨t, d, ns, rfl, _⟩ := h
    rfl
  · obtain ⟨t, d, ns, rfl, ht, hd, hz, k⟩ := h
    refine ⟨_, (pss_cons (ps_if (PW.pt (pw_or (pt_not (pt_val (pe_callB (id := "isinstance") call_isi (by rfl) T.b_isinstance (by decide +kernel) (pa_cons (pv 0) (pa_cons (pe_bltn (v := .ty "tuple") (u := .type "tuple") (by rfl) T.b_tuple (by decide +kernel) rfl) pa_nil))))) (pw_or1 (pt_cmpR op_ne (pe_callB (id := "len") (call_lenK (K := K) rfl) (by rfl) T.b_len (by decide +kernel) (pa_cons (pv 0) pa_nil)) (pe_callB (id := "len") (call_lenK (K := K) rfl) (by rfl) T.b_len (by decide +kernel) (pa_cons (pv 1) pa_nil)) (nomark _))))) (pss_one (ps_ret pe_bl)) pss_nil)
      (pss_cons (ps_for PassesOwn.never rfl (pi_range1 (by rfl) T.b_range (pa_cons (pe_callB (id := "len") (call_lenK (K := K) rfl) (by rfl) T.b_len (by decide +kernel) (pa_cons (pv 1) pa_nil)) pa_nil)) (pg_name (i := 2) S.nd rfl (Or.inl rfl)) (pss_one (ps_if (PW.pt (pw_or (pt_not (pt_val (pe_call (ok__law_is_whole T) (hr.mono (by decide)) rfl T.g__law_is_whole T.F__law_is_whole.kp T.B__law_is_whole .nil pass0 (pa_cons (pe_ix ix_tup (pv 0) (pv 2) (fun _ _ => rfl)) pa_nil)))) (pw_or1 (pt_cmpR op_ne (pe_ix ix_tup (pv 0) (pv 2) (fun _ _ => rfl)) (pe_ix ix_list (pv 1) (pv 2) (fun _ _ => rfl)) (nomark _))))) (pss_one (ps_ret pe_bl)) pss_nil)))
      (pss_one (ps_ret pe_bl)))), ?_⟩
    refine st__law_tuple_is ?_
    o_args
    refine ⟨_, _, _, _, true, rfl, .ty _, .base (.tup ht), kit_ty (by decide +kernel), ?_⟩
    o_args
    refine lenA (.inr (SqT.of ht)) ?_
    o_args
    refine lenA (.inl (SqL.of hd)) ?_
    o_args
    refine brDT rfl ?_
    o_args
    refine lenA (.inl (SqL.of hd)) ?_
    o_args
    rw [List.length_map]
    refine rngF (by omega) (by omega) ?_
    refine for_rangeK (fun i σ H' => (∃ z, σ = [some (.ref t), some (.ref d), z]) ∧ H' = H) ⟨⟨none, rfl⟩, rfl⟩ (fun i σ H' hi h => ?_) (fun σ H' h => ?_)
    · obtain ⟨⟨z, rfl⟩, rfl⟩ := h
      have il : i < ns.length := by omega
      have gi : (ns.map V.int)[i]? = some (.int ns[i]) := by rw [List.getElem?_map, List.getElem?_eq_getElem il]; rfl
      generalize ns[i] = x at gi
      o_args
      rw [show (0 : Int) + (i : Int) = (i : Int) by omega]
      refine ixT (SqT.of ht) gi ?_
      o_args
      refine ⟨_, true, rfl, intK_int x, ?_⟩
      o_args
      refine ixT (SqT.of ht) gi ?_
      o_args
      refine ixL hd gi ?_
      o_args
      refine brDT rfl ?_
      o_args
      exact ⟨⟨_, rfl⟩, rfl⟩
    · obtain ⟨⟨z, rfl⟩, rfl⟩ := h
      o_args
      exact k
/-- which error it is: a number's, a setting's, a state's -/
structure Only (K : PySem.W.Frag) (cl cn cs ca D : Addr) (n s t : Bool) : Prop where
  e : ExcC K D
  l : PySem.W.kitOne K (.ref D) (.ref cl) = some true
  v : PySem.W.kitOne K (.ref D) (.type "ValueError") = some true
  n : PySem.W.kitOne K (.ref D) (.ref cn) = some n
  s : PySem.W.kitOne K (.ref D) (.ref cs) = some s
  t : PySem.W.kitOne K (.ref D) (.ref ca) = some t
def sp__law_only (K : PySem.W.Frag) (cl cn cs ca : Addr) (a : Addr) (cls : Value) (d : Option Addr) : Sp := fun vs H Q _ => ∃ (D dd : Addr) (fs : List (Str × V)) (n s t : Bool), vs = [.ref a, .bl n, .bl s, .bl t] ∧ cls = .ref D ∧ d = some dd ∧ H dd = some (.xd fs) ∧ Only K cl cn cs ca D n s t ∧ Q (.bl true) H
theorem ok__law_only (T : Txt K mg) : FnPin P w K mg base 1 T.a__law_only T.fd__law_only ["e", "number", "setting", "state"] (fun a cls d => sp__law_only K T.c_LossError T.c_InvalidNumber T.c_InvalidSetting T.c_NotAllowed a cls d) := by
  have S := sc__law_only
  refine pin_fn T.F__law_only S (fun a cls d vs H Q E h => ?_) (fun cdv A outer s H vs Q E a oe cls d hz hf hr h => ?_)
  · obtain ⟨D, dd, fs, n, s, t, rfl, _⟩ := h
    rfl
  · obtain ⟨D, dd, fs, n, s, t, rfl, rfl, rfl, hd, O, k⟩ := h
    refine ⟨_, (pss_cons (ps_if (PW.pt (pw_or (pt_not (pt_val (pe_callB (id := "isinstance") (call_isP List.mem_cons_self hz hf) (by rfl) T.b_isinstance (by decide +kernel) (pa_cons (pv 0) (pa_cons (pe_glob (v := .ref T.c_LossError) rfl T.X_LossError.g rfl) pa_nil))))) (pw_or1 (pt_not (pt_val (pe_callB (id := "isinstance") (call_isP List.mem_cons_self hz hf) (by rfl) T.b_isinstance (by decide +kernel) (pa_cons (pv 0) (pa_cons (pe_bltn (v := .ty "ValueError") (u := .type "ValueError") (by rfl) T.b_ValueError (by decide +kernel) rfl) pa_nil)))))))) (pss_one (ps_ret pe_bl)) pss_nil)
      (pss_cons (ps_if (PW.pt (pw_or (pt_cmpR op_ne (pe_callB (id := "isinstance") (call_isP List.mem_cons_self hz hf) (by rfl) T.b_isinstance (by decide +kernel) (pa_cons (pv 0) (pa_cons (pe_glob (v := .ref T.c_InvalidNumber) rfl T.X_InvalidNumber.g rfl) pa_nil))) (pv 1) (nomark _)) (pw_or1 (pt_cmpR op_ne (pe_callB (id := "isinstance") (call_isP List.mem_cons_self hz hf) (by rfl) T.b_isinstance (by decide +kernel) (pa_cons (pv 0) (pa_cons (pe_glob (v := .ref T.c_InvalidSetting) rfl T.X_InvalidSetting.g rfl) pa_nil))) (pv 2) (nomark _))))) (pss_one (ps_ret pe_bl)) pss_nil)
      (pss_one (ps_ret (pe_cmpR op_eq (pe_callB (id := "isinstance") (call_isP List.mem_cons_self hz hf) (by rfl) T.b_isinstance (by decide +kernel) (pa_cons (pv 0) (pa_cons (pe_glob (v := .ref T.c_NotAllowed) rfl T.X_NotAllowed.g rfl) pa_nil))) (pv 3) (nomark _)))))), ?_⟩
    refine st__law_only ?_
    o_args
    refine errX (fun _ r => r) O.e hd O.l ?_
    o_args
    refine errX (fun _ r => r) O.e hd O.v ?_
    o_args
    refine errX (fun _ r => r) O.e hd O.n ?_
    o_args
    refine brDT rfl ?_
    o_args
    refine errX (fun _ r => r) O.e hd O.s ?_
    o_args
    refine brDT rfl ?_
    o_args
    refine errX (fun _ r => r) O.e hd O.t ?_
    o_args
    rw [decide_eq_true rfl]
    exact k
def Bx.kvs (B : Bx) (c : Addr) : List (Key × V) := [(.inr "limit", .int B.lim), (.inr "content", .ref c), (.inr "base", .int B.base), (.inr "closed", .bl B.closed), (.inr "urgent", .int B.urg)]
/-- the law's own account -/
def StAt (H : Hp) (q c : Addr) (B : Bx) : Prop := H q = some (.dK (B.kvs c)) ∧ H c = some (.lst (B.con.map V.int))
theorem StAt.same {H H' : Hp} {q c : Addr} {B : Bx} (h : StAt H q c B) (s : Same H H') : StAt H' q c B := ⟨s _ _ h.1, s _ _ h.2⟩
theorem StAt.ch {H H' : Hp} {q c : Addr} {B : Bx} {G : List Addr} (h : StAt H q c B) (s : Ch G H H') (n : q ∉ G) (m : c ∉ G) : StAt H' q c B := ⟨s.at n h.1, s.at m h.2⟩
/-- pairs of equal numbers -/
def Twins (H : Hp) (ts : List Addr) : Prop := ∀ t ∈ ts, ∃ n : Int, H t = some (.tup [.int n, .int n])
theorem Twins.same {H H' : Hp} {ts : List Addr} (h : Twins H ts) (s : Same H H') : Twins H' ts := fun t ht => (h t ht).elim fun n h => ⟨n, s _ _ h⟩
theorem Twins.nil {H : Hp} : Twins H [] := fun _ h => nomatch h
theorem Twins.cons {H : Hp} {t : Addr} {ts : List Addr} {n : Int} (e : H t = some (.tup [.int n, .int n])) (h : Twins H ts) : Twins H (t :: ts) := fun x hx => by
  rcases List.mem_cons.mp hx with z | z
  · exact z ▸ ⟨n, e⟩
  · exact h x z
def sp__law_state (K : PySem.W.Frag) (C : Addr) : Sp := fun vs H Q _ => ∃ (p l q c : Addr) (B : Bx), vs = [.ref p, .ref q] ∧ OutAt C H p l B ∧ StAt H q c B ∧ ∀ H', Same H H' → Q (.bl true) H'
theorem ok__law_state (T : Txt K mg) : FnOk P w K mg base CX0 3 T.a__law_state T.fd__law_state ["outbox", "state"] (sp__law_state K T.c_Outbox) := by
  have S := sc__law_state
  refine T.F__law_state.ok S (fun vs H Q E h => ?_) (fun cdv A outer s H vs Q E hr h => ?_)
  · obtain ⟨p, l, q, c, B, rfl, _⟩ := h
    rfl
  · obtain ⟨p, l, q, c, B, rfl, O, A, k⟩ := h
    obtain ⟨⟨dx, hp⟩, hl, ok⟩ := id O
    obtain ⟨hq, hc⟩ := id A
    unfold Bx.kvs at hq
    refine ⟨_, (pss_cons (ps_set (i := 2) S.nd rfl (Or.inl rfl) (pe_op op_add pe_int (pe_callB (id := "len") (call_lenK (K := K) rfl) (by rfl) T.b_len (by decide +kernel) (pa_cons (pe_dget (room_u1 hr) (pv 1) pe_str (fun _ _ => rfl)) pa_nil))))
      (pss_cons (ps_set (i := 3) S.nd rfl (Or.inl rfl) (pe_callB (id := "max") (call_max2K rfl) (by rfl) T.b_max (by decide +kernel) (pa_cons pe_int (pa_cons (pe_op op_sub (pe_dget (room_u1 hr) (pv 1) pe_str (fun _ _ => rfl)) (pe_op op_sub (pv 2) (pe_dget (room_u1 hr) (pv 1) pe_str (fun _ _ => rfl)))) pa_nil))))
      (pss_cons (ps_set (i := 4) S.nd rfl (Or.inl rfl) (pe_lst (pa_cons (pe_tup (pa_cons (pe_fld (pv 0) rfl) (pa_cons (pe_dget (room_u1 hr) (pv 1) pe_str (fun _ _ => rfl)) pa_nil))) (pa_cons (pe_tup (pa_cons (pe_fld (pv 0) rfl) (pa_cons (pv 2) pa_nil))) (pa_cons (pe_tup (pa_cons (pe_fld (pv 0) rfl) (pa_cons (pe_dget (room_u1 hr) (pv 1) pe_str (fun _ _ => rfl)) pa_nil))) pa_nil)))))
      (pss_cons (ps_set (i := 4) S.nd rfl (Or.inl rfl) (pe_op op_cat (pv 4) (pe_lst (pa_cons (pe_tup (pa_cons (pe_prop (pv 0) T.cl_Outbox T.PR_Outbox_limit (ok_Outbox_limit T) (hr.mono (by decide)) T.B_Outbox_limit .nil pass0 rfl) (pa_cons (pe_dget (room_u1 hr) (pv 1) pe_str (fun _ _ => rfl)) pa_nil))) (pa_cons (pe_tup (pa_cons (pe_prop (pv 0) T.cl_Outbox T.PR_Outbox_free (ok_Outbox_free T) (hr.mono (by decide)) T.B_Outbox_free .nil pass0 rfl) (pa_cons (pv 3) pa_nil))) pa_nil)))))
      (pss_cons (ps_set (i := 4) S.nd rfl (Or.inl rfl) (pe_op op_cat (pv 4) (pe_lst (pa_cons (pe_tup (pa_cons (pe_prop (pv 0) T.cl_Outbox T.PR_Outbox_bound (ok_Outbox_bound T) (hr.mono (by decide)) T.B_Outbox_bound .nil pass0 rfl) (pa_cons (pe_op op_add (pv 2) (pe_callTy (T := "int") call_int1 (by rfl) T.b_int (by decide +kernel) (pa_cons (pe_dget (room_u1 hr) (pv 1) pe_str (fun _ _ => rfl)) pa_nil))) pa_nil))) pa_nil))))
      (pss_cons (ps_for PassesOwn.never rfl (pi_list (pv 4)) (pg_name (i := 5) S.nd rfl (Or.inl rfl)) (pss_one (ps_if (PW.pt (pw_or (pt_not (pt_val (pe_call (ok__law_is_whole T) (hr.mono (by decide)) rfl T.g__law_is_whole T.F__law_is_whole.kp T.B__law_is_whole .nil pass0 (pa_cons (pe_ix ix_tup (pv 5) pe_int (fun _ _ => rfl)) pa_nil)))) (pw_or1 (pt_cmpR op_ne (pe_ix ix_tup (pv 5) pe_int (fun _ _ => rfl)) (pe_ix ix_tup (pv 5) pe_int (fun _ _ => rfl)) (nomark _))))) (pss_one (ps_ret pe_bl)) pss_nil)))
      (pss_cons (ps_if (pt_val (pe_dget (room_u1 hr) (pv 1) pe_str (fun _ _ => rfl))) (pss_one (ps_ret (pe_cmpR op_is_bl (pe_fld (pv 0) rfl) pe_bl (nomark _)))) pss_nil)
      (pss_one (ps_ret (pe_cmpR op_is_bl (pe_fld (pv 0) rfl) pe_bl (nomark _))))))))))), ?_⟩
    refine st__law_state ?_
    o_args
    refine lenA (.inl (SqL.of hc)) ?_
    rw [List.length_map]
    o_args
    refine fget hp T.cl_Outbox T.n_Outbox_base rfl ?_
    o_args
    refine newTup (by simp) fun t1 H1 n1 s1 h1 => ?_
    have hp1 := s1 _ _ hp
    have hq1 := s1 _ _ hq
    o_args
    refine fget hp1 T.cl_Outbox T.n_Outbox_end rfl ?_
    o_args
    refine newTup (by simp) fun t2 H2 n2 s2 h2 => ?_
    have hp2 := s2 _ _ hp1
    have hq2 := s2 _ _ hq1
    o_args
    refine fget hp2 T.cl_Outbox T.n_Outbox_urgent_end rfl ?_
    o_args
    refine newTup (by simp) fun t3 H3 n3 s3 h3 => ?_
    o_args
    refine newList (by simp) fun L1 H4 n4 s4 h4 => ?_
    have hp4 := s4 _ _ (s3 _ _ hp2)
    have hq4 := s4 _ _ (s3 _ _ hq2)
    have O4 := (((O.same s1).same s2).same s3).same s4
    o_args
    refine ⟨p, dx, _, rfl, hp4, p, l, B, rfl, O4, ?_⟩
    o_args
    refine newTup (by simp) fun t5 H5 n5 s5 h5 => ?_
    have hp5 := s5 _ _ hp4
    have hq5 := s5 _ _ hq4
    have O5 := O4.same s5
    o_args
    refine ⟨p, dx, _, rfl, hp5, p, l, B, rfl, O5, ?_⟩
    o_args
    refine newTup (by simp) fun t6 H6 n6 s6 h6 => ?_
    o_args
    refine newList (by simp) fun L2 H7 n7 s7 h7 => ?_
    o_args
    refine catList (s7 _ _ (s6 _ _ (s5 _ _ h4))) h7 (by simp) fun L3 H8 n8 s8 h8 => ?_
    have hp8 := s8 _ _ (s7 _ _ (s6 _ _ hp5))
    have hq8 := s8 _ _ (s7 _ _ (s6 _ _ hq5))
    have O8 := ((O5.same s6).same s7).same s8
    o_args
    refine ⟨p, dx, _, rfl, hp8, p, l, B, rfl, O8, ?_⟩
    o_args
    refine .inr ⟨_, rfl, ?_⟩
    o_args
    have eb : 1 + (B.con.length : Int) + (if B.closed = true then 1 else 0) = B.bound := by
      unfold Bx.bound
      split <;> omega
    rw [eb]
    refine newTup (by simp) fun t9 H9 n9 s9 h9 => ?_
    o_args
    refine newList (by simp) fun L4 H10 n10 s10 h10 => ?_
    o_args
    refine catList (s10 _ _ (s9 _ _ h8)) h10 (by simp) fun L5 H11 n11 s11 h11 => ?_
    have z8 := (s9.trans s10).trans s11
    have z4 := (((s5.trans s6).trans s7).trans s8).trans z8
    have tw : Twins H11 [t1, t2, t3, t5, t6, t9] := by
      refine .cons ((((s2.trans s3).trans s4).trans z4) _ _ h1) (.cons (((s3.trans s4).trans z4) _ _ h2) (.cons ((s4.trans z4) _ _ h3) (.cons ((((s6.trans s7).trans s8).trans z8) _ _ h5) (.cons (((s7.trans s8).trans z8) _ _ h6) (.cons ((s10.trans s11) _ _ h9) .nil)))))
    have hp11 := z8 _ _ hp8
    have hq11 := z8 _ _ hq8
    have S11 : Same H H11 := (((s1.trans s2).trans s3).trans s4).trans z4
    have h11 : H11 L5 = some (.lst ([t1, t2, t3, t5, t6, t9].map V.ref)) := h11
    generalize [t1, t2, t3, t5, t6, t9] = ts at tw h11
    clear h1 h2 h3 h4 h5 h6 h7 h8 h9 h10 s1 s2 s3 s4 s5 s6 s7 s8 s9 s10 s11 O4 O5 O8 z8 z4
    o_args
    refine overL (SqL.of h11) ?_
    refine for_list (xs := ts.map V.ref) (fun i σ H' => (∃ z, σ = [some (.ref p), some (.ref q), some (.int (1 + (B.con.length : Int))), some (.int B.spare), some (.ref L5), z]) ∧ H' = H11) ⟨⟨none, rfl⟩, rfl⟩ (fun i σ H' _ h => ?_) (fun i x σ H' hi h => ?_) (fun σ H' h => ?_)
    · obtain ⟨_, rfl⟩ := h
      exact SqL.of h11
    · obtain ⟨⟨z, rfl⟩, rfl⟩ := h
      rw [List.getElem?_map] at hi
      obtain ⟨t, et, rfl⟩ := Option.map_eq_some_iff.mp hi
      obtain ⟨n, ht⟩ := tw t (List.mem_of_getElem? et)
      o_args
      refine ⟨_, true, rfl, intK_int n, ?_⟩
      o_args
      refine brDT rfl ?_
      o_args
      exact ⟨⟨_, rfl⟩, rfl⟩
    · obtain ⟨⟨z, rfl⟩, rfl⟩ := h
      o_args
      refine br2 (fun e => ?_) (fun e => ?_)
      · o_args
        refine fget hp11 T.cl_Outbox T.n_Outbox_closed rfl ?_
        o_args
        refine ⟨_, _, rfl, rfl, ?_⟩
        rw [e, decide_eq_true rfl]
        exact k _ S11
      · o_args
        refine fget hp11 T.cl_Outbox T.n_Outbox_closed rfl ?_
        o_args
        refine ⟨_, _, rfl, rfl, ?_⟩
        rw [e, decide_eq_true rfl]
        exact k _ S11
theorem only_state (T : Txt K mg) : Only K T.c_LossError T.c_InvalidNumber T.c_InvalidSetting T.c_NotAllowed T.c_NotAllowed false false true := ⟨T.X_NotAllowed.e, T.Kt_NotAllowed_LossError, T.Kv_NotAllowed, T.Kt_NotAllowed_InvalidNumber, T.Kt_NotAllowed_InvalidSetting, T.Kt_NotAllowed_NotAllowed⟩
theorem only_number (T : Txt K mg) : Only K T.c_LossError T.c_InvalidNumber T.c_InvalidSetting T.c_NotAllowed T.c_InvalidNumber true false false := ⟨T.X_InvalidNumber.e, T.Kt_InvalidNumber_LossError, T.Kv_InvalidNumber, T.Kt_InvalidNumber_InvalidNumber, T.Kt_InvalidNumber_InvalidSetting, T.Kt_InvalidNumber_NotAllowed⟩
theorem only_setting (T : Txt K mg) : Only K T.c_LossError T.c_InvalidNumber T.c_InvalidSetting T.c_NotAllowed T.c_InvalidSetting false true false := ⟨T.X_InvalidSetting.e, T.Kt_InvalidSetting_LossError, T.Kv_InvalidSetting, T.Kt_InvalidSetting_InvalidNumber, T.Kt_InvalidSetting_InvalidSetting, T.Kt_InvalidSetting_NotAllowed⟩
/-- bytes in a list or in a tuple -/
def DatW (H : Hp) (d : Addr) (ns : List Int) : Prop := H d = some (.lst (ns.map V.int)) ∨ H d = some (.tup (ns.map V.int))
theorem DatW.seq {K : PySem.W.Frag} {H : Hp} {d : Addr} {ns : List Int} (h : DatW H d ns) : SeqA K H d (ns.map V.int) := h.elim .lst .tup
theorem DatW.same {H H' : Hp} {d : Addr} {ns : List Int} (h : DatW H d ns) (s : Same H H') : DatW H' d ns := h.elim (fun h => .inl (s _ _ h)) fun h => .inr (s _ _ h)
theorem DatW.ch {H H' : Hp} {d : Addr} {ns : List Int} {G : List Addr} (h : DatW H d ns) (s : Ch G H H') (n : d ∉ G) : DatW H' d ns := h.elim (fun h => .inl (s.at n h)) fun h => .inr (s.at n h)
/-- the outbox and its account, apart -/
structure Ow (C p l q c : Addr) (B : Bx) (H : Hp) : Prop where
  o : OutAt C H p l B
  s : StAt H q c B
  n : l ≠ c
theorem Ow.qp {C p l q c : Addr} {B : Bx} {H : Hp} (w : Ow C p l q c B H) : p ≠ q ∧ p ≠ l ∧ p ≠ c ∧ q ≠ l ∧ q ≠ c := by
  obtain ⟨⟨⟨dx, h1⟩, h2, _⟩, ⟨h3, h4⟩, _⟩ := w
  refine ⟨fun e => ?_, fun e => ?_, fun e => ?_, fun e => ?_, fun e => ?_⟩
  · rw [e, h3] at h1; cases h1
  · rw [e, h2] at h1; cases h1
  · rw [e, h4] at h1; cases h1
  · rw [e, h2] at h3; cases h3
  · rw [e, h4] at h3; cases h3
theorem Ow.same {C p l q c : Addr} {B : Bx} {H H' : Hp} (w : Ow C p l q c B H) (s : Same H H') : Ow C p l q c B H' := ⟨w.o.same s, w.s.same s, w.n⟩
theorem Ow.ch {C p l q c : Addr} {B : Bx} {H H' : Hp} {G : List Addr} (w : Ow C p l q c B H) (s : Ch G H H') (h : ∀ b ∈ [p, l, q, c], b ∉ G) : Ow C p l q c B H' := ⟨w.o.ch s (h p (by simp)) (h l (by simp)), w.s.ch s (h q (by simp)) (h c (by simp)), w.n⟩
def Bx.did (B : Bx) (u : Bool) (ns : List Int) : Bx := if u = true then B.urge ns else B.add ns
theorem Bx.did_con (B : Bx) (u : Bool) (ns : List Int) : (B.did u ns).con = B.con ++ ns.take (B.many ns).toNat := by cases u <;> rfl
def sp__law_adds (K : PySem.W.Frag) (C : Addr) : Sp := fun vs H Q _ => ∃ (p l q c d : Addr) (B : Bx) (ns : List Int) (u : Bool), vs = [.ref p, .ref q, .ref d, .bl u] ∧ Ow C p l q c B H ∧ DatW H d ns ∧ Bytes ns ∧ Bytes B.con ∧ ns.length ≤ 100 ∧ B.con.length < 30000 ∧ d ≠ l ∧ d ≠ c ∧
  ∀ c' B' H', Ow C p l q c' B' H' → (c' = c ∨ H c' = none) → Bytes B'.con → B'.con.length ≤ B.con.length + ns.length → Ch [p, l, q, d] H H' → Q (.bl true) H'
set_option maxHeartbeats 0 in
theorem ok__law_adds (T : Txt K mg) : FnOk P w K mg base CX0 7 T.a__law_adds T.fd__law_adds ["outbox", "state", "data", "urgent"] (sp__law_adds K T.c_Outbox) := by
  have S := sc__law_adds
  refine T.F__law_adds.ok S (fun vs H Q E h => ?_) (fun cdv A outer s H vs Q E hr h => ?_)
  · obtain ⟨p, l, q, c, d, B, ns, u, rfl, _⟩ := h
    rfl
  · obtain ⟨p, l, q, c, d, B, ns, u, rfl, W, hD, hb, hbc, hn, hz, dl, dc, k⟩ := h
    obtain ⟨⟨⟨dx, hp⟩, hl, ok⟩, ⟨hq, hc⟩, lc⟩ := id W
    obtain ⟨pq, pl, pc, ql, qc⟩ := W.qp
    have dp : d ≠ p := fun e => by
      rw [e] at hD
      rcases hD with hD | hD <;> rw [hp] at hD <;> cases hD
    have dq : d ≠ q := fun e => by
      rw [e] at hD
      rcases hD with hD | hD <;> rw [hq] at hD <;> cases hD
    have mn := B.many0 ns
    unfold Bx.kvs at hq
    refine ⟨_, (pss_cons (ps_set (i := 4) S.nd rfl (Or.inl rfl) (pe_callTy (T := "list") (call_listK (K := K) rfl) (by rfl) T.b_list (by decide +kernel) (pa_cons (pv 2) pa_nil)))
      (pss_cons (ps_set (i := 5) S.nd rfl (Or.inl rfl) (pe_callB (id := "max") (call_max2K rfl) (by rfl) T.b_max (by decide +kernel) (pa_cons pe_int (pa_cons (pe_op op_sub (pe_dget (room_u1 hr) (pv 1) pe_str (fun _ _ => rfl)) (pe_op op_sub (pe_op op_add pe_int (pe_callB (id := "len") (call_lenK (K := K) rfl) (by rfl) T.b_len (by decide +kernel) (pa_cons (pe_dget (room_u1 hr) (pv 1) pe_str (fun _ _ => rfl)) pa_nil))) (pe_dget (room_u1 hr) (pv 1) pe_str (fun _ _ => rfl)))) pa_nil))))
      (pss_cons (ps_set (i := 6) S.nd rfl (Or.inl rfl) (pe_callB (id := "min") (call_min2K rfl) (by rfl) T.b_min (by decide +kernel) (pa_cons (pv 5) (pa_cons (pe_callB (id := "len") (call_lenK (K := K) rfl) (by rfl) T.b_len (by decide +kernel) (pa_cons (pv 4) pa_nil)) pa_nil))))
      (C8.pss_cut (ps_try_cl rfl rfl takes0 (fun W pn xe tk po => (pss_one (ps_if (pt_val (pv 3)) (pss_one (ps_set (i := 7) S.nd rfl (Or.inl rfl) (pe_methX (pv 0) T.cl_Outbox T.m_Outbox_urge (ok_Outbox_urge T) (hr.mono (by decide)) T.B_Outbox_urge (fun σ => passAt tk σ) (pa_cons (pv 2) pa_nil)))) (pss_one (ps_set (i := 7) S.nd rfl (Or.inl rfl) (pe_methX (pv 0) T.cl_Outbox T.m_Outbox_put (ok_Outbox_put T) (hr.mono (by decide)) T.B_Outbox_put (fun σ => passAt tk σ) (pa_cons (pv 2) pa_nil)))))))
      (ClOk.named (i := 8) S.nd rfl rfl ⟨rfl, by decide, .inl T.X_NotAllowed.g⟩ (fun a oe cls d pn hz hf => (pss_one (ps_ret (pe_and (pe_dget (room_u1 hr) (pv 1) pe_str (fun _ _ => rfl)) (pe_and (pe_cmpR op_eq (pe_xg hz hf (pv 8)) pe_str (nomark _)) (pe_one (pe_callPin (fun _ _ _ => False) hz hf (ok__law_only T) (hr.mono (by decide)) rfl T.g__law_only T.F__law_only.kp T.B__law_only (pa_cons (pv 8) (pa_cons pe_bl (pa_cons pe_bl (pa_cons pe_bl pa_nil)))))))))))
      ClOk.nil))
      (pss_cons (ps_if (PW.pt (pw_or (pt_val (pe_dget (room_u1 hr) (pv 1) pe_str (fun _ _ => rfl))) (pw_or (pt_not (pt_val (pe_call (ok__law_is_whole T) (hr.mono (by decide)) rfl T.g__law_is_whole T.F__law_is_whole.kp T.B__law_is_whole .nil pass0 (pa_cons (pv 7) pa_nil)))) (pw_or (pt_cmpR op_ne (pv 7) (pv 6) (nomark _)) (pw_or1 (pt_cmpR (op_neD hr.units) (pe_callTy (T := "list") (call_listK (K := K) rfl) (by rfl) T.b_list (by decide +kernel) (pa_cons (pv 2) pa_nil)) (pv 4) (nomark _))))))) (pss_one (ps_ret pe_bl)) pss_nil)
      (C8.pss_cut (ps_if (pt_val (pe_callB (id := "isinstance") call_isi (by rfl) T.b_isinstance (by decide +kernel) (pa_cons (pv 2) (pa_cons (pe_bltn (v := .ty "list") (u := .type "list") (by rfl) T.b_list (by decide +kernel) rfl) pa_nil)))) (pss_cons (ps_expr (pe_bm PySem.F.plainAttrs_list PySem.F.slot_list_append PySem.F.type_list_append mt_append (pv 2) (pa_cons pe_int pa_nil)))
      (pss_one (ps_asg pe_int (pg_sub (pv 2) pe_int set_list)))) pss_nil)
      (pss_cons (ps_dput (room_u1 hr) (pv 1) pe_str (pe_op op_cat (pe_dget (room_u1 hr) (pv 1) pe_str (fun _ _ => rfl)) (pe_slice sl_list (pv 4) po_none (po_some (pv 6)))) rfl)
      (pss_cons (ps_if (PW.pt (pw_and (pt_val (pv 3)) (pw_and1 (pt_cmpR op_gt (pv 6) pe_int (nomark _))))) (pss_one (ps_dput (room_u1 hr) (pv 1) pe_str (pe_op op_add pe_int (pe_callB (id := "len") (call_lenK (K := K) rfl) (by rfl) T.b_len (by decide +kernel) (pa_cons (pe_dget (room_u1 hr) (pv 1) pe_str (fun _ _ => rfl)) pa_nil))) rfl)) pss_nil)
      (pss_one (ps_ret pe_bl)))))))))), ?_⟩
    refine st__law_adds ?_
    o_args
    refine listOf hD.seq fun m H1 nm s1 h1 => ?_
    have hq1 := s1 _ _ hq
    have hc1 := s1 _ _ hc
    have W1 := W.same s1
    obtain ⟨⟨⟨_, hp1⟩, _, _⟩, _, _⟩ := id W1
    have D1 := hD.same s1
    have nl : m ≠ l := fun e => by rw [e, hl] at nm; cases nm
    have np : m ≠ p := fun e => by rw [e, hp] at nm; cases nm
    have nq : m ≠ q := fun e => by rw [e, hq] at nm; cases nm
    have nd : m ≠ d := fun e => by rw [e] at nm; rcases hD with hD | hD <;> rw [nm] at hD <;> cases hD
    o_args
    refine lenA (.inl (SqL.of hc1)) ?_
    rw [List.length_map]
    o_args
    refine lenA (.inl (SqL.of h1)) ?_
    rw [List.length_map]
    o_args
    have em : min (max 0 (B.lim - (1 + (B.con.length : Int) - B.base))) (ns.length : Int) = B.many ns := rfl
    rw [em]
    refine ⟨fun σ H' => ∃ z, σ = [some (.ref p), some (.ref q), some (.ref d), some (.bl u), some (.ref m), some (.int B.spare), some (.int (B.many ns)), some (.int (B.many ns)), z] ∧ B.closed = false ∧ Ch [p, l] H1 H' ∧ OutAt T.c_Outbox H' p l (B.did u ns), ?_, ?_⟩
    · cases hcl : B.closed with
      | true =>
        cases u
        · o_args
          refine ⟨p, _, _, rfl, hp1, rfl, ?_⟩
          o_args
          refine ⟨p, l, B, _, rfl, W1.o, by omega, .inl ⟨hcl, fun dd H2 s2 hx => ?_⟩⟩
          refine ⟨true, T.Me_NotAllowed_NotAllowed, fun _ _ _ => ?_, fun z => nomatch z⟩
          have hq2 := s2 _ _ hq1
          o_args
          refine brT hcl ?_
          o_args
          refine errF T.X_NotAllowed.x T.nX_NotAllowed hx rfl ?_
          o_args
          refine ⟨_, _, _, _, _, _, rfl, rfl, rfl, hx, only_state T, ?_⟩
          o_args
          exact k c B H2 (W1.same s2) (.inl rfl) hbc (by omega) (Ch.of (s1.trans s2))
        · o_args
          refine ⟨p, _, _, rfl, hp1, rfl, ?_⟩
          o_args
          refine ⟨p, l, B, _, rfl, W1.o, by omega, .inl ⟨hcl, fun dd H2 s2 hx => ?_⟩⟩
          refine ⟨true, T.Me_NotAllowed_NotAllowed, fun _ _ _ => ?_, fun z => nomatch z⟩
          have hq2 := s2 _ _ hq1
          o_args
          refine brT hcl ?_
          o_args
          refine errF T.X_NotAllowed.x T.nX_NotAllowed hx rfl ?_
          o_args
          refine ⟨_, _, _, _, _, _, rfl, rfl, rfl, hx, only_state T, ?_⟩
          o_args
          exact k c B H2 (W1.same s2) (.inl rfl) hbc (by omega) (Ch.of (s1.trans s2))
      | false =>
        cases u
        · o_args
          refine ⟨p, _, _, rfl, hp1, rfl, ?_⟩
          o_args
          refine ⟨p, l, B, _, rfl, W1.o, by omega, .inr ⟨hcl, .inl ⟨d, ns, rfl, D1.seq, hb, by omega, fun H2 c2 O2 => ?_⟩⟩⟩
          o_args
          exact ⟨_, rfl, rfl, c2, O2⟩
        · o_args
          refine ⟨p, _, _, rfl, hp1, rfl, ?_⟩
          o_args
          refine ⟨p, l, B, _, rfl, W1.o, by omega, .inr ⟨hcl, .inl ⟨d, ns, rfl, D1.seq, hb, by omega, fun H2 c2 O2 => ?_⟩⟩⟩
          o_args
          exact ⟨_, rfl, rfl, c2, O2⟩
    rintro σ H2 ⟨z, rfl, hcl, c2, O2⟩
    have hq2 := c2.at (by simp [Ne.symm pq, ql]) hq1
    have hc2 := c2.at (by simp [Ne.symm pc, Ne.symm lc]) hc1
    have h2 := c2.at (by simp [np, nl]) h1
    have D2 := D1.ch c2 (by simp [dp, dl])
    have C2 : Ch [p, l] H H2 := (Ch.of s1).trans c2
    clear D1 hc1 hq1 h1 hp1
    o_args
    refine brF hcl ?_
    o_args
    refine ⟨_, true, rfl, intK_int _, ?_⟩
    o_args
    refine brDT rfl ?_
    o_args
    refine listOf D2.seq fun m2 H3 n3 s3 h3 => ?_
    o_args
    refine neLL (xs := ns) (ys := ns) (SqL.of h3) (SqL.of (s3 _ _ h2)) ?_
    o_args
    refine brDT rfl ?_
    have hq3 := s3 _ _ hq2
    have hc3 := s3 _ _ hc2
    have hm3 := s3 _ _ h2
    have D3 := D2.same s3
    have O3 := O2.same s3
    have C3 := C2.trans (Ch.of s3)
    clear hq2 hc2 h2 D2 O2 h3
    o_args
    refine ⟨fun σ H' => σ = [some (.ref p), some (.ref q), some (.ref d), some (.bl u), some (.ref m), some (.int B.spare), some (.int (B.many ns)), some (.int (B.many ns)), z] ∧ Ch [d] H3 H', ?_, ?_⟩
    · rcases id D3 with D3 | D3
      · o_args
        refine ⟨_, _, _, _, true, rfl, .ty _, .base (.lst D3), kit_ty (by decide +kernel), ?_⟩
        o_args
        refine ⟨isList D3, ?_⟩
        o_args
        refine appList D3 (by rw [List.length_map]; omega) fun H4 s4 h4 => ?_
        o_args
        refine setL (i := 0) h4 (by simp) fun H5 s5 h5 => ?_
        o_args
        exact ⟨rfl, (Ch.ofX (by simp) s4 h4).trans (Ch.ofX (by simp) s5 h5)⟩
      · o_args
        refine ⟨_, _, _, _, false, rfl, .ty _, .base (.tup D3), kit_ty (by decide +kernel), ?_⟩
        o_args
        exact ⟨rfl, Ch.refl⟩
    rintro σ H4 ⟨rfl, c4⟩
    have hq4 := c4.at (by simp [Ne.symm dq]) hq3
    have hc4 := c4.at (by simp [Ne.symm dc]) hc3
    have hm4 := c4.at (by simp [nd]) hm3
    have O4 := O3.ch c4 (by simp [Ne.symm dp]) (by simp [Ne.symm dl])
    have C4 : Ch [p, l, q, d] H H4 := (C3.more (by simp)).trans (c4.more (by simp))
    clear hq3 hc3 hm3 O3 D3
    obtain ⟨k0, ek⟩ : ∃ k0 : Nat, B.many ns = k0 := ⟨(B.many ns).toNat, by omega⟩
    o_args
    refine sliceL (SqL.of hm4) fun t H5 n5 s5 h5 => ?_
    rw [ek, cut_to, ← List.map_take] at h5
    o_args
    refine catList (s5 _ _ hc4) h5 (by rw [List.length_map, List.length_map, List.length_take]; omega) fun cc H6 n6 s6 h6 => ?_
    rw [← List.map_append] at h6
    have hq6 := s6 _ _ (s5 _ _ hq4)
    have O6 := (O4.same s5).same s6
    have cq : cc ≠ q := fun e => by rw [e, s5 _ _ hq4] at n6; cases n6
    have cl : cc ≠ l := fun e => by rw [e, s5 _ _ O4.2.1] at n6; cases n6
    have cn : H cc = none := C4.none (none_of s5 n6)
    have C6 : Ch [p, l, q, d] H H6 := C4.trans (Ch.of (s5.trans s6))
    o_args
    refine dput (kvs' := Bx.kvs { B with con := B.con ++ ns.take k0 } cc) hq6 (Nat.le_of_ble_eq_true rfl) (by with_unfolding_all rfl) fun H7 s7 h7 => ?_
    have O7 : OutAt T.c_Outbox H7 p l (B.did u ns) := O6.ch (Ch.ofX (G := [q]) (by simp) s7 h7) (by simp [pq]) (by simp [Ne.symm ql])
    have hc7 := s7 _ _ cq h6
    have C7 : Ch [p, l, q, d] H H7 := C6.trans (Ch.ofX (by simp) s7 h7)
    have ec : (B.did u ns).con = B.con ++ ns.take k0 := by rw [B.did_con, ek]; rfl
    have fin : ∀ H8, Ch [q] H7 H8 → H8 q = some (.dK ((B.did u ns).kvs cc)) → Q (.bl true) H8 := fun H8 c8 h8 =>
      k cc (B.did u ns) H8 ⟨O7.ch c8 (by simp [pq]) (by simp [Ne.symm ql]), ⟨h8, by rw [ec]; exact c8.at (by simp [cq]) hc7⟩, Ne.symm cl⟩ (.inr cn) (by rw [ec]; exact hbc.app hb.take) (by rw [ec, List.length_append, List.length_take]; omega) (C7.trans (c8.more (by simp)))
    o_args
    cases u
    · o_args
      exact fin H7 Ch.refl h7
    · o_args
      refine brD (fun g => ?_) (fun g => ?_)
      · unfold Bx.kvs at h7
        o_args
        refine lenA (.inl (SqL.of hc7)) ?_
        rw [List.length_map]
        o_args
        refine dput (kvs' := Bx.kvs { B with con := B.con ++ ns.take k0, urg := 1 + ((B.con ++ ns.take k0).length : Int) } cc) h7 (Nat.le_of_ble_eq_true rfl) (by with_unfolding_all rfl) fun H8 s8 h8 => ?_
        o_args
        refine fin H8 (Ch.ofX (by simp) s8 h8) ?_
        rw [h8]
        unfold Bx.kvs Bx.did Bx.urge Bx.add
        rw [if_pos rfl, if_pos (show 0 < B.many ns by omega), ek]
        rfl
      · o_args
        refine fin H7 Ch.refl ?_
        rw [h7]
        unfold Bx.kvs Bx.did Bx.urge Bx.add
        rw [if_pos rfl, if_neg (show ¬ 0 < B.many ns by omega), ek]
theorem Box.ints {a l : Addr} {F : List Addr} {H : Hp} {ns : List Int} (B : Box a F H) (h : H l = some (.lst (ns.map V.int))) : l ≠ a := fun e => by
  obtain ⟨c, cs, p, r, s, n, h1, _⟩ := B
  rw [e, h1] at h
  injection h with h
  injection h with h
  cases ns with
  | nil => cases h
  | cons x r => injection h with h _; cases h
theorem Ow.off {C a p l q c : Addr} {B : Bx} {H : Hp} {F : List Addr} (w : Ow C p l q c B H) (b : Box a F H) : ∀ x ∈ [p, l, q, c], x ∉ [a] := fun x hx z => by
  have z := List.mem_singleton.mp z
  subst z
  have l1 := b.ints w.o.2.1
  have l2 := b.ints w.s.2
  obtain ⟨k, cs, i, r, s, n, h1, _⟩ := b
  obtain ⟨⟨dx, h2⟩, _⟩ := w.o
  have h3 := w.s.1
  simp only [List.mem_cons, List.not_mem_nil, or_false] at hx
  rcases hx with e | e | e | e
  · rw [← e, h1] at h2; cases h2
  · exact l1 e.symm
  · rw [← e, h1] at h3; cases h3
  · exact l2 e.symm
theorem Ow.box {C a p l q c : Addr} {B : Bx} {H H' : Hp} {F : List Addr} (w : Ow C p l q c B H) (b : Box a F H) (s : Ch [a] H H') : Ow C p l q c B H' := w.ch s (w.off b)
def sp__law_cuts (C : Addr) : Sp := fun vs H Q _ => ∃ (a p l q c : Addr) (F : List Addr) (B : Bx), vs = [.ref a, .ref p, .ref q] ∧ Box a F H ∧ Ow C p l q c B H ∧ ∀ H', Box a F H' → Ow C p l q c B H' → Ch [a] H H' → Q (.bl true) H'
set_option maxHeartbeats 0 in
theorem ok__law_cuts (T : Txt K mg) : FnOk P w K mg base CX0 4 T.a__law_cuts T.fd__law_cuts ["box", "outbox", "state"] (sp__law_cuts T.c_Outbox) := by
  have S := sc__law_cuts
  refine T.F__law_cuts.ok S (fun vs H Q E h => ?_) (fun cdv A outer s H vs Q E hr h => ?_)
  · obtain ⟨a, p, l, q, c, F, B, rfl, _⟩ := h
    rfl
  · obtain ⟨a, p, l, q, c, F, B, rfl, B0, W, k⟩ := h
    have hq := W.s.1
    have hc := W.s.2
    have ok := W.o.2.2
    have b1 := ok.b1
    have b2 := ok.b2
    have sz := ok.sz
    unfold Bx.kvs at hq
    refine ⟨_, (pss_cons (ps_set (i := 3) S.nd rfl (Or.inl rfl) (pe_op op_add pe_int (pe_callB (id := "len") (call_lenK (K := K) rfl) (by rfl) T.b_len (by decide +kernel) (pa_cons (pe_dget (room_u1 hr) (pv 2) pe_str (fun _ _ => rfl)) pa_nil))))
      (pss_cons (ps_set (i := 4) S.nd rfl (Or.inl rfl) (pe_op op_add (pe_dget (room_u1 hr) (pv 2) pe_str (fun _ _ => rfl)) (pe_call (ok__law_draw T) (hr.mono (by decide)) rfl T.g__law_draw T.F__law_draw.kp T.B__law_draw .nil pass0 (pa_cons (pv 0) (pa_cons (pe_op op_add (pe_op op_sub (pv 3) (pe_dget (room_u1 hr) (pv 2) pe_str (fun _ _ => rfl))) pe_int) pa_nil)))))
      (pss_cons (ps_set (i := 5) S.nd rfl (Or.inl rfl) (pe_op op_add (pv 4) (pe_call (ok__law_draw T) (hr.mono (by decide)) rfl T.g__law_draw T.F__law_draw.kp T.B__law_draw .nil pass0 (pa_cons (pv 0) (pa_cons (pe_op op_add (pe_op op_sub (pv 3) (pv 4)) pe_int) pa_nil)))))
      (pss_cons (ps_set (i := 6) S.nd rfl (Or.inl rfl) (pe_slice sl_list (pe_dget (room_u1 hr) (pv 2) pe_str (fun _ _ => rfl)) (po_some (pe_op op_sub (pv 4) pe_int)) (po_some (pe_op op_sub (pv 5) pe_int))))
      (pss_cons (ps_if (pt_not (pt_val (pe_call (ok__law_tuple_is T) (hr.mono (by decide)) rfl T.g__law_tuple_is T.F__law_tuple_is.kp T.B__law_tuple_is .nil pass0 (pa_cons (pe_meth (pv 1) T.cl_Outbox T.m_Outbox_cut (ok_Outbox_cut T) (hr.mono (by decide)) T.B_Outbox_cut .nil passL (pa_cons (pv 4) (pa_cons (pv 5) pa_nil))) (pa_cons (pv 6) pa_nil))))) (pss_one (ps_ret pe_bl)) pss_nil)
      (pss_one (ps_ret (pe_call (ok__law_tuple_is T) (hr.mono (by decide)) rfl T.g__law_tuple_is T.F__law_tuple_is.kp T.B__law_tuple_is .nil pass0 (pa_cons (pe_meth (pv 1) T.cl_Outbox T.m_Outbox_cut (ok_Outbox_cut T) (hr.mono (by decide)) T.B_Outbox_cut .nil passL (pa_cons (pe_dget (room_u1 hr) (pv 2) pe_str (fun _ _ => rfl)) (pa_cons (pv 3) pa_nil))) (pa_cons (pe_slice sl_list (pe_dget (room_u1 hr) (pv 2) pe_str (fun _ _ => rfl)) (po_some (pe_op op_sub (pe_dget (room_u1 hr) (pv 2) pe_str (fun _ _ => rfl)) pe_int)) po_none) pa_nil)))))))))), ?_⟩
    refine st__law_cuts ?_
    o_args
    refine lenA (.inl (SqL.of hc)) ?_
    rw [List.length_map]
    o_args
    refine ⟨a, F, _, rfl, B0, by omega, by omega, fun d1 H1 d10 d11 B1 c1 => ?_⟩
    obtain ⟨m, em⟩ : ∃ m : Nat, (B.base : Int) + d1 = m := ⟨((B.base : Int) + d1).toNat, by omega⟩
    have W1 := W.box B0 c1
    o_args
    rw [em]
    refine ⟨a, F, _, rfl, B1, by omega, by omega, fun d2 H2 d20 d21 B2 c2 => ?_⟩
    obtain ⟨n, en⟩ : ∃ n : Nat, (m : Int) + d2 = n := ⟨((m : Int) + d2).toNat, by omega⟩
    have W2 := W1.box B1 c2
    have hq2 := W2.s.1
    have hc2 := W2.s.2
    unfold Bx.kvs at hq2
    o_args
    rw [en]
    refine sliceL (SqL.of hc2) fun t H3 n3 s3 h3 => ?_
    rw [show (m : Int) - 1 = ((m - 1 : Nat) : Int) by omega, show (n : Int) - 1 = ((n - 1 : Nat) : Int) by omega, cut_mid, ← List.map_take, ← List.map_drop] at h3
    have W3 := W2.same s3
    obtain ⟨⟨dx3, hp3⟩, _⟩ := W3.o
    o_args
    refine ⟨p, _, _, rfl, hp3, rfl, ?_⟩
    o_args
    refine ⟨p, l, B, _, _, rfl, W3.o, .inl ⟨m, n, rfl, rfl, by omega, by omega, by omega, fun u H4 n4 s4 h4 => ?_⟩⟩
    o_args
    refine ⟨u, t, _, rfl, h4, s4 _ _ h3, by rw [List.length_drop, List.length_take]; omega, ?_⟩
    have W4 := W3.same s4
    have hq4 := W4.s.1
    have hc4 := W4.s.2
    unfold Bx.kvs at hq4
    obtain ⟨⟨dx4, hp4⟩, _⟩ := W4.o
    o_args
    refine ⟨p, _, _, rfl, hp4, rfl, ?_⟩
    o_args
    refine ⟨p, l, B, _, _, rfl, W4.o, .inl ⟨B.base, B.con.length + 1, rfl, by rw [show ((B.con.length + 1 : Nat) : Int) = 1 + (B.con.length : Int) by omega], by omega, by omega, by omega, fun v H5 n5 s5 h5 => ?_⟩⟩
    rw [Nat.add_sub_cancel, List.take_length] at h5
    have hq5 := s5 _ _ hq4
    o_args
    refine sliceL (SqL.of (s5 _ _ hc4)) fun w H6 n6 s6 h6 => ?_
    rw [show (B.base : Int) - 1 = ((B.base - 1 : Nat) : Int) by omega, cut_from, ← List.map_drop] at h6
    o_args
    refine ⟨v, w, _, rfl, s6 _ _ h5, h6, by rw [List.length_drop]; omega, ?_⟩
    have S := (s3.trans s4).trans (s5.trans s6)
    exact k H6 (B2.same S) (W2.same S) ((c1.trans c2).trans (Ch.of S))
def sp__law_releases (K : PySem.W.Frag) (C : Addr) : Sp := fun vs H Q _ => ∃ (a p l q c : Addr) (F : List Addr) (B : Bx), vs = [.ref a, .ref p, .ref q] ∧ Box a F H ∧ (∀ b ∈ [p, l, q], b ∈ F) ∧ Ow C p l q c B H ∧ ∀ B' H', Box a F H' → Ow C p l q c B' H' → B'.con = B.con → Ch [a, p, l, q] H H' → Q (.bl true) H'
set_option maxHeartbeats 0 in
theorem ok__law_releases (T : Txt K mg) : FnOk P w K mg base CX0 4 T.a__law_releases T.fd__law_releases ["box", "outbox", "state"] (sp__law_releases K T.c_Outbox) := by
  have S := sc__law_releases
  refine T.F__law_releases.ok S (fun vs H Q E h => ?_) (fun cdv A outer s H vs Q E hr h => ?_)
  · obtain ⟨a, p, l, q, c, F, B, rfl, _⟩ := h
    rfl
  · obtain ⟨a, p, l, q, c, F, B, rfl, B0, hF, W, k⟩ := h
    have hq := W.s.1
    have hc := W.s.2
    have ok := W.o.2.2
    have b1 := ok.b1
    have b2 := ok.b2
    have sz := ok.sz
    obtain ⟨pq, pl, pc, ql, qc⟩ := W.qp
    unfold Bx.kvs at hq
    refine ⟨_, (pss_cons (ps_set (i := 3) S.nd rfl (Or.inl rfl) (pe_op op_add (pe_dget (room_u1 hr) (pv 2) pe_str (fun _ _ => rfl)) (pe_call (ok__law_draw T) (hr.mono (by decide)) rfl T.g__law_draw T.F__law_draw.kp T.B__law_draw .nil pass0 (pa_cons (pv 0) (pa_cons (pe_op op_add (pe_op op_sub (pe_op op_add pe_int (pe_callB (id := "len") (call_lenK (K := K) rfl) (by rfl) T.b_len (by decide +kernel) (pa_cons (pe_dget (room_u1 hr) (pv 2) pe_str (fun _ _ => rfl)) pa_nil))) (pe_dget (room_u1 hr) (pv 2) pe_str (fun _ _ => rfl))) pe_int) pa_nil)))))
      (pss_cons (ps_set (i := 4) S.nd rfl (Or.inl rfl) (pe_meth (pv 1) T.cl_Outbox T.m_Outbox_release (ok_Outbox_release T) (hr.mono (by decide)) T.B_Outbox_release .nil passL (pa_cons (pv 3) pa_nil)))
      (pss_cons (ps_set (i := 5) S.nd rfl (Or.inl rfl) (pe_op op_sub (pv 3) (pe_dget (room_u1 hr) (pv 2) pe_str (fun _ _ => rfl))))
      (pss_cons (ps_dput (room_u1 hr) (pv 2) pe_str (pv 3) rfl)
      (pss_one (ps_ret (pe_and (pe_call (ok__law_is_whole T) (hr.mono (by decide)) rfl T.g__law_is_whole T.F__law_is_whole.kp T.B__law_is_whole .nil pass0 (pa_cons (pv 4) pa_nil)) (pe_one (pe_cmpR op_eq (pv 4) (pv 5) (nomark _)))))))))), ?_⟩
    refine st__law_releases ?_
    o_args
    refine lenA (.inl (SqL.of hc)) ?_
    rw [List.length_map]
    o_args
    refine ⟨a, F, _, rfl, B0, by omega, by omega, fun d1 H1 d10 d11 B1 c1 => ?_⟩
    obtain ⟨m, em⟩ : ∃ m : Nat, (B.base : Int) + d1 = m := ⟨((B.base : Int) + d1).toNat, by omega⟩
    have W1 := W.box B0 c1
    obtain ⟨⟨dx1, hp1⟩, _⟩ := W1.o
    o_args
    rw [em]
    refine ⟨p, _, _, rfl, hp1, rfl, ?_⟩
    o_args
    refine ⟨p, l, B, _, rfl, W1.o, .inl ⟨m, rfl, by omega, by omega, fun H2 c2 O2 => ?_⟩⟩
    have S2 := W1.s.ch c2 (by simp [Ne.symm pq, ql]) (by simp [Ne.symm pc, Ne.symm W.n])
    have hq2 := S2.1
    unfold Bx.kvs at hq2
    o_args
    refine dput (kvs' := Bx.kvs { B with base := m } c) hq2 (Nat.le_of_ble_eq_true rfl) (by with_unfolding_all rfl) fun H3 s3 h3 => ?_
    o_args
    refine ⟨_, true, rfl, intK_int _, ?_⟩
    o_args
    rw [decide_eq_true rfl]
    have c3 : Ch [q] H2 H3 := Ch.ofX (by simp) s3 h3
    refine k { B with base := m } H3 ((B1.ch c2 ?_).ch c3 ?_) ⟨O2.ch c3 (by simp [pq]) (by simp [Ne.symm ql]), ⟨h3, c3.at (by simp [Ne.symm qc]) S2.2⟩, W.n⟩ rfl (((c1.more (by simp)).trans (c2.more (by simp))).trans (c3.more (by simp)))
    · intro b hb
      exact hF b (by simp only [List.mem_cons, List.not_mem_nil, or_false] at hb ⊢; grind only)
    · intro b hb
      exact hF b (by simp only [List.mem_cons, List.not_mem_nil, or_false] at hb ⊢; grind only)
/-! ### what is refused -/
theorem Rpr.atom {K : PySem.W.Frag} {H : Hp} {x : V} {d : PyData} (h : Dp K H x d) (A : Atom d) (hi : ∀ i, d = .int i → i.natAbs.log2 < 1920) : Rpr K H x := ⟨d, h, A.sh, A.nd, Nat.le_trans A.dp (by decide), Nat.le_trans A.ln (by decide), hi⟩
/-- whatever happens to G: x is out of the bounds and can be shown -/
def BadV (K : PySem.W.Frag) (G : List Addr) (H : Hp) (x : V) (lo hi : Int) : Prop := ∀ H', Ch G H H' → Out K H' x lo hi ∧ Rpr K H' x
section
variable {K : PySem.W.Frag} {G : List Addr} {H H' : Hp} {x : V} {lo hi : Int} {t : Addr}
theorem BadV.ch (h : BadV K G H x lo hi) (c : Ch G H H') : BadV K G H' x lo hi := fun H2 c2 => h H2 (c.trans c2)
theorem BadV.int {n : Int} (h : n < lo ∨ hi < n) (z : n.natAbs < 2 ^ 60) : BadV K G H (.int n) lo hi := fun _ _ => ⟨Out.int h, Rpr.int z⟩
theorem BadV.bl (b : Bool) : BadV K G H (.bl b) lo hi := fun _ _ => ⟨Out.odd (intK_no (.base (.bl b)) (i := true) (b := true) (by decide +kernel) (by decide +kernel) rfl), Rpr.atom (.bl b) (.bl b) (fun _ e => nomatch e)⟩
theorem BadV.non : BadV K G H .non lo hi := fun _ _ => ⟨Out.odd (intK_no (.base .non) (i := false) (b := false) (by decide +kernel) (by decide +kernel) rfl), Rpr.atom .non .non (fun _ e => nomatch e)⟩
theorem BadV.str {s : Str} (h : (PyData.str s).shown.length ≤ 2000) : BadV K G H (.str s) lo hi := fun _ _ => ⟨Out.odd (intK_no (.base (.str _)) (i := false) (b := false) (by decide +kernel) (by decide +kernel) rfl), Rpr.atom (.str s) ⟨rfl, rfl, by simp only [PyData.depth]; omega, h⟩ (fun _ e => nomatch e)⟩
theorem BadV.tup1 (h : H t = some (.tup [.int 1])) (n : t ∉ G) : BadV K G H (.ref t) lo hi := fun _ c => by
  have h := c.at n h
  exact ⟨Out.odd (intK_no (.base (.tup h)) (i := false) (b := false) (by decide +kernel) (by decide +kernel) rfl), Rpr.atom (d := .tuple [.int 1]) (.tup (SqT.of h) (.cons (.int 1) .nil)) ⟨by decide +kernel, by decide +kernel, by decide +kernel, by decide +kernel⟩ (fun _ e => nomatch e)⟩
theorem BadV.lst1 (h : H t = some (.lst [.int 1])) (n : t ∉ G) : BadV K G H (.ref t) lo hi := fun _ c => by
  have h := c.at n h
  exact ⟨Out.odd (intK_no (.base (.lst h)) (i := false) (b := false) (by decide +kernel) (by decide +kernel) rfl), Rpr.atom (d := .list [.int 1]) (.lst (SqL.of h) (.cons (.int 1) .nil)) ⟨by decide +kernel, by decide +kernel, by decide +kernel, by decide +kernel⟩ (fun _ e => nomatch e)⟩
/-- data that is refused because of y -/
def DataBad (K : PySem.W.Frag) (G : List Addr) (H : Hp) (x y : V) : Prop := ∀ H', Ch G H H' → Rpr K H' y ∧ ((SeqK K H' x false ∧ x = y) ∨ ∃ d ns zs, x = .ref d ∧ SeqA K H' d (ns.map V.int ++ y :: zs) ∧ Bytes ns ∧ Out K H' y 0 255)
theorem DataBad.ch {y : V} (h : DataBad K G H x y) (c : Ch G H H') : DataBad K G H' x y := fun H2 c2 => h H2 (c.trans c2)
theorem DataBad.lst {d : Addr} {ns : List Int} {y : V} {zs : List V} (h : H d = some (.lst (ns.map V.int ++ y :: zs))) (n : d ∉ G) (b : Bytes ns) (hy : BadV K G H y 0 255) : DataBad K G H (.ref d) y := fun H' c => ⟨(hy H' c).2, .inr ⟨d, ns, zs, rfl, .lst (c.at n h), b, (hy H' c).1⟩⟩
theorem DataBad.tup {d : Addr} {ns : List Int} {y : V} {zs : List V} (h : H d = some (.tup (ns.map V.int ++ y :: zs))) (n : d ∉ G) (b : Bytes ns) (hy : BadV K G H y 0 255) : DataBad K G H (.ref d) y := fun H' c => ⟨(hy H' c).2, .inr ⟨d, ns, zs, rfl, .tup (c.at n h), b, (hy H' c).1⟩⟩
theorem DataBad.whole (h : ∀ H', Rpr K H' x ∧ SeqK K H' x false) : DataBad K G H x x := fun H' _ => ⟨(h H').1, .inl ⟨(h H').2, rfl⟩⟩
theorem whole_int {n : Int} (h : n.natAbs < 2 ^ 60) : DataBad K G H (.int n) (.int n) := .whole fun H' => ⟨Rpr.int h, seqK_ty (.base (.int n)) (a := false) (b := false) (by decide +kernel) (by decide +kernel)⟩
theorem whole_bl {b : Bool} : DataBad K G H (.bl b) (.bl b) := .whole fun H' => ⟨Rpr.atom (.bl b) (.bl b) (fun _ e => nomatch e), seqK_ty (.base (.bl b)) (a := false) (b := false) (by decide +kernel) (by decide +kernel)⟩
theorem whole_non : DataBad K G H .non .non := .whole fun H' => ⟨Rpr.atom .non .non (fun _ e => nomatch e), seqK_ty (.base .non) (a := false) (b := false) (by decide +kernel) (by decide +kernel)⟩
theorem whole_str {s : Str} (h : (PyData.str s).shown.length ≤ 2000) : DataBad K G H (.str s) (.str s) := .whole fun H' => ⟨Rpr.atom (.str s) ⟨rfl, rfl, by simp only [PyData.depth]; omega, h⟩ (fun _ e => nomatch e), seqK_ty (.base (.str s)) (a := false) (b := false) (by decide +kernel) (by decide +kernel)⟩
end
def sp__law_bad_data (K : PySem.W.Frag) : Sp := fun vs H Q _ => ∃ (a : Addr) (F : List Addr), vs = [.ref a] ∧ Box a F H ∧ Al F H ∧ ∀ r x y H', H r = none → H' r = some (.lst [x, y]) → DataBad K (a :: F) H' x y → Box a F H' → Ch [a] H H' → Q (.ref r) H'
set_option maxHeartbeats 0 in
theorem ok__law_bad_data (T : Txt K mg) : FnOk P w K mg base CX0 2 T.a__law_bad_data T.fd__law_bad_data ["box"] (sp__law_bad_data K) := by
  have S := sc__law_bad_data
  refine T.F__law_bad_data.ok S (fun vs H Q E h => ?_) (fun cdv A outer s H vs Q E hr h => ?_)
  · obtain ⟨a, F, rfl, _⟩ := h
    rfl
  · obtain ⟨a, F, rfl, B, A0, k⟩ := h
    have A0 := Al.cons B.al.choose_spec A0
    refine ⟨_, (pss_cons (ps_setLc (i := 1) (own := [("k", 8)]) (g := gName 8) (tt := tYes) rfl S.nd rfl rfl (sw_true rfl rfl rfl (by decide +kernel)) (pi_range1 (by rfl) T.b_range (pa_cons (pe_call (ok__law_draw T) (hr.mono (by decide)) rfl T.g__law_draw T.F__law_draw.kp T.B__law_draw .nil pass0 (pa_cons (pv 0) (pa_cons pe_int pa_nil))) pa_nil)) (blkOk_by (N := ["box", "items", "odd", "bad", "also", "place", "way", "whole", "k"]) (sc := defScope s__law_bad_data) (by decide +kernel)) (fun _ _ _ _ _ => pg_name (i := 8) S.nd rfl (Or.inl rfl)) (fun _ _ _ _ _ => pts_nil) (fun _ _ _ _ _ => (pe_call (ok__law_draw T) (hr.mono (by decide)) rfl T.g__law_draw T.F__law_draw.kp T.B__law_draw .nil pass0 (pa_cons (pv 0) (pa_cons pe_int pa_nil)))))
      (pss_cons (ps_set (i := 2) S.nd rfl (Or.inl rfl) (pe_lst (pa_cons (pe_op op_add pe_int (pe_call (ok__law_draw T) (hr.mono (by decide)) rfl T.g__law_draw T.F__law_draw.kp T.B__law_draw .nil pass0 (pa_cons (pv 0) (pa_cons pe_int pa_nil)))) (pa_cons (pe_op op_sub (pe_op op_sub pe_int pe_int) (pe_call (ok__law_draw T) (hr.mono (by decide)) rfl T.g__law_draw T.F__law_draw.kp T.B__law_draw .nil pass0 (pa_cons (pv 0) (pa_cons pe_int pa_nil)))) (pa_cons pe_bl (pa_cons pe_bl (pa_cons pe_non (pa_cons pe_str (pa_cons (pe_tup (pa_cons pe_int pa_nil)) pa_nil)))))))))
      (pss_cons (ps_set (i := 3) S.nd rfl (Or.inl rfl) (pe_ix ix_list (pv 2) (pe_call (ok__law_draw T) (hr.mono (by decide)) rfl T.g__law_draw T.F__law_draw.kp T.B__law_draw .nil pass0 (pa_cons (pv 0) (pa_cons pe_int pa_nil))) (fun _ _ => rfl)))
      (pss_cons (ps_set (i := 4) S.nd rfl (Or.inl rfl) (pe_ix ix_list (pv 2) (pe_call (ok__law_draw T) (hr.mono (by decide)) rfl T.g__law_draw T.F__law_draw.kp T.B__law_draw .nil pass0 (pa_cons (pv 0) (pa_cons pe_int pa_nil))) (fun _ _ => rfl)))
      (pss_cons (ps_set (i := 5) S.nd rfl (Or.inl rfl) (pe_call (ok__law_draw T) (hr.mono (by decide)) rfl T.g__law_draw T.F__law_draw.kp T.B__law_draw .nil pass0 (pa_cons (pv 0) (pa_cons (pe_op op_add (pe_callB (id := "len") (call_lenK (K := K) rfl) (by rfl) T.b_len (by decide +kernel) (pa_cons (pv 1) pa_nil)) pe_int) pa_nil))))
      (pss_cons (ps_set (i := 6) S.nd rfl (Or.inl rfl) (pe_call (ok__law_draw T) (hr.mono (by decide)) rfl T.g__law_draw T.F__law_draw.kp T.B__law_draw .nil pass0 (pa_cons (pv 0) (pa_cons pe_int pa_nil))))
      (pss_cons (ps_if (pt_cmpR op_eq (pv 6) pe_int (nomark _)) (pss_cons (ps_set (i := 7) S.nd rfl (Or.inl rfl) (pe_ix ix_list (pe_lst (pa_cons pe_non (pa_cons pe_str (pa_cons pe_str (pa_cons pe_int (pa_cons (pe_op op_sub pe_int pe_int) (pa_cons pe_bl pa_nil))))))) (pe_call (ok__law_draw T) (hr.mono (by decide)) rfl T.g__law_draw T.F__law_draw.kp T.B__law_draw .nil pass0 (pa_cons (pv 0) (pa_cons pe_int pa_nil))) (fun _ _ => rfl)))
      (pss_one (ps_ret (pe_lst (pa_cons (pv 7) (pa_cons (pv 7) pa_nil)))))) pss_nil)
      (pss_cons (ps_if (pt_cmpR op_eq (pv 6) pe_int (nomark _)) (pss_one (ps_ret (pe_lst (pa_cons (pe_op op_cat (pe_op op_cat (pe_op op_cat (pe_slice sl_list (pv 1) po_none (po_some (pv 5))) (pe_lst (pa_cons (pv 3) pa_nil))) (pe_slice sl_list (pv 1) (po_some (pv 5)) po_none)) (pe_lst (pa_cons (pv 4) pa_nil))) (pa_cons (pv 3) pa_nil))))) pss_nil)
      (pss_cons (ps_if (pt_cmpR op_eq (pv 6) pe_int (nomark _)) (pss_one (ps_ret (pe_lst (pa_cons (pe_callTy (T := "tuple") (call_tupK (K := K) rfl) (by rfl) T.b_tuple (by decide +kernel) (pa_cons (pe_op op_cat (pe_op op_cat (pe_slice sl_list (pv 1) po_none (po_some (pv 5))) (pe_lst (pa_cons (pv 3) pa_nil))) (pe_slice sl_list (pv 1) (po_some (pv 5)) po_none)) pa_nil)) (pa_cons (pv 3) pa_nil))))) pss_nil)
      (pss_one (ps_ret (pe_lst (pa_cons (pe_op op_cat (pe_op op_cat (pe_slice sl_list (pv 1) po_none (po_some (pv 5))) (pe_lst (pa_cons (pv 3) (pa_cons (pv 4) pa_nil)))) (pe_slice sl_list (pv 1) (po_some (pv 5)) po_none)) (pa_cons (pv 3) pa_nil)))))))))))))), ?_⟩
    refine st__law_bad_data ?_
    o_args
    refine x_lcR ?_
    o_args
    refine ⟨a, F, 9, rfl, B, by decide, by decide, fun n H1 n0 n1 B1 c1 => ?_⟩
    o_args
    refine lcR (n := n) (Dn a F H1) (fun R q => q) n0 (by omega) (fun D hD => Dn.new B1 hD) (fun D i ns H' hD hi hd hl hp Y hY => ?_) (fun d ns H2 hD hd hl hp => ?_)
    · o_args
      refine ⟨a, D :: F, 256, rfl, hp.2.1, by decide, by decide, fun x H5 x0 x1 B5 c5 => ?_⟩
      have hd5 := c5.at (by simp [B1.off hD]) hd
      exact hY x H5 hd5 (Dn.upd ⟨hp.1, B5, hp.2.2.trans (c5.more (by simp))⟩ x0 (by omega) hd5)
    obtain ⟨by2, B2, c2⟩ := hp.fin hD
    have A1 := A0.ch c1
    have dF : d ∉ a :: F := A1.new hD
    have da : d ∉ [a] := fun z => dF (by rw [List.mem_singleton.mp z]; exact List.mem_cons_self)
    have A2 := A1.ch c2
    have C2 := c1.trans c2
    o_args
    refine ⟨a, F, _, rfl, B2, by decide, by decide, fun u1 H3 u10 u11 B3 c3 => ?_⟩
    o_args
    refine ⟨a, F, _, rfl, B3, by decide, by decide, fun u2 H4 u20 u21 B4 c4 => ?_⟩
    have C4 := (C2.trans c3).trans c4
    have A4 := (A2.ch c3).ch c4
    have hd4 := c4.at da (c3.at da hd)
    o_args
    refine newTup (by simp) fun t H5 nt s5 h5 => ?_
    have tF : t ∉ a :: F := A4.new nt
    o_args
    refine newList (by simp) fun o H6 no s6 h6 => ?_
    have oF : o ∉ a :: F := (A4.same s5).new no
    have oa : o ∉ [a] := fun z => oF (by rw [List.mem_singleton.mp z]; exact List.mem_cons_self)
    have ta : t ∉ [a] := fun z => tF (by rw [List.mem_singleton.mp z]; exact List.mem_cons_self)
    have s46 := s5.trans s6
    o_args
    refine ⟨a, F, _, rfl, B4.same s46, by decide, by decide, fun j H7 j0 j1 B7 c7 => ?_⟩
    have key : ∀ j : Nat, j < 7 → ∀ G', Ch [a] H6 G' → ∃ x, [V.int (256 + u1), .int (0 - 1 - u2), .bl true, .bl false, .non, .str "7", .ref t][j]? = some x ∧ BadV K (a :: F) G' x 0 255 := fun j jl G' c => by
      have ht := c.at ta (s6 _ _ h5)
      match j, jl with
      | 0, _ => exact ⟨_, rfl, .int (by omega) (by omega)⟩
      | 1, _ => exact ⟨_, rfl, .int (by omega) (by omega)⟩
      | 2, _ => exact ⟨_, rfl, .bl true⟩
      | 3, _ => exact ⟨_, rfl, .bl false⟩
      | 4, _ => exact ⟨_, rfl, .non⟩
      | 5, _ => exact ⟨_, rfl, .str (by decide +kernel)⟩
      | 6, _ => exact ⟨_, rfl, .tup1 ht tF⟩
    obtain ⟨jn, rfl⟩ : ∃ i : Nat, j = i := ⟨j.toNat, by omega⟩
    obtain ⟨x, ex, bx⟩ := key jn (by omega) H7 c7
    o_args
    refine ixL (c7.at oa h6) ex ?_
    o_args
    refine ⟨a, F, _, rfl, B7, by decide, by decide, fun j' H8 j0' j1' B8 c8 => ?_⟩
    obtain ⟨jm, rfl⟩ : ∃ i : Nat, j' = i := ⟨j'.toNat, by omega⟩
    obtain ⟨y, ey, _⟩ := key jm (by omega) H8 (c7.trans c8)
    o_args
    refine ixL (c8.at oa (c7.at oa h6)) ey ?_
    have bx8 := bx.ch (c8.more (by simp))
    have hd8 := c8.at da (c7.at da (s46 _ _ hd4))
    have C8 := (C4.trans (Ch.of s46)).trans (c7.trans c8)
    clear hd hd4 h5 h6 key ex ey bx
    o_args
    refine lenA (.inl (SqL.of hd8)) ?_
    rw [List.length_map]
    o_args
    refine ⟨a, F, _, rfl, B8, by omega, by omega, fun pl H9 p0 p1 B9 c9 => ?_⟩
    o_args
    refine ⟨a, F, _, rfl, B9, by decide, by decide, fun way H10 w0 w1 B10 c10 => ?_⟩
    have C := (C8.trans c9).trans c10
    have hd := c10.at da (c9.at da hd8)
    have by1 := bx8.ch ((c9.trans c10).more (by simp))
    have A := A0.ch C
    obtain ⟨pn, rfl⟩ : ∃ i : Nat, pl = i := ⟨pl.toNat, by omega⟩
    have fin : ∀ {x y : V} {G r : _}, Same H10 G → H r = none → DataBad K (a :: F) G x y → G r = some (.lst [x, y]) → Q (.ref r) G := fun s nr hb hr => k _ _ _ _ nr hr hb (B10.same s) (C.trans (Ch.of s))
    o_args
    refine brD (fun q => ?_) (fun q => ?_)
    · o_args
      refine newList (by simp) fun w G1 nw s1 h1 => ?_
      have wa : w ∉ [a] := fun z => A.new nw (by rw [List.mem_singleton.mp z]; exact List.mem_cons_self)
      o_args
      refine ⟨a, F, _, rfl, B10.same s1, by decide, by decide, fun i G2 i0 i1 b2 e2 => ?_⟩
      obtain ⟨m, rfl⟩ : ∃ m : Nat, i = m := ⟨i.toNat, by omega⟩
      have ml : m < 6 := by omega
      obtain ⟨x, ex, hx⟩ : ∃ x, [V.non, .str "", .str "01", .int 5, .int (0 - 1), .bl true][m]? = some x ∧ ∀ G', DataBad K (a :: F) G' x x := by
        match m, ml with
        | 0, _ => exact ⟨_, rfl, fun _ => whole_non⟩
        | 1, _ => exact ⟨_, rfl, fun _ => whole_str (by decide +kernel)⟩
        | 2, _ => exact ⟨_, rfl, fun _ => whole_str (by decide +kernel)⟩
        | 3, _ => exact ⟨_, rfl, fun _ => whole_int (by decide)⟩
        | 4, _ => exact ⟨_, rfl, fun _ => whole_int (by decide)⟩
        | 5, _ => exact ⟨_, rfl, fun _ => whole_bl⟩
      o_args
      refine ixL (e2.at wa h1) ex ?_
      o_args
      refine newList (by simp) fun r G3 nr s3 h3 => ?_
      o_args
      have CC := (C.trans (Ch.of s1)).trans e2
      exact k r x x G3 (CC.none nr) h3 (hx G3) (b2.same s3) (CC.trans (Ch.of s3))
    o_args
    have cF : ∀ {t G}, Same H10 G → G t = none → t ∉ a :: F := fun s n => A.new (none_of s n)
    refine brD (fun q => ?_) (fun q => ?_)
    · o_args
      refine sliceL (SqL.of hd) fun t1 G1 n1 s1 h1 => ?_
      rw [cut_to, ← List.map_take] at h1
      o_args
      refine newList (by simp) fun t2 G2 n2 s2 h2 => ?_
      o_args
      refine catList (s2 _ _ h1) h2 (by simp; omega) fun t3 G3 n3 s3 h3 => ?_
      o_args
      refine sliceL (SqL.of (s3 _ _ (s2 _ _ (s1 _ _ hd)))) fun t4 G4 n4 s4 h4 => ?_
      rw [cut_from, ← List.map_drop] at h4
      o_args
      refine catList (s4 _ _ h3) h4 (by simp; omega) fun t5 G5 n5 s5 h5 => ?_
      o_args
      refine newList (by simp) fun t6 G6 n6 s6 h6 => ?_
      o_args
      refine catList (s6 _ _ h5) h6 (by simp; omega) fun t7 G7 n7 s7 h7 => ?_
      o_args
      refine newList (by simp) fun r G8 n8 s8 h8 => ?_
      have z7 := ((((((s1.trans s2).trans s3).trans s4).trans s5).trans s6).trans s7)
      have z6 := (((((s1.trans s2).trans s3).trans s4).trans s5).trans s6)
      o_args
      have e7 : G8 t7 = some (.lst ((ns.take pn).map V.int ++ x :: ((ns.drop pn).map V.int ++ [y]))) := by
        rw [s8 _ _ h7]
        simp
      exact fin (z7.trans s8) (C.none (none_of z7 n8)) (.lst e7 (cF z6 n7) by2.take (by1.ch (Ch.of (z7.trans s8)))) h8
    o_args
    refine brD (fun q => ?_) (fun q => ?_)
    · o_args
      refine sliceL (SqL.of hd) fun t1 G1 n1 s1 h1 => ?_
      rw [cut_to, ← List.map_take] at h1
      o_args
      refine newList (by simp) fun t2 G2 n2 s2 h2 => ?_
      o_args
      refine catList (s2 _ _ h1) h2 (by simp; omega) fun t3 G3 n3 s3 h3 => ?_
      o_args
      refine sliceL (SqL.of (s3 _ _ (s2 _ _ (s1 _ _ hd)))) fun t4 G4 n4 s4 h4 => ?_
      rw [cut_from, ← List.map_drop] at h4
      o_args
      refine catList (s4 _ _ h3) h4 (by simp; omega) fun t5 G5 n5 s5 h5 => ?_
      have z5 := ((((s1.trans s2).trans s3).trans s4).trans s5)
      o_args
      refine ⟨t5, _, rfl, .inl ⟨SqL.of h5, fun t6 n6 => ?_⟩⟩
      have s6 := Same.new (o := .tup ((ns.take pn).map V.int ++ [x] ++ (ns.drop pn).map V.int)) n6
      have h6 : L2.upd G5 t6 (.tup ((ns.take pn).map V.int ++ [x] ++ (ns.drop pn).map V.int)) t6 = _ := upd_same
      generalize L2.upd G5 t6 (.tup ((ns.take pn).map V.int ++ [x] ++ (ns.drop pn).map V.int)) = G6 at s6 h6
      o_args
      refine newList (by simp) fun r G8 n8 s8 h8 => ?_
      have z6 := z5.trans s6
      o_args
      have e7 : G8 t6 = some (.tup ((ns.take pn).map V.int ++ x :: (ns.drop pn).map V.int)) := by
        rw [s8 _ _ h6]
        simp
      exact fin (z6.trans s8) (C.none (none_of z6 n8)) (.tup e7 (cF z5 n6) by2.take (by1.ch (Ch.of (z6.trans s8)))) h8
    · o_args
      refine sliceL (SqL.of hd) fun t1 G1 n1 s1 h1 => ?_
      rw [cut_to, ← List.map_take] at h1
      o_args
      refine newList (by simp) fun t2 G2 n2 s2 h2 => ?_
      o_args
      refine catList (s2 _ _ h1) h2 (by simp; omega) fun t3 G3 n3 s3 h3 => ?_
      o_args
      refine sliceL (SqL.of (s3 _ _ (s2 _ _ (s1 _ _ hd)))) fun t4 G4 n4 s4 h4 => ?_
      rw [cut_from, ← List.map_drop] at h4
      o_args
      refine catList (s4 _ _ h3) h4 (by simp; omega) fun t7 G7 n7 s7 h7 => ?_
      o_args
      refine newList (by simp) fun r G8 n8 s8 h8 => ?_
      have z6 := (((s1.trans s2).trans s3).trans s4)
      have z7 := z6.trans s7
      o_args
      have e7 : G8 t7 = some (.lst ((ns.take pn).map V.int ++ x :: (y :: (ns.drop pn).map V.int))) := by
        rw [s8 _ _ h7]
        simp
      exact fin (z7.trans s8) (C.none (none_of z7 n8)) (.lst e7 (cF z6 n7) by2.take (by1.ch (Ch.of (z7.trans s8)))) h8
theorem Out.same' {K : PySem.W.Frag} {H : Hp} {x : V} {lo hi lo' hi' : Int} (h : Out K H x lo hi) (e1 : lo = lo') (e2 : hi = hi') : Out K H x lo' hi' := e1 ▸ e2 ▸ h
def sp__law_data_refused (K : PySem.W.Frag) (C : Addr) : Sp := fun vs H Q _ => ∃ (p l q c : Addr) (B : Bx) (x y : V) (u : Bool), vs = [.ref p, .ref q, x, y, .bl u] ∧ Ow C p l q c B H ∧ B.con.length < 40000 ∧ DataBad K [] H x y ∧ ∀ H', Same H H' → Q (.bl true) H'
set_option maxHeartbeats 0 in
theorem ok__law_data_refused (T : Txt K mg) : FnStill P w K mg base 7 T.a__law_data_refused T.fd__law_data_refused ["outbox", "state", "data", "bad", "urgent"] (sp__law_data_refused K T.c_Outbox) := by
  have S := sc__law_data_refused
  refine still_fn T.F__law_data_refused S (fun vs H Q E h => ?_) (fun cdv A outer s H vs Q E hg hr h => ?_)
  · obtain ⟨p, l, q, c, B, x, y, u, rfl, _⟩ := h
    rfl
  · obtain ⟨p, l, q, c, B, x, y, u, rfl, W, hz, hb, k⟩ := h
    obtain ⟨⟨dx, hp⟩, _⟩ := W.o
    have hq := W.s.1
    unfold Bx.kvs at hq
    have hu := room_un hr
    refine ⟨_, (pss_cons (ps_try_cl rfl rfl takes0 (fun W pn xe tk po => (pss_one (ps_if (pt_val (pv 4)) (pss_one (ps_expr (pe_methX (pv 0) T.cl_Outbox T.m_Outbox_urge (ok_Outbox_urge T) (hr.mono (by decide)) T.B_Outbox_urge (fun σ => passAt tk σ) (pa_cons (pv 2) pa_nil)))) (pss_one (ps_expr (pe_methX (pv 0) T.cl_Outbox T.m_Outbox_put (ok_Outbox_put T) (hr.mono (by decide)) T.B_Outbox_put (fun σ => passAt tk σ) (pa_cons (pv 2) pa_nil)))))))
      (ClOk.named (i := 5) S.nd rfl rfl ⟨rfl, by decide, .inl T.X_NotAllowed.g⟩ (fun a oe cls d pn hz hf => (pss_one (ps_ret (pe_and (pe_dget (room_u1 hr) (pv 1) pe_str (fun _ _ => rfl)) (pe_and (pe_cmpR op_eq (pe_xg hz hf (pv 5)) pe_str (nomark _)) (pe_one (pe_callPin (fun _ _ _ => False) hz hf (ok__law_only T) (hr.mono (by decide)) rfl T.g__law_only T.F__law_only.kp T.B__law_only (pa_cons (pv 5) (pa_cons pe_bl (pa_cons pe_bl (pa_cons pe_bl pa_nil)))))))))))
      (ClOk.named (i := 5) S.nd rfl rfl ⟨rfl, by decide, .inl T.X_InvalidNumber.g⟩ (fun a oe cls d pn hz hf => (pss_one (ps_ret (pe_and (pe_not (pe_dget (room_u1 hr) (pv 1) pe_str (fun _ _ => rfl))) (pe_and (pe_cmpR op_eq (pe_callB (id := "repr") (show CallR _ (.builtin "repr") (rReprD K) from call_reprD hg hu) (by rfl) T.b_repr (by decide +kernel) (pa_cons (pe_xg hz hf (pv 5)) pa_nil)) (pe_callB (id := "repr") (show CallR _ (.builtin "repr") (rReprD K) from call_reprD hg hu) (by rfl) T.b_repr (by decide +kernel) (pa_cons (pv 3) pa_nil)) (nomark _)) (pe_one (pe_callPin (fun _ _ _ => False) hz hf (ok__law_only T) (hr.mono (by decide)) rfl T.g__law_only T.F__law_only.kp T.B__law_only (pa_cons (pv 5) (pa_cons pe_bl (pa_cons pe_bl (pa_cons pe_bl pa_nil)))))))))))
      ClOk.nil)))
      (pss_one (ps_ret pe_bl))), ?_⟩
    refine st__law_data_refused ?_
    o_args
    cases u
    all_goals
      o_args
      refine ⟨p, _, _, rfl, hp, rfl, ?_⟩
      o_args
      refine ⟨p, l, B, x, rfl, W.o, hz, ?_⟩
      cases hcl : B.closed with
      | true =>
        refine .inl ⟨hcl, fun dd H2 s2 hx => ?_⟩
        refine ⟨true, T.Me_NotAllowed_NotAllowed, fun _ _ _ => ?_, fun z => nomatch z⟩
        have hq2 := s2 _ _ hq
        o_args
        refine brT hcl ?_
        o_args
        refine errF T.X_NotAllowed.x T.nX_NotAllowed hx rfl ?_
        o_args
        refine ⟨_, _, _, _, _, _, rfl, rfl, rfl, hx, only_state T, ?_⟩
        o_args
        exact k H2 s2
      | false =>
        have go : Err T.c_InvalidNumber "number" y H (fun cls d H2 => ∃ H3 dd, cls = .ref T.c_InvalidNumber ∧ d = some dd ∧ Same H H2 ∧ H3 = H2 ∧ H2 dd = some (.xd [("number", y)])) := fun dd H2 s2 hx => ⟨H2, dd, rfl, rfl, s2, rfl, hx⟩
        refine .inr ⟨hcl, ?_⟩
        obtain ⟨_, hb0⟩ := hb H Ch.refl
        have main : ∀ dd H2, Same H H2 → H2 dd = some (.xd [("number", y)]) → ∀ W : Prop, W → W := fun _ _ _ _ _ w => w
        rcases hb0 with ⟨sk, rfl⟩ | ⟨d, ns, zs, rfl, hA, hby, ho⟩
        · refine .inr (.inl ⟨sk, fun dd H2 s2 hx => ?_⟩)
          refine ⟨false, T.Me_InvalidNumber_NotAllowed, (fun z => nomatch z), fun _ => ⟨true, T.Me_InvalidNumber_InvalidNumber, fun _ _ _ => ?_, fun z => nomatch z⟩⟩
          have hq2 := s2 _ _ hq
          obtain ⟨z, sh⟩ := (hb H2 (Ch.of s2)).1.ask
          o_args
          refine brF hcl ?_
          o_args
          refine errF T.X_InvalidNumber.x T.nX_InvalidNumber hx rfl ?_
          o_args
          refine sh _ ?_
          o_args
          refine sh _ ?_
          o_args
          refine brDT rfl ?_
          o_args
          refine ⟨_, _, _, _, _, _, rfl, rfl, rfl, hx, only_number T, ?_⟩
          o_args
          exact k H2 s2
        · refine .inr (.inr ⟨d, ns, y, zs, rfl, hA, hby, ho, fun dd H2 s2 hx => ?_⟩)
          refine ⟨false, T.Me_InvalidNumber_NotAllowed, (fun z => nomatch z), fun _ => ⟨true, T.Me_InvalidNumber_InvalidNumber, fun _ _ _ => ?_, fun z => nomatch z⟩⟩
          have hq2 := s2 _ _ hq
          obtain ⟨z, sh⟩ := (hb H2 (Ch.of s2)).1.ask
          o_args
          refine brF hcl ?_
          o_args
          refine errF T.X_InvalidNumber.x T.nX_InvalidNumber hx rfl ?_
          o_args
          refine sh _ ?_
          o_args
          refine sh _ ?_
          o_args
          refine brDT rfl ?_
          o_args
          refine ⟨_, _, _, _, _, _, rfl, rfl, rfl, hx, only_number T, ?_⟩
          o_args
          exact k H2 s2
/-- five kinds that are no numbers, drawn from a list -/
theorem kinds5 {K : PySem.W.Frag} {G : List Addr} {H : Hp} {t l : Addr} {lo hi : Int} (ht : H t = some (.tup [.int 1])) (hl : H l = some (.lst [.int 1])) (nt : t ∉ G) (nl : l ∉ G) (j : Nat) (h : j < 5) : ∃ x, [V.non, .bl true, .str "1", .ref t, .ref l][j]? = some x ∧ BadV K G H x lo hi := by
  match j, h with
  | 0, _ => exact ⟨_, rfl, .non⟩
  | 1, _ => exact ⟨_, rfl, .bl true⟩
  | 2, _ => exact ⟨_, rfl, .str (by decide +kernel)⟩
  | 3, _ => exact ⟨_, rfl, .tup1 ht nt⟩
  | 4, _ => exact ⟨_, rfl, .lst1 hl nl⟩
theorem off1 {a t : Addr} {F : List Addr} {H : Hp} (B : Box a F H) (n : H t = none) : t ∉ [a] := fun z => B.off n (List.mem_singleton.mp z)
theorem Box.al1 {a t : Addr} {F : List Addr} {H H' : Hp} (B : Box a F H) (s : Same H H') (n : H' t = none) : t ∉ [a] := off1 (B.same s) n
def sp__law_release_refused (K : PySem.W.Frag) (C : Addr) : Sp := fun vs H Q _ => ∃ (a p l q c : Addr) (F : List Addr) (B : Bx), vs = [.ref a, .ref p, .ref q] ∧ Box a F H ∧ Ow C p l q c B H ∧ ∀ H', Box a F H' → Ow C p l q c B H' → Ch [a] H H' → Q (.bl true) H'
set_option maxHeartbeats 0 in
theorem ok__law_release_refused (T : Txt K mg) : FnStill P w K mg base 4 T.a__law_release_refused T.fd__law_release_refused ["box", "outbox", "state"] (sp__law_release_refused K T.c_Outbox) := by
  have S := sc__law_release_refused
  refine still_fn T.F__law_release_refused S (fun vs H Q E h => ?_) (fun cdv A outer s H vs Q E hg hr h => ?_)
  · obtain ⟨a, p, l, q, c, F, B, rfl, _⟩ := h
    rfl
  · obtain ⟨a, p, l, q, c, F, B, rfl, B0, W, k⟩ := h
    have hq := W.s.1
    have ok := W.o.2.2
    have b1 := ok.b1
    have b2 := ok.b2
    have sz := ok.sz
    have hu := room_un hr
    unfold Bx.kvs at hq
    refine ⟨_, (pss_cons (ps_set (i := 3) S.nd rfl (Or.inl rfl) (pe_op op_sub (pe_op op_sub (pe_dget (room_u1 hr) (pv 2) pe_str (fun _ _ => rfl)) pe_int) (pe_call (ok__law_draw T) (hr.mono (by decide)) rfl T.g__law_draw T.F__law_draw.kp T.B__law_draw .nil pass0 (pa_cons (pv 0) (pa_cons pe_int pa_nil)))))
      (pss_cons (ps_set (i := 4) S.nd rfl (Or.inl rfl) (pe_call (ok__law_draw T) (hr.mono (by decide)) rfl T.g__law_draw T.F__law_draw.kp T.B__law_draw .nil pass0 (pa_cons (pv 0) (pa_cons pe_int pa_nil))))
      (C8.pss_cut (ps_if (pt_cmpR op_eq (pv 4) pe_int (nomark _)) (pss_one (ps_set (i := 3) S.nd rfl (Or.inl rfl) (pe_op op_add (pe_op op_add (pe_op op_add pe_int (pe_callB (id := "len") (call_lenK (K := K) rfl) (by rfl) T.b_len (by decide +kernel) (pa_cons (pe_dget (room_u1 hr) (pv 2) pe_str (fun _ _ => rfl)) pa_nil))) pe_int) (pe_call (ok__law_draw T) (hr.mono (by decide)) rfl T.g__law_draw T.F__law_draw.kp T.B__law_draw .nil pass0 (pa_cons (pv 0) (pa_cons pe_int pa_nil)))))) pss_nil)
      (C8.pss_cut (ps_if (pt_cmpR op_eq (pv 4) pe_int (nomark _)) (pss_one (ps_set (i := 3) S.nd rfl (Or.inl rfl) (pe_ix ix_list (pe_lst (pa_cons pe_non (pa_cons pe_bl (pa_cons pe_str (pa_cons (pe_tup (pa_cons pe_int pa_nil)) (pa_cons (pe_lst (pa_cons pe_int pa_nil)) pa_nil)))))) (pe_call (ok__law_draw T) (hr.mono (by decide)) rfl T.g__law_draw T.F__law_draw.kp T.B__law_draw .nil pass0 (pa_cons (pv 0) (pa_cons pe_int pa_nil))) (fun _ _ => rfl)))) pss_nil)
      (pss_cons (ps_try_cl rfl rfl takes0 (fun W pn xe tk po => (pss_one (ps_expr (pe_methX (pv 1) T.cl_Outbox T.m_Outbox_release (ok_Outbox_release T) (hr.mono (by decide)) T.B_Outbox_release (fun σ => passAt tk σ) (pa_cons (pv 3) pa_nil)))))
      (ClOk.named (i := 5) S.nd rfl rfl ⟨rfl, by decide, .inl T.X_InvalidNumber.g⟩ (fun a oe cls d pn hz hf => (pss_one (ps_ret (pe_and (pe_cmpR op_eq (pe_callB (id := "repr") (show CallR _ (.builtin "repr") (rReprD K) from call_reprD hg hu) (by rfl) T.b_repr (by decide +kernel) (pa_cons (pe_xg hz hf (pv 5)) pa_nil)) (pe_callB (id := "repr") (show CallR _ (.builtin "repr") (rReprD K) from call_reprD hg hu) (by rfl) T.b_repr (by decide +kernel) (pa_cons (pv 3) pa_nil)) (nomark _)) (pe_one (pe_callPin (fun _ _ _ => False) hz hf (ok__law_only T) (hr.mono (by decide)) rfl T.g__law_only T.F__law_only.kp T.B__law_only (pa_cons (pv 5) (pa_cons pe_bl (pa_cons pe_bl (pa_cons pe_bl pa_nil))))))))))
      ClOk.nil))
      (pss_one (ps_ret pe_bl))))))), ?_⟩
    refine st__law_release_refused ?_
    o_args
    refine ⟨a, F, _, rfl, B0, by decide, by decide, fun d1 H1 d10 d11 B1 c1 => ?_⟩
    o_args
    refine ⟨a, F, _, rfl, B1, by decide, by decide, fun w H2 w0 w1 B2 c2 => ?_⟩
    have C2 := c1.trans c2
    have W2 := W.box B0 C2
    have v0 : BadV K [a] H2 (.int ((B.base : Int) - 1 - d1)) B.base (1 + B.con.length) := .int (by omega) (by omega)
    o_args
    refine ⟨fun σ H' => ∃ x, σ = [some (.ref a), some (.ref p), some (.ref q), some x, some (.int w), none] ∧ BadV K [a] H' x B.base (1 + B.con.length) ∧ Box a F H' ∧ Ch [a] H H', ?_, ?_⟩
    · o_args
      refine brD (fun e => ?_) (fun e => ?_)
      · have hq2 := W2.s.1
        have hc2 := W2.s.2
        unfold Bx.kvs at hq2
        o_args
        refine lenA (.inl (SqL.of hc2)) ?_
        rw [List.length_map]
        o_args
        refine ⟨a, F, _, rfl, B2, by decide, by decide, fun d H3 d0 d1' B3 c3 => ?_⟩
        o_args
        exact ⟨_, rfl, .int (by omega) (by omega), B3, C2.trans c3⟩
      · o_args
        exact ⟨_, rfl, v0, B2, C2⟩
    rintro σ H3 ⟨x, rfl, vx, B3, C3⟩
    o_args
    refine ⟨fun σ H' => ∃ x, σ = [some (.ref a), some (.ref p), some (.ref q), some x, some (.int w), none] ∧ BadV K [a] H' x B.base (1 + B.con.length) ∧ Box a F H' ∧ Ch [a] H H', ?_, ?_⟩
    · o_args
      refine brD (fun e => ?_) (fun e => ?_)
      · o_args
        refine newTup (by simp) fun t H4 nt s4 h4 => ?_
        o_args
        refine newList (by simp) fun l1 H5 nl s5 h5 => ?_
        o_args
        refine newList (by simp) fun m H6 nm s6 h6 => ?_
        have ta := off1 B3 nt
        have la := B3.al1 s4 nl
        have ma := B3.al1 (s4.trans s5) nm
        have S6 := (s4.trans s5).trans s6
        o_args
        refine ⟨a, F, _, rfl, B3.same S6, by decide, by decide, fun j H7 j0 j1 B7 c7 => ?_⟩
        obtain ⟨jn, rfl⟩ : ∃ i : Nat, j = i := ⟨j.toNat, by omega⟩
        obtain ⟨x', ex, bx⟩ := kinds5 (K := K) (lo := B.base) (hi := 1 + B.con.length) (c7.at ta (s6 _ _ (s5 _ _ h4))) (c7.at la (s6 _ _ h5)) ta la jn (by omega)
        o_args
        refine ixL (c7.at ma h6) ex ?_
        o_args
        exact ⟨_, rfl, bx, B7, (C3.trans (Ch.of S6)).trans c7⟩
      · o_args
        exact ⟨_, rfl, vx, B3, C3⟩
    rintro σ H4 ⟨x, rfl, vx, B4, C4⟩
    have W4 := W.box B0 C4
    obtain ⟨⟨dx4, hp4⟩, _⟩ := W4.o
    o_args
    refine ⟨p, _, _, rfl, hp4, rfl, ?_⟩
    o_args
    refine ⟨p, l, B, x, rfl, W4.o, .inr ⟨(vx H4 Ch.refl).1, fun dd H5 s5 hx => ?_⟩⟩
    refine ⟨true, T.Me_InvalidNumber_InvalidNumber, fun _ _ _ => ?_, fun z => nomatch z⟩
    obtain ⟨z, sh⟩ := (vx H5 (Ch.of s5)).2.ask
    o_args
    refine errF T.X_InvalidNumber.x T.nX_InvalidNumber hx rfl ?_
    o_args
    refine sh _ ?_
    o_args
    refine sh _ ?_
    o_args
    refine brDT rfl ?_
    o_args
    refine ⟨_, _, _, _, _, _, rfl, rfl, rfl, hx, only_number T, ?_⟩
    o_args
    exact k H5 (B4.same s5) (W4.same s5) (C4.trans (Ch.of s5))
def sp__law_cut_refused (K : PySem.W.Frag) (C : Addr) : Sp := fun vs H Q _ => ∃ (a p l q c : Addr) (F : List Addr) (B : Bx), vs = [.ref a, .ref p, .ref q] ∧ Box a F H ∧ Ow C p l q c B H ∧ ∀ H', Box a F H' → Ow C p l q c B H' → Ch [a] H H' → Q (.bl true) H'
set_option maxHeartbeats 0 in
theorem ok__law_cut_refused (T : Txt K mg) : FnStill P w K mg base 4 T.a__law_cut_refused T.fd__law_cut_refused ["box", "outbox", "state"] (sp__law_cut_refused K T.c_Outbox) := by
  have S := sc__law_cut_refused
  refine still_fn T.F__law_cut_refused S (fun vs H Q E h => ?_) (fun cdv A outer s H vs Q E hg hr h => ?_)
  · obtain ⟨a, p, l, q, c, F, B, rfl, _⟩ := h
    rfl
  · obtain ⟨a, p, l, q, c, F, B, rfl, B0, W, k⟩ := h
    have hq := W.s.1
    have hc := W.s.2
    have ok := W.o.2.2
    have b1 := ok.b1
    have b2 := ok.b2
    have sz := ok.sz
    have hu := room_un hr
    unfold Bx.kvs at hq
    refine ⟨_, (pss_cons (ps_set (i := 3) S.nd rfl (Or.inl rfl) (pe_op op_add pe_int (pe_callB (id := "len") (call_lenK (K := K) rfl) (by rfl) T.b_len (by decide +kernel) (pa_cons (pe_dget (room_u1 hr) (pv 2) pe_str (fun _ _ => rfl)) pa_nil))))
      (pss_cons (ps_set (i := 4) S.nd rfl (Or.inl rfl) (pe_op op_sub (pe_op op_sub (pe_dget (room_u1 hr) (pv 2) pe_str (fun _ _ => rfl)) pe_int) (pe_call (ok__law_draw T) (hr.mono (by decide)) rfl T.g__law_draw T.F__law_draw.kp T.B__law_draw .nil pass0 (pa_cons (pv 0) (pa_cons pe_int pa_nil)))))
      (pss_cons (ps_set (i := 5) S.nd rfl (Or.inl rfl) (pe_op op_add (pe_op op_add (pv 3) pe_int) (pe_call (ok__law_draw T) (hr.mono (by decide)) rfl T.g__law_draw T.F__law_draw.kp T.B__law_draw .nil pass0 (pa_cons (pv 0) (pa_cons pe_int pa_nil)))))
      (pss_cons (ps_set (i := 6) S.nd rfl (Or.inl rfl) (pe_op op_add (pe_dget (room_u1 hr) (pv 2) pe_str (fun _ _ => rfl)) (pe_call (ok__law_draw T) (hr.mono (by decide)) rfl T.g__law_draw T.F__law_draw.kp T.B__law_draw .nil pass0 (pa_cons (pv 0) (pa_cons (pe_op op_add (pe_op op_sub (pv 3) (pe_dget (room_u1 hr) (pv 2) pe_str (fun _ _ => rfl))) pe_int) pa_nil)))))
      (pss_cons (ps_set (i := 7) S.nd rfl (Or.inl rfl) (pe_ix ix_list (pe_lst (pa_cons pe_non (pa_cons pe_bl (pa_cons pe_str (pa_cons (pe_tup (pa_cons pe_int pa_nil)) (pa_cons (pe_lst (pa_cons pe_int pa_nil)) pa_nil)))))) (pe_call (ok__law_draw T) (hr.mono (by decide)) rfl T.g__law_draw T.F__law_draw.kp T.B__law_draw .nil pass0 (pa_cons (pv 0) (pa_cons pe_int pa_nil))) (fun _ _ => rfl)))
      (pss_cons (ps_set (i := 8) S.nd rfl (Or.inl rfl) (pe_call (ok__law_draw T) (hr.mono (by decide)) rfl T.g__law_draw T.F__law_draw.kp T.B__law_draw .nil pass0 (pa_cons (pv 0) (pa_cons pe_int pa_nil))))
      (pss_cons (ps_set (i := 9) S.nd rfl (Or.inl rfl) (pe_ix ix_list (pe_lst (pa_cons (pv 4) (pa_cons (pv 5) (pa_cons (pv 6) (pa_cons (pv 6) (pa_cons (pv 4) (pa_cons (pv 7) (pa_cons (pv 6) pa_nil)))))))) (pv 8) (fun _ _ => rfl)))
      (pss_cons (ps_set (i := 10) S.nd rfl (Or.inl rfl) (pe_ix ix_list (pe_lst (pa_cons (pv 3) (pa_cons (pv 3) (pa_cons (pe_op op_sub (pe_op op_sub (pv 6) pe_int) (pe_call (ok__law_draw T) (hr.mono (by decide)) rfl T.g__law_draw T.F__law_draw.kp T.B__law_draw .nil pass0 (pa_cons (pv 0) (pa_cons pe_int pa_nil)))) (pa_cons (pv 5) (pa_cons (pv 5) (pa_cons (pv 3) (pa_cons (pv 7) pa_nil)))))))) (pv 8) (fun _ _ => rfl)))
      (pss_cons (ps_set (i := 11) S.nd rfl (Or.inl rfl) (pe_ix ix_list (pe_lst (pa_cons (pv 9) (pa_cons (pv 9) (pa_cons (pv 10) (pa_cons (pv 10) (pa_cons (pv 9) (pa_cons (pv 9) (pa_cons (pv 10) pa_nil)))))))) (pv 8) (fun _ _ => rfl)))
      (pss_cons (ps_try_cl rfl rfl takes0 (fun W pn xe tk po => (pss_one (ps_expr (pe_methX (pv 1) T.cl_Outbox T.m_Outbox_cut (ok_Outbox_cut T) (hr.mono (by decide)) T.B_Outbox_cut (fun σ => passAt tk σ) (pa_cons (pv 9) (pa_cons (pv 10) pa_nil))))))
      (ClOk.named (i := 12) S.nd rfl rfl ⟨rfl, by decide, .inl T.X_InvalidNumber.g⟩ (fun a oe cls d pn hz hf => (pss_one (ps_ret (pe_and (pe_cmpR op_eq (pe_callB (id := "repr") (show CallR _ (.builtin "repr") (rReprD K) from call_reprD hg hu) (by rfl) T.b_repr (by decide +kernel) (pa_cons (pe_xg hz hf (pv 12)) pa_nil)) (pe_callB (id := "repr") (show CallR _ (.builtin "repr") (rReprD K) from call_reprD hg hu) (by rfl) T.b_repr (by decide +kernel) (pa_cons (pv 11) pa_nil)) (nomark _)) (pe_one (pe_callPin (fun _ _ _ => False) hz hf (ok__law_only T) (hr.mono (by decide)) rfl T.g__law_only T.F__law_only.kp T.B__law_only (pa_cons (pv 12) (pa_cons pe_bl (pa_cons pe_bl (pa_cons pe_bl pa_nil))))))))))
      ClOk.nil))
      (pss_one (ps_ret pe_bl)))))))))))), ?_⟩
    refine st__law_cut_refused ?_
    o_args
    refine lenA (.inl (SqL.of hc)) ?_
    rw [List.length_map]
    o_args
    refine ⟨a, F, _, rfl, B0, by decide, by decide, fun d1 H1 d10 d11 B1 c1 => ?_⟩
    o_args
    refine ⟨a, F, _, rfl, B1, by decide, by decide, fun d2 H2 d20 d21 B2 c2 => ?_⟩
    have C2 := c1.trans c2
    have W2 := W.box B0 C2
    have hq2 := W2.s.1
    unfold Bx.kvs at hq2
    o_args
    refine ⟨a, F, _, rfl, B2, by omega, by omega, fun d3 H3 d30 d31 B3 c3 => ?_⟩
    have C3 := C2.trans c3
    o_args
    refine newTup (by simp) fun t H4 nt s4 h4 => ?_
    o_args
    refine newList (by simp) fun l1 H5 nl s5 h5 => ?_
    o_args
    refine newList (by simp) fun m H6 nm s6 h6 => ?_
    have ta := off1 B3 nt
    have la := B3.al1 s4 nl
    have ma := B3.al1 (s4.trans s5) nm
    have S6 := (s4.trans s5).trans s6
    o_args
    refine ⟨a, F, _, rfl, B3.same S6, by decide, by decide, fun j H7 j0 j1 B7 c7 => ?_⟩
    obtain ⟨jn, rfl⟩ : ∃ i : Nat, j = i := ⟨j.toNat, by omega⟩
    obtain ⟨kd, ek, _⟩ := kinds5 (K := K) (lo := 0) (hi := 0) (c7.at ta (s6 _ _ (s5 _ _ h4))) (c7.at la (s6 _ _ h5)) ta la jn (by omega)
    have bk : ∀ lo hi, BadV K [a] H7 kd lo hi := fun lo hi => by
      obtain ⟨x', ex, bx⟩ := kinds5 (K := K) (lo := lo) (hi := hi) (c7.at ta (s6 _ _ (s5 _ _ h4))) (c7.at la (s6 _ _ h5)) ta la jn (by omega)
      rw [ek] at ex
      cases ex
      exact bx
    have C7 := (C3.trans (Ch.of S6)).trans c7
    have h7 := c7.at ma h6
    clear h4 h5 h6
    o_args
    refine ixL h7 ek ?_
    o_args
    refine ⟨a, F, _, rfl, B7, by decide, by decide, fun wy H8 w0 w1 B8 c8 => ?_⟩
    obtain ⟨w, rfl⟩ : ∃ i : Nat, wy = i := ⟨wy.toNat, by omega⟩
    have wl : w < 7 := by omega
    have C8 := C7.trans c8
    o_args
    refine newList (by simp) fun L1 H9 n9 s9 h9 => ?_
    have B9 := B8.same s9
    obtain ⟨x, ex⟩ : ∃ x, [V.int ((B.base : Int) - 1 - d1), .int (1 + (B.con.length : Int) + 1 + d2), .int ((B.base : Int) + d3), .int ((B.base : Int) + d3), .int ((B.base : Int) - 1 - d1), kd, .int ((B.base : Int) + d3)][w]? = some x := ⟨_, List.getElem?_eq_getElem wl⟩
    o_args
    refine ixL h9 ex ?_
    o_args
    refine ⟨a, F, _, rfl, B9, by decide, by decide, fun d4 H10 d40 d41 B10 c10 => ?_⟩
    have C10 := (C8.trans (Ch.of s9)).trans c10
    o_args
    refine newList (by simp) fun L2 H11 n11 s11 h11 => ?_
    have bk11 : ∀ lo hi, BadV K [a] H11 kd lo hi := fun lo hi => (bk lo hi).ch (((c8.trans (Ch.of s9)).trans c10).trans (Ch.of s11))
    obtain ⟨y, z, ey, ez, kz⟩ : ∃ y z, [V.int (1 + (B.con.length : Int)), .int (1 + (B.con.length : Int)), .int ((B.base : Int) + d3 - 1 - d4), .int (1 + (B.con.length : Int) + 1 + d2), .int (1 + (B.con.length : Int) + 1 + d2), .int (1 + (B.con.length : Int)), kd][w]? = some y ∧ [x, x, y, y, x, x, y][w]? = some z ∧
        ((z = x ∧ BadV K [a] H11 z B.base (1 + B.con.length)) ∨ (z = y ∧ ∃ m : Int, x = .int m ∧ B.base ≤ m ∧ m ≤ 1 + B.con.length ∧ BadV K [a] H11 z m (1 + B.con.length))) := by
      match w, wl with
      | 0, _ => cases ex; exact ⟨_, _, rfl, rfl, .inl ⟨rfl, .int (by omega) (by omega)⟩⟩
      | 1, _ => cases ex; exact ⟨_, _, rfl, rfl, .inl ⟨rfl, .int (by omega) (by omega)⟩⟩
      | 2, _ => cases ex; exact ⟨_, _, rfl, rfl, .inr ⟨rfl, _, rfl, by omega, by omega, .int (by omega) (by omega)⟩⟩
      | 3, _ => cases ex; exact ⟨_, _, rfl, rfl, .inr ⟨rfl, _, rfl, by omega, by omega, .int (by omega) (by omega)⟩⟩
      | 4, _ => cases ex; exact ⟨_, _, rfl, rfl, .inl ⟨rfl, .int (by omega) (by omega)⟩⟩
      | 5, _ => cases ex; exact ⟨_, _, rfl, rfl, .inl ⟨rfl, bk11 _ _⟩⟩
      | 6, _ => cases ex; exact ⟨_, _, rfl, rfl, .inr ⟨rfl, _, rfl, by omega, by omega, bk11 _ _⟩⟩
    o_args
    refine ixL h11 ey ?_
    o_args
    refine newList (by simp) fun L3 H12 n12 s12 h12 => ?_
    o_args
    refine ixL h12 ez ?_
    have S12 := s11.trans s12
    have C12 := C10.trans (Ch.of S12)
    have W12 := W.box B0 C12
    have B12 := B10.same S12
    obtain ⟨⟨dx, hp⟩, _⟩ := W12.o
    have shz : ∀ H', Same H12 H' → Rpr K H' z := fun H' s => by
      rcases kz with ⟨_, kz⟩ | ⟨_, _, _, _, _, kz⟩
      · exact (kz H' (Ch.of (s12.trans s))).2
      · exact (kz H' (Ch.of (s12.trans s))).2
    o_args
    refine ⟨p, _, _, rfl, hp, rfl, ?_⟩
    o_args
    have fin : ∀ dd H5, Same H12 H5 → H5 dd = some (.xd [("number", z)]) → ∃ u : Str, (∀ R : VK, R (.str u) H5 → rReprD K [z] H5 R) ∧ (Q (.bl true) H5) := fun dd H5 s5 _ => by
      obtain ⟨u, sh⟩ := (shz H5 s5).ask
      exact ⟨u, sh, k H5 (B12.same s5) (W12.same s5) (C12.trans (Ch.of s5))⟩
    rcases kz with ⟨rfl, kz⟩ | ⟨rfl, m', rfl, m0, m1, kz⟩
    · refine ⟨p, l, B, _, _, rfl, W12.o, .inr (.inl ⟨(kz H12 (Ch.of s12)).1, fun dd H5 s5 hx => ?_⟩)⟩
      refine ⟨true, T.Me_InvalidNumber_InvalidNumber, fun _ _ _ => ?_, fun z => nomatch z⟩
      obtain ⟨u, sh, kk⟩ := fin dd H5 s5 hx
      o_args
      refine errF T.X_InvalidNumber.x T.nX_InvalidNumber hx rfl ?_
      o_args
      refine sh _ ?_
      o_args
      refine sh _ ?_
      o_args
      refine brDT rfl ?_
      o_args
      refine ⟨_, _, _, _, _, _, rfl, rfl, rfl, hx, only_number T, ?_⟩
      o_args
      exact kk
    · refine ⟨p, l, B, _, _, rfl, W12.o, .inr (.inr ⟨m', rfl, m0, m1, (kz H12 (Ch.of s12)).1, fun dd H5 s5 hx => ?_⟩)⟩
      refine ⟨true, T.Me_InvalidNumber_InvalidNumber, fun _ _ _ => ?_, fun z => nomatch z⟩
      obtain ⟨u, sh, kk⟩ := fin dd H5 s5 hx
      o_args
      refine errF T.X_InvalidNumber.x T.nX_InvalidNumber hx rfl ?_
      o_args
      refine sh _ ?_
      o_args
      refine sh _ ?_
      o_args
      refine brDT rfl ?_
      o_args
      refine ⟨_, _, _, _, _, _, rfl, rfl, rfl, hx, only_number T, ?_⟩
      o_args
      exact kk
theorem len6 {α : Type} {l : List α} (h : l.length = 6) : ∃ a b c d e f, l = [a, b, c, d, e, f] := by
  match l, h with
  | [a, b, c, d, e, f], _ => exact ⟨a, b, c, d, e, f, rfl⟩
def sp__law_limit_refused (C : Addr) : Sp := fun vs H Q _ => ∃ (a p l : Addr) (F : List Addr) (B : Bx), vs = [.ref a, .ref p] ∧ Box a F H ∧ p ≠ a ∧ l ≠ a ∧ OutAt C H p l B ∧ ∀ H', Box a F H' → Ch [a] H H' → Q (.bl true) H'
set_option maxHeartbeats 0 in
theorem ok__law_limit_refused (T : Txt K mg) : FnOk P w K mg base CX0 9 T.a__law_limit_refused T.fd__law_limit_refused ["box", "outbox"] (sp__law_limit_refused T.c_Outbox) := by
  have S := sc__law_limit_refused
  refine T.F__law_limit_refused.ok S (fun vs H Q E h => ?_) (fun cdv A outer s H vs Q E hr h => ?_)
  · obtain ⟨a, p, l, F, B, rfl, _⟩ := h
    rfl
  · obtain ⟨a, p, l, F, B, rfl, B0, pa, la, O, k⟩ := h
    refine ⟨_, (pss_cons (ps_set (i := 2) S.nd rfl (Or.inl rfl) (pe_lst (pa_cons pe_int (pa_cons (pe_op op_sub (pe_op op_sub pe_int pe_int) (pe_call (ok__law_draw T) (hr.mono (by decide)) rfl T.g__law_draw T.F__law_draw.kp T.B__law_draw .nil pass0 (pa_cons (pv 0) (pa_cons pe_int pa_nil)))) (pa_cons pe_int (pa_cons (pe_op op_add pe_int (pe_call (ok__law_draw T) (hr.mono (by decide)) rfl T.g__law_draw T.F__law_draw.kp T.B__law_draw .nil pass0 (pa_cons (pv 0) (pa_cons pe_int pa_nil)))) (pa_cons pe_bl (pa_cons pe_bl (pa_cons pe_non (pa_cons pe_str (pa_cons (pe_tup (pa_cons pe_int pa_nil)) (pa_cons (pe_lst (pa_cons pe_int pa_nil)) pa_nil))))))))))))
      (pss_cons (ps_set (i := 3) S.nd rfl (Or.inl rfl) (pe_ix ix_list (pv 2) (pe_call (ok__law_draw T) (hr.mono (by decide)) rfl T.g__law_draw T.F__law_draw.kp T.B__law_draw .nil pass0 (pa_cons (pv 0) (pa_cons pe_int pa_nil))) (fun _ _ => rfl)))
      (pss_cons (ps_set (i := 4) S.nd rfl (Or.inl rfl) (pe_cmpR op_eq (pe_call (ok__law_draw T) (hr.mono (by decide)) rfl T.g__law_draw T.F__law_draw.kp T.B__law_draw .nil pass0 (pa_cons (pv 0) (pa_cons pe_int pa_nil))) pe_int (nomark _)))
      (pss_cons (ps_try_cl rfl rfl takes0 (fun W pn xe tk po => (pss_one (ps_if (pt_val (pv 4)) (pss_one (ps_expr (pe_make T.M_Outbox (ok_Outbox_init_ T) (hr.mono (by decide)) rfl T.g_Outbox T.B_Outbox_init_ .nil (passes_any 6 tk) (pa_cons (pv 3) pa_nil)))) (pss_one (ps_expr (pe_methX (pv 1) T.cl_Outbox T.m_Outbox_resize (ok_Outbox_resize T) (hr.mono (by decide)) T.B_Outbox_resize (fun σ => passAt tk σ) (pa_cons (pv 3) pa_nil)))))))
      (ClOk.named (i := 5) S.nd rfl rfl ⟨rfl, by decide, .inl T.X_InvalidSetting.g⟩ (fun a oe cls d pn hz hf => (pss_one (ps_ret (pe_and (pe_cmpR op_eq (pe_xg hz hf (pv 5)) pe_str (nomark _)) (pe_one (pe_callPin (fun _ _ _ => False) hz hf (ok__law_only T) (hr.mono (by decide)) rfl T.g__law_only T.F__law_only.kp T.B__law_only (pa_cons (pv 5) (pa_cons pe_bl (pa_cons pe_bl (pa_cons pe_bl pa_nil))))))))))
      ClOk.nil))
      (pss_one (ps_ret pe_bl)))))), ?_⟩
    refine st__law_limit_refused ?_
    o_args
    refine ⟨a, F, _, rfl, B0, by decide, by decide, fun d1 H1 d10 d11 B1 c1 => ?_⟩
    o_args
    refine ⟨a, F, _, rfl, B1, by decide, by decide, fun d2 H2 d20 d21 B2 c2 => ?_⟩
    o_args
    refine newTup (by simp) fun t H4 nt s4 h4 => ?_
    o_args
    refine newList (by simp) fun l1 H5 nl s5 h5 => ?_
    o_args
    refine newList (by simp) fun m H6 nm s6 h6 => ?_
    have ta := off1 B2 nt
    have l1a := B2.al1 s4 nl
    have ma := B2.al1 (s4.trans s5) nm
    have S6 := (s4.trans s5).trans s6
    have C6 := (c1.trans c2).trans (Ch.of S6)
    o_args
    refine ⟨a, F, _, rfl, B2.same S6, by decide, by decide, fun j H7 j0 j1 B7 c7 => ?_⟩
    obtain ⟨jn, rfl⟩ : ∃ i : Nat, j = i := ⟨j.toNat, by omega⟩
    have jl : jn < 10 := by omega
    have t7 := c7.at ta (s6 _ _ (s5 _ _ h4))
    have l7 := c7.at l1a (s6 _ _ h5)
    obtain ⟨x, ex⟩ : ∃ x, [V.int 0, .int (0 - 1 - d1), .int 65536, .int (65536 + d2), .bl true, .bl false, .non, .str "8", .ref t, .ref l1][jn]? = some x := ⟨_, List.getElem?_eq_getElem jl⟩
    have bx : ∀ G, Ch [a] H7 G → Out K G x 1 65535 := fun G c => by
      match jn, jl with
      | 0, _ => cases ex; exact .int (by omega)
      | 1, _ => cases ex; exact .int (by omega)
      | 2, _ => cases ex; exact .int (by omega)
      | 3, _ => cases ex; exact .int (by omega)
      | 4, _ => cases ex; exact (BadV.bl (K := K) (G := []) (H := G) true G Ch.refl).1
      | 5, _ => cases ex; exact (BadV.bl (K := K) (G := []) (H := G) false G Ch.refl).1
      | 6, _ => cases ex; exact (BadV.non (K := K) (G := []) (H := G) G Ch.refl).1
      | 7, _ => cases ex; exact (BadV.str (K := K) (G := []) (H := G) (s := "8") (by decide +kernel) G Ch.refl).1
      | 8, _ => cases ex; exact Out.odd (intK_no (.base (.tup (c.at ta t7))) (i := false) (b := false) (by decide +kernel) (by decide +kernel) rfl)
      | 9, _ => cases ex; exact Out.odd (intK_no (.base (.lst (c.at l1a l7))) (i := false) (b := false) (by decide +kernel) (by decide +kernel) rfl)
    o_args
    refine ixL (c7.at ma h6) ex ?_
    o_args
    refine ⟨a, F, _, rfl, B7, by decide, by decide, fun an H8 a0 a1 B8 c8 => ?_⟩
    have C8 := (C6.trans c7).trans c8
    have b8 := bx H8 c8
    have O8 := O.ch C8 (by simp [pa]) (by simp [la])
    obtain ⟨⟨dx, hp⟩, _⟩ := O8
    o_args
    refine brD (fun e => ?_) (fun e => ?_)
    · o_args
      intro y dy hy hdy nd
      have s0 : Same H8 (upd (upd H8 dy (.own y)) y (.ins T.c_Outbox dy [])) := fun b o hb => by rw [upd_ne (ne_of_none hb hy), upd_ne (ne_of_none hb hdy)]; exact hb
      refine ⟨y, dy, _, rfl, upd_same, .inr ⟨b8.same s0, fun dd H9 s9 hx => fun σ hσ => ?_⟩⟩
      obtain ⟨v1, v2, v3, v4, v5, v6, rfl⟩ := len6 hσ
      refine ⟨true, T.Me_InvalidSetting_InvalidSetting, fun _ _ _ => ?_, fun z => nomatch z⟩
      o_args
      refine errF T.X_InvalidSetting.x T.nX_InvalidSetting hx rfl ?_
      o_args
      refine ⟨_, _, _, _, _, _, rfl, rfl, rfl, hx, only_setting T, ?_⟩
      o_args
      exact k H9 ((B8.same s0).same s9) (C8.trans (Ch.of (s0.trans s9)))
    · o_args
      refine ⟨p, _, _, rfl, hp, rfl, ?_⟩
      o_args
      refine ⟨p, l, B, _, rfl, O.ch C8 (by simp [pa]) (by simp [la]), .inr ⟨b8, fun dd H9 s9 hx => ?_⟩⟩
      refine ⟨true, T.Me_InvalidSetting_InvalidSetting, fun _ _ _ => ?_, fun z => nomatch z⟩
      o_args
      refine errF T.X_InvalidSetting.x T.nX_InvalidSetting hx rfl ?_
      o_args
      refine ⟨_, _, _, _, _, _, rfl, rfl, rfl, hx, only_setting T, ?_⟩
      o_args
      exact k H9 (B8.same s9) (C8.trans (Ch.of s9))
theorem DataBad.less {K : PySem.W.Frag} {G : List Addr} {H : Hp} {x y : V} (h : DataBad K G H x y) : DataBad K [] H x y := fun H' c => h H' (c.more (fun _ z => nomatch z))
theorem Ow.al {C p l q c : Addr} {B : Bx} {H : Hp} (w : Ow C p l q c B H) {t : Addr} (n : H t = none) : t ≠ p ∧ t ≠ l ∧ t ≠ q ∧ t ≠ c := by
  obtain ⟨⟨⟨dx, h1⟩, h2, _⟩, ⟨h3, h4⟩, _⟩ := w
  refine ⟨fun e => ?_, fun e => ?_, fun e => ?_, fun e => ?_⟩
  · rw [e, h1] at n; cases n
  · rw [e, h2] at n; cases n
  · rw [e, h3] at n; cases n
  · rw [e, h4] at n; cases n
def sp__law_deed (K : PySem.W.Frag) (C : Addr) : Sp := fun vs H Q _ => ∃ (a p l q c : Addr) (F : List Addr) (B : Bx), vs = [.ref a, .ref p, .ref q] ∧ Box a F H ∧ Al F H ∧ (∀ b ∈ [p, l, q], b ∈ F) ∧ Ow C p l q c B H ∧ Bytes B.con ∧ B.con.length < 20000 ∧
  ∀ c' B' H', Box a F H' → Ow C p l q c' B' H' → (c' = c ∨ H c' = none) → Bytes B'.con → B'.con.length ≤ B.con.length + 70 → Ch [a, p, l, q] H H' → Q (.bl true) H'
set_option maxHeartbeats 0 in
theorem ok__law_deed (T : Txt K mg) : FnStill P w K mg base 10 T.a__law_deed T.fd__law_deed ["box", "outbox", "state"] (sp__law_deed K T.c_Outbox) := by
  have S := sc__law_deed
  refine still_fn T.F__law_deed S (fun vs H Q E h => ?_) (fun cdv A outer s H vs Q E hg hr h => ?_)
  · obtain ⟨a, p, l, q, c, F, B, rfl, _⟩ := h
    rfl
  · obtain ⟨a, p, l, q, c, F, B, rfl, B0, A0, hF, W, hb, hz, k⟩ := h
    obtain ⟨pq, pl, pc, ql, qc⟩ := W.qp
    have hoff := W.off B0
    have pa : p ≠ a := fun e => hoff p (by simp) (by simp [e])
    have la : l ≠ a := fun e => hoff l (by simp) (by simp [e])
    refine ⟨_, (pss_cons (ps_set (i := 3) S.nd rfl (Or.inl rfl) (pe_call (ok__law_draw T) (hr.mono (by decide)) rfl T.g__law_draw T.F__law_draw.kp T.B__law_draw .nil pass0 (pa_cons (pv 0) (pa_cons pe_int pa_nil))))
      (pss_cons (ps_if (pt_cmpR op_lt (pv 3) pe_int (nomark _)) (pss_cons (ps_set (i := 4) S.nd rfl (Or.inl rfl) (pe_call (ok__law_bytes T) (hr.mono (by decide)) rfl T.g__law_bytes T.F__law_bytes.kp T.B__law_bytes .nil pass0 (pa_cons (pv 0) (pa_cons pe_int pa_nil))))
      (pss_cons (ps_if (pt_cmpR op_eq (pe_call (ok__law_draw T) (hr.mono (by decide)) rfl T.g__law_draw T.F__law_draw.kp T.B__law_draw .nil pass0 (pa_cons (pv 0) (pa_cons pe_int pa_nil))) pe_int (nomark _)) (pss_one (ps_ret (pe_call (ok__law_adds T) (hr.mono (by decide)) rfl T.g__law_adds T.F__law_adds.kp T.B__law_adds .nil pass0 (pa_cons (pv 1) (pa_cons (pv 2) (pa_cons (pe_callTy (T := "tuple") (call_tupK (K := K) rfl) (by rfl) T.b_tuple (by decide +kernel) (pa_cons (pv 4) pa_nil)) (pa_cons (pe_cmpR op_gt (pv 3) pe_int (nomark _)) pa_nil))))))) pss_nil)
      (pss_one (ps_ret (pe_call (ok__law_adds T) (hr.mono (by decide)) rfl T.g__law_adds T.F__law_adds.kp T.B__law_adds .nil pass0 (pa_cons (pv 1) (pa_cons (pv 2) (pa_cons (pv 4) (pa_cons (pe_cmpR op_gt (pv 3) pe_int (nomark _)) pa_nil))))))))) pss_nil)
      (pss_cons (ps_if (pt_cmpR op_lt (pv 3) pe_int (nomark _)) (pss_one (ps_ret (pe_call (ok__law_cuts T) (hr.mono (by decide)) rfl T.g__law_cuts T.F__law_cuts.kp T.B__law_cuts .nil pass0 (pa_cons (pv 0) (pa_cons (pv 1) (pa_cons (pv 2) pa_nil)))))) pss_nil)
      (pss_cons (ps_if (pt_cmpR op_lt (pv 3) pe_int (nomark _)) (pss_one (ps_ret (pe_call (ok__law_releases T) (hr.mono (by decide)) rfl T.g__law_releases T.F__law_releases.kp T.B__law_releases .nil pass0 (pa_cons (pv 0) (pa_cons (pv 1) (pa_cons (pv 2) pa_nil)))))) pss_nil)
      (pss_cons (ps_if (pt_cmpR op_eq (pv 3) pe_int (nomark _)) (pss_cons (ps_dput (room_u1 hr) (pv 2) pe_str (pe_call (ok__law_limit T) (hr.mono (by decide)) rfl T.g__law_limit T.F__law_limit.kp T.B__law_limit .nil pass0 (pa_cons (pv 0) pa_nil)) rfl)
      (pss_one (ps_ret (pe_cmpR op_isN (pe_meth (pv 1) T.cl_Outbox T.m_Outbox_resize (ok_Outbox_resize T) (hr.mono (by decide)) T.B_Outbox_resize .nil passL (pa_cons (pe_dget (room_u1 hr) (pv 2) pe_str (fun _ _ => rfl)) pa_nil)) pe_non (nomark _))))) pss_nil)
      (pss_cons (ps_if (pt_cmpR op_eq (pv 3) pe_int (nomark _)) (pss_cons (ps_if (pt_cmpR op_eq (pe_call (ok__law_draw T) (hr.mono (by decide)) rfl T.g__law_draw T.F__law_draw.kp T.B__law_draw .nil pass0 (pa_cons (pv 0) (pa_cons pe_int pa_nil))) pe_int (nomark _)) (pss_one (ps_ret pe_bl)) pss_nil)
      (pss_cons (ps_dput (room_u1 hr) (pv 2) pe_str pe_bl rfl)
      (pss_one (ps_ret (pe_cmpR op_isN (pe_meth0 (pv 1) T.cl_Outbox T.m_Outbox_shut (ok_Outbox_shut T) (hr.mono (by decide)) T.B_Outbox_shut .nil pass0) pe_non (nomark _)))))) pss_nil)
      (pss_cons (ps_if (pt_cmpR op_lt (pv 3) pe_int (nomark _)) (pss_cons (ps_set (i := 5) S.nd rfl (Or.inl rfl) (pe_call (ok__law_bad_data T) (hr.mono (by decide)) rfl T.g__law_bad_data T.F__law_bad_data.kp T.B__law_bad_data .nil pass0 (pa_cons (pv 0) pa_nil)))
      (pss_one (ps_ret (pe_still hg (ok__law_data_refused T) (hr.mono (by decide)) rfl T.g__law_data_refused T.F__law_data_refused.kp T.B__law_data_refused .nil pass0 (pa_cons (pv 1) (pa_cons (pv 2) (pa_cons (pe_ix ix_list (pv 5) pe_int (fun _ _ => rfl)) (pa_cons (pe_ix ix_list (pv 5) pe_int (fun _ _ => rfl)) (pa_cons (pe_cmpR op_eq (pv 3) pe_int (nomark _)) pa_nil))))))))) pss_nil)
      (pss_cons (ps_if (pt_cmpR op_eq (pv 3) pe_int (nomark _)) (pss_one (ps_ret (pe_and (pe_still hg (ok__law_cut_refused T) (hr.mono (by decide)) rfl T.g__law_cut_refused T.F__law_cut_refused.kp T.B__law_cut_refused .nil pass0 (pa_cons (pv 0) (pa_cons (pv 1) (pa_cons (pv 2) pa_nil)))) (pe_one (pe_still hg (ok__law_release_refused T) (hr.mono (by decide)) rfl T.g__law_release_refused T.F__law_release_refused.kp T.B__law_release_refused .nil pass0 (pa_cons (pv 0) (pa_cons (pv 1) (pa_cons (pv 2) pa_nil)))))))) pss_nil)
      (pss_one (ps_ret (pe_call (ok__law_limit_refused T) (hr.mono (by decide)) rfl T.g__law_limit_refused T.F__law_limit_refused.kp T.B__law_limit_refused .nil pass0 (pa_cons (pv 0) (pa_cons (pv 1) pa_nil))))))))))))), ?_⟩
    refine st__law_deed ?_
    o_args
    refine ⟨a, F, _, rfl, B0, by decide, by decide, fun w H1 w0 w1 B1 c1 => ?_⟩
    have W1 := W.box B0 c1
    have A1 := A0.ch c1
    have m1 : ∀ {H'}, Ch [a] H1 H' → Ch [a, p, l, q] H H' := fun x => (c1.trans x).more (by simp)
    o_args
    refine brD (fun e1 => ?_) (fun e1 => ?_)
    · o_args
      refine ⟨a, F, rfl, B1, fun d ns H2 nd hd by2 nl B2 c2 => ?_⟩
      have W2 := W1.box B1 c2
      obtain ⟨dp, dl, dq, dc⟩ := W1.al nd
      o_args
      refine ⟨a, d :: F, _, rfl, B2, by decide, by decide, fun u H3 u0 u1 B3 c3 => ?_⟩
      have W3 := W2.box B2 c3
      have hd3 := c3.at (by simp [B1.off nd]) hd
      have nd0 : H d = none := c1.none nd
      o_args
      refine brD (fun e2 => ?_) (fun e2 => ?_)
      · o_args
        refine ⟨d, _, rfl, .inl ⟨SqL.of hd3, fun t nt => ?_⟩⟩
        have s4 := Same.new (o := .tup (ns.map V.int)) nt
        have h4 : L2.upd H3 t (.tup (ns.map V.int)) t = some (.tup (ns.map V.int)) := upd_same
        generalize L2.upd H3 t (.tup (ns.map V.int)) = H4 at s4 h4
        have B4 := B3.own nt s4
        obtain ⟨_, tl, _, tc⟩ := W3.al nt
        o_args
        refine ⟨p, l, q, c, t, B, ns, _, rfl, W3.same s4, .inr h4, by2, hb, by omega, by omega, tl, tc, fun c' B' H5 W5 hc' hb' hl' c5 => ?_⟩
        o_args
        have t0 : H t = none := (m1 (c2.trans c3)).none nt
        have B5 := (B4.ch c5 (fun b z => by
          simp only [List.mem_cons, List.not_mem_nil, or_false] at z hF ⊢
          grind only)).less (G := F) (fun b z => List.mem_cons_of_mem _ (List.mem_cons_of_mem _ z))
        have C5 : Ch (t :: [a, p, l, q]) H H5 := (((m1 (c2.trans c3)).more (fun b z => List.mem_cons_of_mem _ z)).trans (Ch.of s4)).trans (c5.more (fun b z => by simp only [List.mem_cons, List.not_mem_nil, or_false] at z ⊢; grind only))
        refine k c' B' H5 B5 W5 (hc'.imp id fun z => (m1 (c2.trans c3)).none (none_of s4 z)) hb' (by omega) (C5.drop t0)
      · o_args
        refine ⟨p, l, q, c, d, B, ns, _, rfl, W3, .inl hd3, by2, hb, by omega, by omega, dl, dc, fun c' B' H5 W5 hc' hb' hl' c5 => ?_⟩
        o_args
        have B5 := (B3.ch c5 (fun b z => by
          simp only [List.mem_cons, List.not_mem_nil, or_false] at z hF ⊢
          grind only)).less (G := F) (fun b z => List.mem_cons_of_mem _ z)
        have C5 : Ch (d :: [a, p, l, q]) H H5 := ((m1 (c2.trans c3)).more (fun b z => List.mem_cons_of_mem _ z)).trans (c5.more (fun b z => by simp only [List.mem_cons, List.not_mem_nil, or_false] at z ⊢; grind only))
        refine k c' B' H5 B5 W5 (hc'.imp id fun z => (m1 (c2.trans c3)).none z) hb' (by omega) (C5.drop nd0)
    o_args
    refine brD (fun e2 => ?_) (fun e2 => ?_)
    · o_args
      refine ⟨a, p, l, q, c, F, B, rfl, B1, W1, fun H2 B2 W2 c2 => ?_⟩
      o_args
      exact k c B H2 B2 W2 (.inl rfl) hb (by omega) (m1 c2)
    o_args
    refine brD (fun e3 => ?_) (fun e3 => ?_)
    · o_args
      refine ⟨a, p, l, q, c, F, B, rfl, B1, hF, W1, fun B' H2 B2 W2 ec c2 => ?_⟩
      o_args
      exact k c B' H2 B2 W2 (.inl rfl) (by rw [ec]; exact hb) (by rw [ec]; omega) ((c1.more (by simp)).trans c2)
    o_args
    refine brD (fun e4 => ?_) (fun e4 => ?_)
    · o_args
      refine ⟨a, F, rfl, B1, fun n H2 n0 n1 B2 c2 => ?_⟩
      have W2 := W1.box B1 c2
      have hq2 := W2.s.1
      unfold Bx.kvs at hq2
      o_args
      refine dput (kvs' := Bx.kvs { B with lim := n } c) hq2 (Nat.le_of_ble_eq_true rfl) (by with_unfolding_all rfl) fun H3 s3 h3 => ?_
      have c3 : Ch [q] H2 H3 := Ch.ofX (by simp) s3 h3
      have O3 := W2.o.ch c3 (by simp [pq]) (by simp [Ne.symm ql])
      have hc3 := c3.at (by simp [Ne.symm qc]) W2.s.2
      obtain ⟨⟨dx3, hp3⟩, _, ok⟩ := id O3
      have h3' := h3
      unfold Bx.kvs at h3'
      o_args
      refine ⟨p, _, _, rfl, hp3, rfl, ?_⟩
      o_args
      refine ⟨p, l, B, _, rfl, O3, .inl ⟨n, rfl, n0, n1, fun H4 c4 O4 => ?_⟩⟩
      o_args
      have C4 : Ch [a, p, l, q] H H4 := ((m1 c2).trans (c3.more (by simp))).trans (c4.more (by simp))
      exact k c { B with lim := n } H4 ((B2.ch c3 (fun b z => hF b (by simp only [List.mem_cons, List.not_mem_nil, or_false] at z ⊢; grind only))).ch c4 (fun b z => hF b (by simp only [List.mem_cons, List.not_mem_nil, or_false] at z ⊢; grind only))) ⟨O4, ⟨c4.at (by simp [Ne.symm pq]) h3, c4.at (by simp [Ne.symm pc]) hc3⟩, W.n⟩ (.inl rfl) hb (by show B.con.length ≤ _; omega) C4
    o_args
    refine brD (fun e5 => ?_) (fun e5 => ?_)
    · o_args
      refine ⟨a, F, _, rfl, B1, by decide, by decide, fun u H2 u0 u1 B2 c2 => ?_⟩
      have W2 := W1.box B1 c2
      have hq2 := W2.s.1
      unfold Bx.kvs at hq2
      o_args
      refine brD (fun e6 => ?_) (fun e6 => ?_)
      · o_args
        exact k c B H2 B2 W2 (.inl rfl) hb (by omega) (m1 c2)
      o_args
      refine dput (kvs' := Bx.kvs { B with closed := true } c) hq2 (Nat.le_of_ble_eq_true rfl) (by with_unfolding_all rfl) fun H3 s3 h3 => ?_
      have c3 : Ch [q] H2 H3 := Ch.ofX (by simp) s3 h3
      have O3 := W2.o.ch c3 (by simp [pq]) (by simp [Ne.symm ql])
      have hc3 := c3.at (by simp [Ne.symm qc]) W2.s.2
      obtain ⟨⟨dx3, hp3⟩, _, ok⟩ := id O3
      o_args
      refine ⟨p, _, _, rfl, hp3, rfl, ?_⟩
      refine ⟨p, l, B, rfl, O3, fun H4 c4 O4 => ?_⟩
      o_args
      have C4 : Ch [a, p, l, q] H H4 := ((m1 c2).trans (c3.more (by simp))).trans (c4.more (by simp))
      exact k c { B with closed := true } H4 ((B2.ch c3 (fun b z => hF b (by simp only [List.mem_cons, List.not_mem_nil, or_false] at z ⊢; grind only))).ch c4 (fun b z => hF b (by simp only [List.mem_cons, List.not_mem_nil, or_false] at z ⊢; grind only))) ⟨O4, ⟨c4.at (by simp [Ne.symm pq]) h3, c4.at (by simp [Ne.symm pc]) hc3⟩, W.n⟩ (.inl rfl) hb (by show B.con.length ≤ _; omega) C4
    o_args
    refine brD (fun e6 => ?_) (fun e6 => ?_)
    · o_args
      refine ⟨a, F, rfl, B1, A1, fun r x y H2 nr hr2 hd B2 c2 => ?_⟩
      have W2 := W1.box B1 c2
      o_args
      refine ⟨p, l, q, c, B, x, y, _, rfl, W2, by omega, hd.less, fun H3 s3 => ?_⟩
      o_args
      exact k c B H3 (B2.same s3) (W2.same s3) (.inl rfl) hb (by omega) (m1 (c2.trans (Ch.of s3)))
    o_args
    refine brD (fun e7 => ?_) (fun e7 => ?_)
    · o_args
      refine ⟨a, p, l, q, c, F, B, rfl, B1, W1, fun H2 B2 W2 c2 => ?_⟩
      o_args
      refine ⟨a, p, l, q, c, F, B, rfl, B2, W2, fun H3 B3 W3 c3 => ?_⟩
      o_args
      exact k c B H3 B3 W3 (.inl rfl) hb (by omega) (m1 (c2.trans c3))
    o_args
    refine ⟨a, p, l, F, B, rfl, B1, pa, la, W1.o, fun H2 B2 c2 => ?_⟩
    o_args
    exact k c B H2 B2 (W1.box B1 c2) (.inl rfl) hb (by omega) (m1 c2)
/-! ### all outboxes of a play with their accounts -/
structure Ob where
  p : Addr
  l : Addr
  q : Addr
  c : Addr
  B : Bx
def Ob.foot (o : Ob) : List Addr := [o.p, o.l, o.q]
def feet (S P : Addr) (ws : List Ob) : List Addr := S :: P :: (ws.map Ob.foot).flatten
theorem mem_feet {S P : Addr} {ws : List Ob} {x : Addr} : x ∈ feet S P ws ↔ x = S ∨ x = P ∨ ∃ o ∈ ws, x ∈ o.foot := by
  unfold feet
  simp only [List.mem_cons, List.mem_flatten, List.mem_map]
  constructor
  · rintro (h | h | ⟨_, ⟨o, ho, rfl⟩, h⟩)
    · exact .inl h
    · exact .inr (.inl h)
    · exact .inr (.inr ⟨o, ho, h⟩)
  · rintro (h | h | ⟨o, ho, h⟩)
    · exact .inl h
    · exact .inr (.inl h)
    · exact .inr (.inr ⟨_, ⟨o, ho, rfl⟩, h⟩)
structure Wd (C a S P : Addr) (ws : List Ob) (m : Nat) (H : Hp) : Prop where
  b : Box a (feet S P ws) H
  s : H S = some (.lst (ws.map fun o => V.ref o.q))
  t : H P = some (.lst (ws.map fun o => V.ref o.p))
  w : ∀ (i : Nat) (o : Ob), ws[i]? = some o → Ow C o.p o.l o.q o.c o.B H ∧ Bytes o.B.con ∧ o.B.con.length ≤ m
  ap : ∀ (i j : Nat) (x y : Ob), i ≠ j → ws[i]? = some x → ws[j]? = some y → x.p ≠ y.p ∧ x.q ≠ y.q ∧ x.l ≠ y.l ∧ x.l ≠ y.c
  n : ∀ (i : Nat) (o : Ob), ws[i]? = some o → ∀ z ∈ [o.p, o.l, o.q, o.c], z ≠ S ∧ z ≠ P
  sp : S ≠ P
section
variable {C a S P : Addr} {ws : List Ob} {m m' i : Nat} {H H' : Hp} {o : Ob}
theorem Ow.cross {p l q c p' l' q' c' : Addr} {B B' : Bx} (w : Ow C p l q c B H) (v : Ow C p' l' q' c' B' H) : p' ≠ l ∧ p' ≠ q ∧ l' ≠ p ∧ l' ≠ q ∧ q' ≠ p ∧ q' ≠ l ∧ c' ≠ p ∧ c' ≠ q := by
  obtain ⟨⟨⟨dx, h1⟩, h2, _⟩, ⟨h3, h4⟩, _⟩ := w
  obtain ⟨⟨⟨dx', g1⟩, g2, _⟩, ⟨g3, g4⟩, _⟩ := v
  refine ⟨fun e => ?_, fun e => ?_, fun e => ?_, fun e => ?_, fun e => ?_, fun e => ?_, fun e => ?_, fun e => ?_⟩
  · rw [e, h2] at g1; cases g1
  · rw [e, h3] at g1; cases g1
  · rw [e, h1] at g2; cases g2
  · rw [e, h3] at g2; cases g2
  · rw [e, h1] at g3; cases g3
  · rw [e, h2] at g3; cases g3
  · rw [e, h1] at g4; cases g4
  · rw [e, h3] at g4; cases g4
theorem Wd.al (W : Wd C a S P ws m H) : Al (feet S P ws) H := fun x hx => by
  rcases mem_feet.mp hx with e | e | ⟨o, ho, e⟩
  · rw [e, W.s]; exact fun z => nomatch z
  · rw [e, W.t]; exact fun z => nomatch z
  · obtain ⟨i, hi⟩ := List.mem_iff_getElem?.mp ho
    obtain ⟨⟨⟨⟨dx, h1⟩, h2, _⟩, ⟨h3, _⟩, _⟩, _⟩ := W.w i o hi
    simp only [Ob.foot, List.mem_cons, List.not_mem_nil, or_false] at e
    rcases e with e | e | e
    · rw [e, h1]; exact fun z => nomatch z
    · rw [e, h2]; exact fun z => nomatch z
    · rw [e, h3]; exact fun z => nomatch z
theorem Wd.off (W : Wd C a S P ws m H) : S ≠ a ∧ P ≠ a := by
  have h := W.b.nin
  unfold feet at h
  simp only [List.mem_cons, not_or] at h
  exact ⟨Ne.symm h.1, Ne.symm h.2.1⟩
theorem Wd.mem (hi : ws[i]? = some o) : ∀ b ∈ [o.p, o.l, o.q], b ∈ feet S P ws := fun b hb => mem_feet.mpr (.inr (.inr ⟨o, List.mem_of_getElem? hi, hb⟩))
theorem Wd.more (W : Wd C a S P ws m H) (h : m ≤ m') : Wd C a S P ws m' H := ⟨W.b, W.s, W.t, fun i o hi => ⟨(W.w i o hi).1, (W.w i o hi).2.1, Nat.le_trans (W.w i o hi).2.2 h⟩, W.ap, W.n, W.sp⟩
theorem Wd.box (W : Wd C a S P ws m H) (b : Box a (feet S P ws) H') (c : Ch [a] H H') : Wd C a S P ws m H' :=
  ⟨b, c.at (by simp [W.off.1]) W.s, c.at (by simp [W.off.2]) W.t, fun i o hi => ⟨(W.w i o hi).1.box W.b c, (W.w i o hi).2⟩, W.ap, W.n, W.sp⟩
theorem Wd.same (W : Wd C a S P ws m H) (s : Same H H') : Wd C a S P ws m H' :=
  ⟨W.b.same s, s _ _ W.s, s _ _ W.t, fun i o hi => ⟨(W.w i o hi).1.same s, (W.w i o hi).2⟩, W.ap, W.n, W.sp⟩
theorem set_map {β : Type} {f : Ob → β} {o' : Ob} (hi : ws[i]? = some o) (e : f o' = f o) : (ws.set i o').map f = ws.map f := by
  apply List.ext_getElem?
  intro j
  rw [List.getElem?_map, List.getElem?_map, List.getElem?_set]
  by_cases q : i = j
  · subst q
    have il := getq_lt hi
    rw [if_pos rfl, if_pos il, hi]
    exact congrArg some e
  · rw [if_neg q]
theorem Wd.deed {c' : Addr} {B' : Bx} (W : Wd C a S P ws m H) (hi : ws[i]? = some o) (b : Box a (feet S P ws) H') (w : Ow C o.p o.l o.q c' B' H') (hc : c' = o.c ∨ H c' = none) (hb : Bytes B'.con) (hl : B'.con.length ≤ m') (hm : m ≤ m') (x : Ch [a, o.p, o.l, o.q] H H') :
    Wd C a S P (ws.set i ⟨o.p, o.l, o.q, c', B'⟩) m' H' := by
  have il := getq_lt hi
  have w0 := (W.w i o hi).1
  have n0 := W.n i o hi
  have at_ : ∀ {j : Nat} {y : Ob}, (ws.set i ⟨o.p, o.l, o.q, c', B'⟩)[j]? = some y → (j = i ∧ y = ⟨o.p, o.l, o.q, c', B'⟩) ∨ (j ≠ i ∧ ws[j]? = some y) := fun {j y} h => by
    rw [List.getElem?_set] at h
    by_cases q : i = j
    · rw [if_pos q, if_pos il] at h
      exact .inl ⟨q.symm, (Option.some.inj h).symm⟩
    · rw [if_neg q] at h
      exact .inr ⟨fun z => q z.symm, h⟩
  have ef : feet S P (ws.set i ⟨o.p, o.l, o.q, c', B'⟩) = feet S P ws := by
    unfold feet
    rw [set_map (f := Ob.foot) (o' := ⟨o.p, o.l, o.q, c', B'⟩) hi rfl]
  have cl : ∀ {j : Nat} {y : Ob}, j ≠ i → ws[j]? = some y → y.l ≠ c' := fun {j y} n h e => by
    rcases hc with z | z
    · exact (W.ap j i y o n h hi).2.2.2 (e.trans z)
    · rw [← e, (W.w j y h).1.o.2.1] at z; cases z
  have off := W.off
  have nx : ∀ {z}, (z = S ∨ z = P) → z ∉ [a, o.p, o.l, o.q] := fun {z} h q => by
    have e1 := n0 o.p (by simp)
    have e2 := n0 o.l (by simp)
    have e3 := n0 o.q (by simp)
    simp only [List.mem_cons, List.not_mem_nil, or_false] at q
    rcases h with h | h <;> subst h <;> rcases q with q | q | q | q
    · exact off.1 q
    · exact e1.1 q.symm
    · exact e2.1 q.symm
    · exact e3.1 q.symm
    · exact off.2 q
    · exact e1.2 q.symm
    · exact e2.2 q.symm
    · exact e3.2 q.symm
  refine ⟨by rw [ef]; exact b, by rw [set_map (f := fun o => V.ref o.q) (o' := ⟨o.p, o.l, o.q, c', B'⟩) hi rfl]; exact x.at (nx (.inl rfl)) W.s, by rw [set_map (f := fun o => V.ref o.p) (o' := ⟨o.p, o.l, o.q, c', B'⟩) hi rfl]; exact x.at (nx (.inr rfl)) W.t, fun j y h => ?_, fun j k y z n h g => ?_, fun j y h => ?_, W.sp⟩
  · rcases at_ h with ⟨_, rfl⟩ | ⟨n, h⟩
    · exact ⟨w, hb, hl⟩
    · obtain ⟨v, v2, v3⟩ := W.w j y h
      obtain ⟨a1, a2, a3, a4⟩ := W.ap j i y o n h hi
      obtain ⟨_, _, _, a5⟩ := W.ap i j o y (Ne.symm n) hi h
      obtain ⟨x1, x2, x3, x4, x5, x6, x7, x8⟩ := w0.cross v
      have ya := v.off W.b
      refine ⟨v.ch x (fun b hb' q => ?_), v2, Nat.le_trans v3 hm⟩
      have yb := ya b hb'
      simp only [List.mem_cons, List.not_mem_nil, or_false] at q hb' yb
      rcases q with q | q | q | q
      · exact yb q
      · subst q
        rcases hb' with e | e | e | e
        · exact a1 e.symm
        · exact x3 e.symm
        · exact x5 e.symm
        · exact x7 e.symm
      · subst q
        rcases hb' with e | e | e | e
        · exact x1 e.symm
        · exact a3 e.symm
        · exact x6 e.symm
        · exact a5 e
      · subst q
        rcases hb' with e | e | e | e
        · exact x2 e.symm
        · exact x4 e.symm
        · exact a2 e.symm
        · exact x8 e.symm
  · rcases at_ h with ⟨ej, rfl⟩ | ⟨n1, h⟩ <;> rcases at_ g with ⟨ek, rfl⟩ | ⟨n2, g⟩
    · exact absurd (ej.trans ek.symm) n
    · exact W.ap i k o z (Ne.symm n2) hi g
    · obtain ⟨a1, a2, a3, _⟩ := W.ap j i y o n1 h hi
      exact ⟨a1, a2, a3, cl n1 h⟩
    · exact W.ap j k y z n h g
  · rcases at_ h with ⟨_, rfl⟩ | ⟨_, h⟩
    · intro z hz
      simp only [List.mem_cons, List.not_mem_nil, or_false] at hz
      rcases hz with e | e | e | e
      · exact n0 z (by simp [e])
      · exact n0 z (by simp [e])
      · exact n0 z (by simp [e])
      · rcases hc with e2 | e2
        · exact n0 z (by simp [e, e2])
        · rw [← e] at e2
          exact ⟨(fun q => by rw [q, W.s] at e2; cases e2), (fun q => by rw [q, W.t] at e2; cases e2)⟩
    · exact W.n j y h
/-- one more, all of it new -/
theorem Wd.snoc (W : Wd C a S P ws m H) (b : Box a (feet S P (ws ++ [o])) H') (hs : H' S = some (.lst ((ws ++ [o]).map fun o => V.ref o.q))) (ht : H' P = some (.lst ((ws ++ [o]).map fun o => V.ref o.p))) (c : Ch [a, S, P] H H') (w : Ow C o.p o.l o.q o.c o.B H')
    (hb : Bytes o.B.con) (hl : o.B.con.length ≤ m) (nw : ∀ z ∈ [o.p, o.l, o.q, o.c], H z = none) : Wd C a S P (ws ++ [o]) m H' := by
  have old : ∀ {j : Nat} {y : Ob}, ws[j]? = some y → Ow C y.p y.l y.q y.c y.B H' := fun {j y} h => by
    obtain ⟨v, _⟩ := W.w j y h
    have ya := v.off W.b
    have yn := W.n j y h
    refine v.ch c (fun b hb' q => ?_)
    have e1 := ya b hb'
    have e2 := yn b hb'
    simp only [List.mem_cons, List.not_mem_nil, or_false] at q e1
    rcases q with q | q | q
    · exact e1 q
    · exact e2.1 q
    · exact e2.2 q
  have fresh : ∀ {j : Nat} {y : Ob}, ws[j]? = some y → ∀ z ∈ [o.p, o.l, o.q, o.c], z ≠ y.p ∧ z ≠ y.l ∧ z ≠ y.q ∧ z ≠ y.c := fun {j y} h z hz => (W.w j y h).1.al (nw z hz)
  refine ⟨b, hs, ht, fun j y h => ?_, fun j k y z n h g => ?_, fun j y h => ?_, W.sp⟩
  · rcases getq_app h with ⟨_, h⟩ | ⟨_, rfl⟩
    · exact ⟨old h, (W.w j y h).2⟩
    · exact ⟨w, hb, hl⟩
  · rcases getq_app h with ⟨_, h1⟩ | ⟨e1, z1⟩ <;> rcases getq_app g with ⟨_, g1⟩ | ⟨e2, z2⟩
    · exact W.ap j k y z n h1 g1
    · subst z2
      have f1 := fresh h1 z.p (by simp)
      have f2 := fresh h1 z.l (by simp)
      have f3 := fresh h1 z.q (by simp)
      have f4 := fresh h1 z.c (by simp)
      exact ⟨Ne.symm f1.1, Ne.symm f3.2.2.1, Ne.symm f2.2.1, Ne.symm f4.2.1⟩
    · subst z1
      have f1 := fresh g1 y.p (by simp)
      have f2 := fresh g1 y.l (by simp)
      have f3 := fresh g1 y.q (by simp)
      exact ⟨f1.1, f3.2.2.1, f2.2.1, f2.2.2.2⟩
    · exact absurd (e1.trans e2.symm) n
  · rcases getq_app h with ⟨_, h⟩ | ⟨_, rfl⟩
    · exact W.n j y h
    · intro z hz
      have := nw z hz
      exact ⟨(fun q => by rw [q, W.s] at this; cases this), (fun q => by rw [q, W.t] at this; cases this)⟩
end
/-! ### the law -/
def sp_law (K : PySem.W.Frag) : Sp := fun vs H Q _ => ∃ (a : Addr) (ns : List Int), vs = [.ref a] ∧ SqL K H a (ns.map V.int) ∧ ns.length ≤ 63 ∧ ∀ H', Q (.bl true) H'
theorem merged {B : Bx} {c : Addr} : mergeK [] (B.kvs c) = B.kvs c := by with_unfolding_all rfl
set_option maxHeartbeats 0 in
theorem ok_law (T : Txt K mg) : FnStill P w K mg base 11 T.a_law T.fd_law ["script"] (sp_law K) := by
  have S := sc_law
  refine still_fn T.F_law S (fun vs H Q E h => ?_) (fun cdv A outer s H vs Q E hg hr h => ?_)
  · obtain ⟨s, ns, rfl, _⟩ := h
    rfl
  · obtain ⟨s, ns0, rfl, hS, _, k⟩ := h
    have hu := room_un hr
    refine ⟨_, (pss_cons (ps_set (i := 1) S.nd rfl (Or.inl rfl) (pe_call (ok__law_box T) (hr.mono (by decide)) rfl T.g__law_box T.F__law_box.kp T.B__law_box .nil pass0 (pa_cons (pv 0) pa_nil)))
      (pss_cons (ps_set (i := 2) S.nd rfl (Or.inl rfl) (pe_lst pa_nil))
      (pss_cons (ps_set (i := 3) S.nd rfl (Or.inl rfl) (pe_lst pa_nil))
      (pss_cons (ps_set (i := 4) S.nd rfl (Or.inl rfl) (pe_op op_add pe_int (pe_call (ok__law_draw T) (hr.mono (by decide)) rfl T.g__law_draw T.F__law_draw.kp T.B__law_draw .nil pass0 (pa_cons (pv 1) (pa_cons pe_int pa_nil)))))
      (pss_cons (ps_for PassesOwn.never rfl (pi_range1 (by rfl) T.b_range (pa_cons pe_int pa_nil)) (pg_name (i := 5) S.nd rfl (Or.inl rfl)) (pss_cons (ps_set (i := 6) S.nd rfl (Or.inl rfl) (pe_call (ok__law_limit T) (hr.mono (by decide)) rfl T.g__law_limit T.F__law_limit.kp T.B__law_limit .nil pass0 (pa_cons (pv 1) pa_nil)))
      (pss_cons (ps_expr (pe_bm PySem.F.plainAttrs_list PySem.F.slot_list_append PySem.F.type_list_append mt_append (pv 2) (pa_cons (pe_disp (pps_cons pe_str (pv 6) (pps_cons pe_str (pe_lst pa_nil) (pps_cons pe_str pe_int (pps_cons pe_str pe_bl (pps_cons pe_str pe_int pps_nil))))) rfl rfl (by simp) (by decide)) pa_nil)))
      (pss_cons (ps_expr (pe_bm PySem.F.plainAttrs_list PySem.F.slot_list_append PySem.F.type_list_append mt_append (pv 3) (pa_cons (pe_make T.M_Outbox (ok_Outbox_init_ T) (hr.mono (by decide)) rfl T.g_Outbox T.B_Outbox_init_ .nil passL (pa_cons (pv 6) pa_nil)) pa_nil)))
      (pss_one (ps_if (pt_not (pt_val (pe_call (ok__law_state T) (hr.mono (by decide)) rfl T.g__law_state T.F__law_state.kp T.B__law_state .nil pass0 (pa_cons (pe_ix ix_list (pv 3) (pv 5) (fun _ _ => rfl)) (pa_cons (pe_ix ix_list (pv 2) (pv 5) (fun _ _ => rfl)) pa_nil))))) (pss_one (ps_ret pe_bl)) pss_nil))))))
      (pss_cons (ps_for PassesOwn.never rfl (pi_range1 (by rfl) T.b_range (pa_cons (pv 4) pa_nil)) (pg_name (i := 5) S.nd rfl (Or.inl rfl)) (pss_cons (ps_set (i := 7) S.nd rfl (Or.inl rfl) (pe_call (ok__law_draw T) (hr.mono (by decide)) rfl T.g__law_draw T.F__law_draw.kp T.B__law_draw .nil pass0 (pa_cons (pv 1) (pa_cons pe_int pa_nil))))
      (pss_cons (ps_if (pt_not (pt_val (pe_still hg (ok__law_deed T) (hr.mono (by decide)) rfl T.g__law_deed T.F__law_deed.kp T.B__law_deed .nil pass0 (pa_cons (pv 1) (pa_cons (pe_ix ix_list (pv 3) (pv 7) (fun _ _ => rfl)) (pa_cons (pe_ix ix_list (pv 2) (pv 7) (fun _ _ => rfl)) pa_nil)))))) (pss_one (ps_ret pe_bl)) pss_nil)
      (pss_one (ps_if (PW.pt (pw_and (pt_cmpR op_gt (pe_call (ok__law_draw T) (hr.mono (by decide)) rfl T.g__law_draw T.F__law_draw.kp T.B__law_draw .nil pass0 (pa_cons (pv 1) (pa_cons pe_int pa_nil))) pe_int (nomark _)) (pw_and1 (pt_not (pt_val (pe_call (ok__law_state T) (hr.mono (by decide)) rfl T.g__law_state T.F__law_state.kp T.B__law_state .nil pass0 (pa_cons (pe_ix ix_list (pv 3) (pv 7) (fun _ _ => rfl)) (pa_cons (pe_ix ix_list (pv 2) (pv 7) (fun _ _ => rfl)) pa_nil)))))))) (pss_one (ps_ret pe_bl)) pss_nil)))))
      (pss_cons (ps_for PassesOwn.never rfl (pi_range1 (by rfl) T.b_range (pa_cons pe_int pa_nil)) (pg_name (i := 5) S.nd rfl (Or.inl rfl)) (pss_cons (ps_if (PW.pt (pw_or (pt_not (pt_val (pe_call (ok__law_state T) (hr.mono (by decide)) rfl T.g__law_state T.F__law_state.kp T.B__law_state .nil pass0 (pa_cons (pe_ix ix_list (pv 3) (pv 5) (fun _ _ => rfl)) (pa_cons (pe_ix ix_list (pv 2) (pv 5) (fun _ _ => rfl)) pa_nil))))) (pw_or1 (pt_not (pt_val (pe_call (ok__law_cuts T) (hr.mono (by decide)) rfl T.g__law_cuts T.F__law_cuts.kp T.B__law_cuts .nil pass0 (pa_cons (pv 1) (pa_cons (pe_ix ix_list (pv 3) (pv 5) (fun _ _ => rfl)) (pa_cons (pe_ix ix_list (pv 2) (pv 5) (fun _ _ => rfl)) pa_nil))))))))) (pss_one (ps_ret pe_bl)) pss_nil)
      (pss_cons (ps_if (PW.pt (pw_or (pt_cmpR op_notN (pe_meth0 (pe_ix ix_list (pv 3) (pv 5) (fun _ _ => rfl)) T.cl_Outbox T.m_Outbox_shut (ok_Outbox_shut T) (hr.mono (by decide)) T.B_Outbox_shut .nil pass0) pe_non (nomark _)) (pw_or1 (pt_cmpR op_notN (pe_meth0 (pe_ix ix_list (pv 3) (pv 5) (fun _ _ => rfl)) T.cl_Outbox T.m_Outbox_shut (ok_Outbox_shut T) (hr.mono (by decide)) T.B_Outbox_shut .nil pass0) pe_non (nomark _))))) (pss_one (ps_ret pe_bl)) pss_nil)
      (pss_cons (ps_dput (room_u1 hr) (pe_ix ix_list (pv 2) (pv 5) (fun _ _ => rfl)) pe_str pe_bl rfl)
      (pss_cons (ps_if (PW.pt (pw_or (pt_not (pt_val (pe_call (ok__law_state T) (hr.mono (by decide)) rfl T.g__law_state T.F__law_state.kp T.B__law_state .nil pass0 (pa_cons (pe_ix ix_list (pv 3) (pv 5) (fun _ _ => rfl)) (pa_cons (pe_ix ix_list (pv 2) (pv 5) (fun _ _ => rfl)) pa_nil))))) (pw_or1 (pt_not (pt_val (pe_call (ok__law_adds T) (hr.mono (by decide)) rfl T.g__law_adds T.F__law_adds.kp T.B__law_adds .nil pass0 (pa_cons (pe_ix ix_list (pv 3) (pv 5) (fun _ _ => rfl)) (pa_cons (pe_ix ix_list (pv 2) (pv 5) (fun _ _ => rfl)) (pa_cons (pe_lst pa_nil) (pa_cons (pe_cmpR op_eq (pv 5) pe_int (nomark _)) pa_nil)))))))))) (pss_one (ps_ret pe_bl)) pss_nil)
      (pss_cons (ps_set (i := 8) S.nd rfl (Or.inl rfl) (pe_call (ok__law_bad_data T) (hr.mono (by decide)) rfl T.g__law_bad_data T.F__law_bad_data.kp T.B__law_bad_data .nil pass0 (pa_cons (pv 1) pa_nil)))
      (pss_cons (ps_if (pt_not (pt_val (pe_still hg (ok__law_data_refused T) (hr.mono (by decide)) rfl T.g__law_data_refused T.F__law_data_refused.kp T.B__law_data_refused .nil pass0 (pa_cons (pe_ix ix_list (pv 3) (pv 5) (fun _ _ => rfl)) (pa_cons (pe_ix ix_list (pv 2) (pv 5) (fun _ _ => rfl)) (pa_cons (pe_ix ix_list (pv 8) pe_int (fun _ _ => rfl)) (pa_cons (pe_ix ix_list (pv 8) pe_int (fun _ _ => rfl)) (pa_cons (pe_cmpR op_eq (pv 5) pe_int (nomark _)) pa_nil)))))))) (pss_one (ps_ret pe_bl)) pss_nil)
      (pss_one (ps_if (PW.pt (pw_or (pt_not (pt_val (pe_call (ok__law_state T) (hr.mono (by decide)) rfl T.g__law_state T.F__law_state.kp T.B__law_state .nil pass0 (pa_cons (pe_ix ix_list (pv 3) (pv 5) (fun _ _ => rfl)) (pa_cons (pe_ix ix_list (pv 2) (pv 5) (fun _ _ => rfl)) pa_nil))))) (pw_or1 (pt_not (pt_val (pe_call (ok__law_cuts T) (hr.mono (by decide)) rfl T.g__law_cuts T.F__law_cuts.kp T.B__law_cuts .nil pass0 (pa_cons (pv 1) (pa_cons (pe_ix ix_list (pv 3) (pv 5) (fun _ _ => rfl)) (pa_cons (pe_ix ix_list (pv 2) (pv 5) (fun _ _ => rfl)) pa_nil))))))))) (pss_one (ps_ret pe_bl)) pss_nil)))))))))
      (pss_one (ps_ret pe_bl))))))))), ?_⟩
    refine st_law ?_
    o_args
    refine ⟨s, ns0, rfl, hS, fun a H1 na s1 B1 => ?_⟩
    o_args
    refine newList (by simp) fun S2 H2 n2 s2 h2 => ?_
    have B2 : Box a [S2] H2 := (B1 [] Al.nil).own n2 s2
    o_args
    refine newList (by simp) fun P H3 n3 s3 h3 => ?_
    have B3 : Box a [P, S2] H3 := B2.own n3 s3
    have h2' := s3 _ _ h2
    have sp : S2 ≠ P := fun e => by rw [e, n3] at h2; cases h2
    have W3 : Wd T.c_Outbox a S2 P [] 0 H3 := ⟨B3.less (by simp [feet]), h2', h3, (fun i o h => by simp at h), (fun i j x y _ h => by simp at h), (fun i o h => by simp at h), sp⟩
    clear B1 B2 s1 na
    o_args
    refine ⟨a, _, _, rfl, W3.b, by decide, by decide, fun mm H4 m0 m1 B4 c4 => ?_⟩
    have W4 := W3.box B4 c4
    clear W3 B4 c4 B3 h2 h3 h2' s2 s3 n2 n3
    o_args
    refine rngF (by decide) (by decide) (for_rangeK (fun i σ H' => ∃ z1 z2 z3 z4 ws, σ = [some (.ref s), some (.ref a), some (.ref S2), some (.ref P), some (.int (4 + mm)), z1, z2, z3, z4] ∧ ws.length = i ∧ Wd T.c_Outbox a S2 P ws 0 H') ⟨none, none, none, none, [], rfl, rfl, W4⟩ (fun i σ H5 hi h => ?_) (fun σ H5 h => ?_))
    · obtain ⟨z1, z2, z3, z4, ws, rfl, wl, W5⟩ := h
      have hi : i < 2 := hi
      o_args
      refine ⟨a, _, rfl, W5.b, fun n H6 n1 n2 B6 c6 => ?_⟩
      have W6 := W5.box B6 c6
      clear W5 B6 c6
      o_args
      refine ⟨isList W6.s, ?_⟩
      o_args
      intro q hq
      o_args
      refine newList (by simp) fun c H8 n8 s8 h8 => ?_
      have sq := Same.new (o := .dK []) hq
      have hq8 := s8 _ _ (upd_same : L2.upd H6 q (.dK []) q = some (.dK []))
      have nc6 : H6 c = none := none_of sq n8
      have qc : q ≠ c := fun e => by rw [← e] at n8; rw [upd_same] at n8; cases n8
      o_args
      refine ⟨hq8, Bx.kvs ⟨n, [], 1, false, 0⟩ c, rfl, Nat.le_of_ble_eq_true rfl, ?_⟩
      rw [merged]
      have s9 : SameX q H8 (L2.upd H8 q (.dK (Bx.kvs ⟨n, [], 1, false, 0⟩ c))) := SameX.upd
      have hq9 : L2.upd H8 q (.dK (Bx.kvs ⟨n, [], 1, false, 0⟩ c)) q = some (.dK (Bx.kvs ⟨n, [], 1, false, 0⟩ c)) := upd_same
      generalize L2.upd H8 q (.dK (Bx.kvs ⟨n, [], 1, false, 0⟩ c)) = H9 at s9 hq9
      have hc9 := s9 _ _ (Ne.symm qc) h8
      have S69 : Same H6 H9 := fun b o e => s9 _ _ (ne_of_none e hq) (s8 _ _ (sq _ _ e))
      have hS9 := S69 _ _ W6.s
      have qS : q ≠ S2 := fun e => by rw [e, W6.s] at hq; cases hq
      have cS : c ≠ S2 := fun e => by rw [e, W6.s] at nc6; cases nc6
      have qP : q ≠ P := fun e => by rw [e, W6.t] at hq; cases hq
      have cP : c ≠ P := fun e => by rw [e, W6.t] at nc6; cases nc6
      o_args
      refine appList hS9 (by rw [List.length_map]; omega) fun H10 s10 h10 => ?_
      have c10 : Ch [S2] H9 H10 := Ch.ofX (by simp) s10 h10
      have C10 : Ch [a, S2, P] H6 H10 := (Ch.of S69).trans (c10.more (by simp))
      have hP10 := c10.at (by simp [Ne.symm sp]) (S69 _ _ W6.t)
      have hq10 := c10.at (by simp [qS]) hq9
      have hc10 := c10.at (by simp [cS]) hc9
      have B10 := (W6.b.own hq S69).ch c10 (by simp [feet])
      clear sq hq8 s8 h8 s9 hq9 hc9 hS9 n8 c10 s10
      o_args
      refine ⟨isList hP10, ?_⟩
      o_args
      intro x dx hx hdx nd
      have sm : Same H10 (upd (upd H10 dx (.own x)) x (.ins T.c_Outbox dx [])) := fun b o hb => by rw [upd_ne (ne_of_none hb hx), upd_ne (ne_of_none hb hdx)]; exact hb
      have hxm : upd (upd H10 dx (.own x)) x (.ins T.c_Outbox dx []) x = some (.ins T.c_Outbox dx []) := upd_same
      generalize upd (upd H10 dx (.own x)) x (.ins T.c_Outbox dx []) = Hm at sm hxm
      refine ⟨x, dx, _, rfl, hxm, .inl ⟨n, rfl, n1, n2, fun l H11 nl c11 O11 => ⟨rfl, ?_⟩⟩⟩
      have xP : x ≠ P := fun e => by rw [e, hP10] at hx; cases hx
      have xS : x ≠ S2 := fun e => by rw [e, h10] at hx; cases hx
      have xq : x ≠ q := fun e => by rw [e, hq10] at hx; cases hx
      have xc : x ≠ c := fun e => by rw [e, hc10] at hx; cases hx
      have lP : l ≠ P := fun e => by rw [e, sm _ _ hP10] at nl; cases nl
      have lc : l ≠ c := fun e => by rw [e, sm _ _ hc10] at nl; cases nl
      have hP11 := c11.at (by simp [Ne.symm xP]) (sm _ _ hP10)
      have hS11 := c11.at (by simp [Ne.symm xS]) (sm _ _ h10)
      have hq11 := c11.at (by simp [Ne.symm xq]) (sm _ _ hq10)
      have hc11 := c11.at (by simp [Ne.symm xc]) (sm _ _ hc10)
      have nx6 := C10.none hx
      have nl6 := C10.none (none_of sm nl)
      have B11 := (((B10.own hx sm).own nl (Same.refl _)).ch c11 (by simp))
      o_args
      refine appList hP11 (by rw [List.length_map]; omega) fun H12 s12 h12 => ?_
      have c12 : Ch [P] H11 H12 := Ch.ofX (by simp) s12 h12
      have B12 := B11.ch c12 (by simp [feet])
      have C12 : Ch (x :: [a, S2, P]) H6 H12 := ((((C10.more (by simp)).trans (Ch.of sm)).trans (c11.more (by simp))).trans (c12.more (by simp)))
      have W12 : Wd T.c_Outbox a S2 P (ws ++ [⟨x, l, q, c, ⟨n, [], 1, false, 0⟩⟩]) 0 H12 := W6.snoc
        (B12.less (fun b hb => by
          rw [mem_feet] at hb
          simp only [List.mem_cons, mem_feet, List.mem_append, List.not_mem_nil, or_false] at hb ⊢
          rcases hb with e | e | ⟨o, ho | ho, e⟩
          · exact .inr (.inr (.inr (.inl e)))
          · exact .inr (.inr (.inr (.inr (.inl e))))
          · exact .inr (.inr (.inr (.inr (.inr ⟨o, ho, e⟩))))
          · subst ho
            simp only [Ob.foot, List.mem_cons, List.not_mem_nil, or_false] at e
            rcases e with e | e | e
            · exact .inr (.inl e)
            · exact .inl e
            · exact .inr (.inr (.inl e))))
        (by rw [List.map_append]; exact c12.at (by simp [sp]) hS11) (by rw [List.map_append]; exact h12) (C12.drop nx6)
        ⟨O11.ch c12 (by simp [xP]) (by simp [lP]), ⟨c12.at (by simp [qP]) hq11, c12.at (by simp [cP]) hc11⟩, lc⟩ Bytes.nil (Nat.le_refl _)
        (fun z hz => by
          simp only [List.mem_cons, List.not_mem_nil, or_false] at hz
          rcases hz with e | e | e | e
          · rw [e]; exact nx6
          · rw [e]; exact nl6
          · rw [e]; exact hq
          · rw [e]; exact nc6)
      have hi2 : (ws ++ [(⟨x, l, q, c, ⟨n, [], 1, false, 0⟩⟩ : Ob)])[i]? = some ⟨x, l, q, c, ⟨n, [], 1, false, 0⟩⟩ := by
        rw [List.getElem?_append_right (by omega), wl, Nat.sub_self]
        rfl
      clear B10 B11 B12 C10 C12 c11 c12 s12 h12 hP11 hS11 hq11 hc11 hP10 h10 hq10 hc10 sm hxm O11 nl hx hdx nd S69
      have w12 := (W12.w i _ hi2).1
      o_args
      rw [show (0 : Int) + (i : Int) = (i : Int) by omega]
      refine ixL W12.t (by rw [List.getElem?_map, hi2]; rfl) ?_
      o_args
      refine ixL W12.s (by rw [List.getElem?_map, hi2]; rfl) ?_
      o_args
      refine ⟨x, l, q, c, _, rfl, w12.o, w12.s, fun H13 s13 => ?_⟩
      o_args
      exact ⟨_, _, _, _, _, rfl, by rw [List.length_append, wl]; rfl, W12.same s13⟩
    · obtain ⟨z1, z2, z3, z4, ws, rfl, wl, W5⟩ := h
      have wl : ws.length = 2 := wl
      clear W4
      o_args
      refine rngF (by omega) (by omega) (for_rangeK (fun i σ H' => ∃ z1 z2 z3 ws, σ = [some (.ref s), some (.ref a), some (.ref S2), some (.ref P), some (.int (4 + mm)), z1, z2, z3, z4] ∧ ws.length = 2 ∧ Wd T.c_Outbox a S2 P ws (70 * i) H') ⟨z1, z2, z3, ws, rfl, wl, W5⟩ (fun i σ H6 hi h => ?_) (fun σ H6 h => ?_))
      · clear W5
        obtain ⟨z1, z2, z3, ws, rfl, wl, W6⟩ := h
        o_args
        refine ⟨a, _, _, rfl, W6.b, by decide, by decide, fun wi H7 w0 w1 B7 c7 => ?_⟩
        have W7 := W6.box B7 c7
        obtain ⟨j, rfl⟩ : ∃ j : Nat, wi = j := ⟨wi.toNat, by omega⟩
        have jl : j < ws.length := by omega
        obtain ⟨o, ho⟩ : ∃ o, ws[j]? = some o := ⟨_, List.getElem?_eq_getElem jl⟩
        obtain ⟨w7, b7, l7⟩ := W7.w j o ho
        o_args
        refine ixL W7.t (by rw [List.getElem?_map, ho]; rfl) ?_
        o_args
        refine ixL W7.s (by rw [List.getElem?_map, ho]; rfl) ?_
        o_args
        refine ⟨a, o.p, o.l, o.q, o.c, _, o.B, rfl, W7.b, W7.al, Wd.mem ho, w7, b7, by omega, fun c' B' H8 B8 w8 hc' hb' hl' c8 => ?_⟩
        have W8 := W7.deed (m' := 70 * (i + 1)) ho B8 w8 hc' hb' (by omega) (by omega) c8
        have wl8 : (ws.set j ⟨o.p, o.l, o.q, c', B'⟩).length = 2 := by rw [List.length_set]; exact wl
        have ho8 : (ws.set j ⟨o.p, o.l, o.q, c', B'⟩)[j]? = some ⟨o.p, o.l, o.q, c', B'⟩ := by rw [List.getElem?_set, if_pos rfl, if_pos jl]
        generalize ws.set j ⟨o.p, o.l, o.q, c', B'⟩ = ws8 at W8 wl8 ho8
        clear W6 W7 B7 c7 w7 b7 l7 ho jl wl B8 w8 c8
        o_args
        refine ⟨a, _, _, rfl, W8.b, by decide, by decide, fun x H9 x0 x1 B9 c9 => ?_⟩
        have W9 := W8.box B9 c9
        o_args
        refine brD (fun e => ?_) (fun e => ?_)
        · obtain ⟨w9, _⟩ := W9.w j _ ho8
          o_args
          refine ixL W9.t (by rw [List.getElem?_map, ho8]; rfl) ?_
          o_args
          refine ixL W9.s (by rw [List.getElem?_map, ho8]; rfl) ?_
          o_args
          refine ⟨o.p, o.l, o.q, c', _, rfl, w9.o, w9.s, fun H10 s10 => ?_⟩
          o_args
          exact ⟨_, _, _, ws8, rfl, wl8, W9.same s10⟩
        · o_args
          exact ⟨_, _, _, ws8, rfl, wl8, W9⟩
      · clear W5
        obtain ⟨z1, z2, z3, ws, rfl, wl, W6⟩ := h
        have W6 : Wd T.c_Outbox a S2 P ws 2000 H6 := W6.more (by omega)
        o_args
        refine rngF (by decide) (by decide) (for_rangeK (fun i σ H' => ∃ z1 z4 ws, σ = [some (.ref s), some (.ref a), some (.ref S2), some (.ref P), some (.int (4 + mm)), z1, z2, z3, z4] ∧ ws.length = 2 ∧ Wd T.c_Outbox a S2 P ws 2000 H') ⟨z1, z4, ws, rfl, wl, W6⟩ (fun i σ H7 hi h => ?_) (fun σ H7 h => ?_))
        · clear W6
          obtain ⟨z1, z4, ws, rfl, wl, W7⟩ := h
          have hi : i < 2 := hi
          obtain ⟨o, ho⟩ : ∃ o, ws[i]? = some o := ⟨_, List.getElem?_eq_getElem (by omega)⟩
          have ip : (ws.map fun o => V.ref o.p)[i]? = some (.ref o.p) := by rw [List.getElem?_map, ho]; rfl
          have iq : (ws.map fun o => V.ref o.q)[i]? = some (.ref o.q) := by rw [List.getElem?_map, ho]; rfl
          obtain ⟨w7, b7, l7⟩ := W7.w i o ho
          have e0 : (0 : Int) + (i : Int) = (i : Int) := by omega
          o_args
          rw [e0]
          refine ixL W7.t ip ?_
          o_args
          refine ixL W7.s iq ?_
          o_args
          refine ⟨o.p, o.l, o.q, o.c, _, rfl, w7.o, w7.s, fun H8 s8 => ?_⟩
          have W8 := W7.same s8
          have w8 := w7.same s8
          clear W7 w7 s8
          o_args
          refine ixL W8.t ip ?_
          o_args
          refine ixL W8.s iq ?_
          o_args
          refine ⟨a, o.p, o.l, o.q, o.c, _, _, rfl, W8.b, w8, fun H9 B9 w9 c9 => ?_⟩
          have W9 := W8.box B9 c9
          clear W8 w8 B9 c9
          obtain ⟨w9, b9, l9⟩ := W9.w i o ho
          have nn := W9.n i o ho
          obtain ⟨pq, pl, pc, ql, qc⟩ := w9.qp
          obtain ⟨⟨dx9, hp9⟩, _⟩ := w9.o
          o_args
          refine ixL W9.t ip ?_
          o_args
          refine ⟨o.p, _, _, rfl, hp9, rfl, ?_⟩
          refine ⟨o.p, o.l, o.B, rfl, w9.o, fun H10 c10 O10 => ?_⟩
          have t10 := c10.at (by simp [Ne.symm (nn o.p (by simp)).2]) W9.t
          have u10 := c10.at (by simp [Ne.symm (nn o.p (by simp)).1]) W9.s
          have q10 := c10.at (by simp [Ne.symm pq]) w9.s.1
          have k10 := c10.at (by simp [Ne.symm pc]) w9.s.2
          have B10 := W9.b.ch c10 (fun b z => Wd.mem ho b (by simp only [List.mem_cons, List.not_mem_nil, or_false] at z ⊢; exact .inl z))
          obtain ⟨⟨dx10, hp10⟩, _⟩ := id O10
          o_args
          refine ixL t10 ip ?_
          o_args
          refine ⟨o.p, _, _, rfl, hp10, rfl, ?_⟩
          refine ⟨o.p, o.l, _, rfl, O10, fun H11 c11 O11 => ?_⟩
          have u11 := c11.at (by simp [Ne.symm (nn o.p (by simp)).1]) u10
          have q11 := c11.at (by simp [Ne.symm pq]) q10
          have k11 := c11.at (by simp [Ne.symm pc]) k10
          have B11 := B10.ch c11 (fun b z => Wd.mem ho b (by simp only [List.mem_cons, List.not_mem_nil, or_false] at z ⊢; exact .inl z))
          unfold Bx.kvs at q11
          o_args
          refine ixL u11 iq ?_
          o_args
          refine dput (kvs' := Bx.kvs { o.B with closed := true } o.c) q11 (Nat.le_of_ble_eq_true rfl) (by with_unfolding_all rfl) fun H12 s12 h12 => ?_
          have c12 : Ch [o.q] H11 H12 := Ch.ofX (by simp) s12 h12
          have B12 := B11.ch c12 (fun b z => Wd.mem ho b (by simp only [List.mem_cons, List.not_mem_nil, or_false] at z ⊢; exact .inr (.inr z)))
          have w12 : Ow T.c_Outbox o.p o.l o.q o.c { o.B with closed := true } H12 := ⟨O11.ch c12 (by simp [pq]) (by simp [Ne.symm ql]), ⟨h12, c12.at (by simp [Ne.symm qc]) k11⟩, w9.n⟩
          have W12 := W9.deed (m' := 2000) ho B12 w12 (.inl rfl) b9 l9 (Nat.le_refl _) (((c10.more (by simp)).trans (c11.more (by simp))).trans (c12.more (by simp)))
          have il : i < ws.length := by omega
          have wl12 : (ws.set i ⟨o.p, o.l, o.q, o.c, { o.B with closed := true }⟩).length = 2 := by rw [List.length_set]; exact wl
          have ho12 : (ws.set i ⟨o.p, o.l, o.q, o.c, { o.B with closed := true }⟩)[i]? = some ⟨o.p, o.l, o.q, o.c, { o.B with closed := true }⟩ := by rw [List.getElem?_set, if_pos rfl, if_pos il]
          generalize ws.set i ⟨o.p, o.l, o.q, o.c, { o.B with closed := true }⟩ = ws2 at W12 wl12 ho12
          clear W9 w9 t10 u10 q10 k10 B10 u11 q11 k11 B11 c10 c11 c12 O10 O11 h12 s12 B12 w12 hp9 hp10 ip iq nn il wl ho
          obtain ⟨w12, b12, l12⟩ := W12.w i _ ho12
          have ip : (ws2.map fun o => V.ref o.p)[i]? = some (.ref o.p) := by rw [List.getElem?_map, ho12]; rfl
          have iq : (ws2.map fun o => V.ref o.q)[i]? = some (.ref o.q) := by rw [List.getElem?_map, ho12]; rfl
          o_args
          refine ixL W12.t ip ?_
          o_args
          refine ixL W12.s iq ?_
          o_args
          refine ⟨o.p, o.l, o.q, o.c, _, rfl, w12.o, w12.s, fun H13 s13 => ?_⟩
          have W13 := W12.same s13
          have w13 := w12.same s13
          clear W12 w12 s13
          o_args
          refine ixL W13.t ip ?_
          o_args
          refine ixL W13.s iq ?_
          o_args
          refine newList (by simp) fun d H14 nd s14 hd => ?_
          obtain ⟨dp, dl, dq, dc⟩ := w13.al nd
          have B14 := W13.b.own nd s14
          o_args
          refine ⟨o.p, o.l, o.q, o.c, d, _, [], _, rfl, w13.same s14, .inl hd, Bytes.nil, b12, by simp, by omega, dl, dc, fun c' B' H15 w15 hc' hb' hl' c15 => ?_⟩
          have C15 : Ch (d :: [a, o.p, o.l, o.q]) H13 H15 := (Ch.of s14).trans (c15.more (fun b z => by simp only [List.mem_cons, List.not_mem_nil, or_false] at z ⊢; grind only))
          have B15 := (B14.ch c15 (fun b z => by
            simp only [List.mem_cons, List.not_mem_nil, or_false] at z ⊢
            rcases z with z | z | z | z
            · exact .inr (Wd.mem ho12 b (by simp [z]))
            · exact .inr (Wd.mem ho12 b (by simp [z]))
            · exact .inr (Wd.mem ho12 b (by simp [z]))
            · exact .inl z)).less (G := feet S2 P ws2) (fun b z => List.mem_cons_of_mem _ z)
          have W15 := W13.deed (m' := 2000) ho12 B15 w15 (hc'.imp id fun z => none_of s14 z) hb' (by simp only [List.length_nil] at hl'; omega) (Nat.le_refl _) (C15.drop nd)
          have il : i < ws2.length := by omega
          have wl15 : (ws2.set i ⟨o.p, o.l, o.q, c', B'⟩).length = 2 := by rw [List.length_set]; exact wl12
          have ho15 : (ws2.set i ⟨o.p, o.l, o.q, c', B'⟩)[i]? = some ⟨o.p, o.l, o.q, c', B'⟩ := by rw [List.getElem?_set, if_pos rfl, if_pos il]
          generalize hw3 : ws2.set i ⟨o.p, o.l, o.q, c', B'⟩ = ws3 at W15 wl15 ho15
          clear hw3 W13 w13 B14 c15 C15 B15 w15 hc' hd nd s14 ip iq il wl12 ho12
          have ip : (ws3.map fun o => V.ref o.p)[i]? = some (.ref o.p) := by rw [List.getElem?_map, ho15]; rfl
          have iq : (ws3.map fun o => V.ref o.q)[i]? = some (.ref o.q) := by rw [List.getElem?_map, ho15]; rfl
          o_args
          refine ⟨a, _, rfl, W15.b, W15.al, fun r x y H16 nr hr2 hdb B16 c16 => ?_⟩
          have W16 := W15.box B16 c16
          obtain ⟨w16, _, l16⟩ := W16.w i _ ho15
          clear W15 c16 B16
          o_args
          refine ixL W16.t ip ?_
          o_args
          refine ixL W16.s iq ?_
          o_args
          refine ⟨o.p, o.l, o.q, c', B', x, y, _, rfl, w16, by have : B'.con.length ≤ 2000 := l16; omega, hdb.less, fun H17 s17 => ?_⟩
          have W17 := W16.same s17
          have w17 := w16.same s17
          clear W16 w16 s17
          o_args
          refine ixL W17.t ip ?_
          o_args
          refine ixL W17.s iq ?_
          o_args
          refine ⟨o.p, o.l, o.q, c', _, rfl, w17.o, w17.s, fun H18 s18 => ?_⟩
          have W18 := W17.same s18
          have w18 := w17.same s18
          clear W17 w17 s18
          o_args
          refine ixL W18.t ip ?_
          o_args
          refine ixL W18.s iq ?_
          o_args
          refine ⟨a, o.p, o.l, o.q, c', _, _, rfl, W18.b, w18, fun H19 B19 w19 c19 => ?_⟩
          o_args
          exact ⟨_, _, ws3, rfl, wl15, W18.box B19 c19⟩
        · obtain ⟨_, _, _, rfl, _⟩ := h
          o_args
          exact k _
end
set_option maxHeartbeats 0 in
theorem all_mk {l : PySem.W.OpenLaw} {w : World} {K : PySem.W.Frag} {h : Heap} {mg : Str → Option Value} {fa : Addr} (X : K.In h) (G : h.Ns mainGlobals mg) (hfa : mg "law" = some (.ref fa))
    {c_Outbox c_LossError c_InvalidNumber c_InvalidSetting c_NotAllowed a_InvalidNumber_init_ a_InvalidSetting_init_ a_NotAllowed_init_ a_is_integer a_is_between a_is_byte a_is_sequence a_require_data a_require_limit a_Outbox_init_ a_Outbox_limit p_Outbox_limit a_Outbox_limit_set a_Outbox_free p_Outbox_free a_Outbox_bound p_Outbox_bound a_Outbox_resize a_Outbox_put a_Outbox_urge a_Outbox_shut a_Outbox_cut a_Outbox_release a__law_box a__law_draw a__law_is_whole a__law_limit a__law_bytes a__law_bad_data a__law_state a__law_tuple_is a__law_only a__law_adds a__law_data_refused a__law_cuts a__law_cut_refused a__law_releases a__law_release_refused a__law_limit_refused a__law_deed a_law : Addr}
    {od_InvalidNumber_init_ an_InvalidNumber_init_ od_InvalidSetting_init_ an_InvalidSetting_init_ od_NotAllowed_init_ an_NotAllowed_init_ od_is_integer an_is_integer od_is_between an_is_between od_is_byte an_is_byte od_is_sequence an_is_sequence od_require_data an_require_data od_require_limit an_require_limit od_Outbox_init_ an_Outbox_init_ od_Outbox_limit an_Outbox_limit od_Outbox_limit_set an_Outbox_limit_set od_Outbox_free an_Outbox_free od_Outbox_bound an_Outbox_bound od_Outbox_resize an_Outbox_resize od_Outbox_put an_Outbox_put od_Outbox_urge an_Outbox_urge od_Outbox_shut an_Outbox_shut od_Outbox_cut an_Outbox_cut od_Outbox_release an_Outbox_release od__law_box an__law_box od__law_draw an__law_draw od__law_is_whole an__law_is_whole od__law_limit an__law_limit od__law_bytes an__law_bytes od__law_bad_data an__law_bad_data od__law_state an__law_state od__law_tuple_is an__law_tuple_is od__law_only an__law_only od__law_adds an__law_adds od__law_data_refused an__law_data_refused od__law_cuts an__law_cuts od__law_cut_refused an__law_cut_refused od__law_releases an__law_releases od__law_release_refused an__law_release_refused od__law_limit_refused an__law_limit_refused od__law_deed an__law_deed od_law an_law : Option Addr} {sl_InvalidNumber_init_ sl_InvalidSetting_init_ sl_NotAllowed_init_ sl_is_integer sl_is_between sl_is_byte sl_is_sequence sl_require_data sl_require_limit sl_Outbox_init_ sl_Outbox_limit sl_Outbox_limit_set sl_Outbox_free sl_Outbox_bound sl_Outbox_resize sl_Outbox_put sl_Outbox_urge sl_Outbox_shut sl_Outbox_cut sl_Outbox_release sl__law_box sl__law_draw sl__law_is_whole sl__law_limit sl__law_bytes sl__law_bad_data sl__law_state sl__law_tuple_is sl__law_only sl__law_adds sl__law_data_refused sl__law_cuts sl__law_cut_refused sl__law_releases sl__law_release_refused sl__law_limit_refused sl__law_deed sl_law : Array (Option Value)}
    {oc_InvalidNumber_init_ kV_InvalidNumber_init_ dc_InvalidNumber_init_ pm_InvalidNumber_init_ cd_InvalidNumber_init_ ct_InvalidNumber_init_ oc_InvalidSetting_init_ kV_InvalidSetting_init_ dc_InvalidSetting_init_ pm_InvalidSetting_init_ cd_InvalidSetting_init_ ct_InvalidSetting_init_ oc_NotAllowed_init_ kV_NotAllowed_init_ dc_NotAllowed_init_ pm_NotAllowed_init_ cd_NotAllowed_init_ ct_NotAllowed_init_ oc_is_integer kV_is_integer dc_is_integer pm_is_integer cd_is_integer ct_is_integer oc_is_between kV_is_between dc_is_between pm_is_between cd_is_between ct_is_between oc_is_byte kV_is_byte dc_is_byte pm_is_byte cd_is_byte ct_is_byte oc_is_sequence kV_is_sequence dc_is_sequence pm_is_sequence cd_is_sequence ct_is_sequence oc_require_data kV_require_data dc_require_data pm_require_data cd_require_data ct_require_data oc_require_limit kV_require_limit dc_require_limit pm_require_limit cd_require_limit ct_require_limit oc_Outbox_init_ kV_Outbox_init_ dc_Outbox_init_ pm_Outbox_init_ cd_Outbox_init_ ct_Outbox_init_ oc_Outbox_limit kV_Outbox_limit dc_Outbox_limit pm_Outbox_limit cd_Outbox_limit ct_Outbox_limit oc_Outbox_limit_set kV_Outbox_limit_set dc_Outbox_limit_set pm_Outbox_limit_set cd_Outbox_limit_set ct_Outbox_limit_set oc_Outbox_free kV_Outbox_free dc_Outbox_free pm_Outbox_free cd_Outbox_free ct_Outbox_free oc_Outbox_bound kV_Outbox_bound dc_Outbox_bound pm_Outbox_bound cd_Outbox_bound ct_Outbox_bound oc_Outbox_resize kV_Outbox_resize dc_Outbox_resize pm_Outbox_resize cd_Outbox_resize ct_Outbox_resize oc_Outbox_put kV_Outbox_put dc_Outbox_put pm_Outbox_put cd_Outbox_put ct_Outbox_put oc_Outbox_urge kV_Outbox_urge dc_Outbox_urge pm_Outbox_urge cd_Outbox_urge ct_Outbox_urge oc_Outbox_shut kV_Outbox_shut dc_Outbox_shut pm_Outbox_shut cd_Outbox_shut ct_Outbox_shut oc_Outbox_cut kV_Outbox_cut dc_Outbox_cut pm_Outbox_cut cd_Outbox_cut ct_Outbox_cut oc_Outbox_release kV_Outbox_release dc_Outbox_release pm_Outbox_release cd_Outbox_release ct_Outbox_release oc__law_box kV__law_box dc__law_box pm__law_box cd__law_box ct__law_box oc__law_draw kV__law_draw dc__law_draw pm__law_draw cd__law_draw ct__law_draw oc__law_is_whole kV__law_is_whole dc__law_is_whole pm__law_is_whole cd__law_is_whole ct__law_is_whole oc__law_limit kV__law_limit dc__law_limit pm__law_limit cd__law_limit ct__law_limit oc__law_bytes kV__law_bytes dc__law_bytes pm__law_bytes cd__law_bytes ct__law_bytes oc__law_bad_data kV__law_bad_data dc__law_bad_data pm__law_bad_data cd__law_bad_data ct__law_bad_data oc__law_state kV__law_state dc__law_state pm__law_state cd__law_state ct__law_state oc__law_tuple_is kV__law_tuple_is dc__law_tuple_is pm__law_tuple_is cd__law_tuple_is ct__law_tuple_is oc__law_only kV__law_only dc__law_only pm__law_only cd__law_only ct__law_only oc__law_adds kV__law_adds dc__law_adds pm__law_adds cd__law_adds ct__law_adds oc__law_data_refused kV__law_data_refused dc__law_data_refused pm__law_data_refused cd__law_data_refused ct__law_data_refused oc__law_cuts kV__law_cuts dc__law_cuts pm__law_cuts cd__law_cuts ct__law_cuts oc__law_cut_refused kV__law_cut_refused dc__law_cut_refused pm__law_cut_refused cd__law_cut_refused ct__law_cut_refused oc__law_releases kV__law_releases dc__law_releases pm__law_releases cd__law_releases ct__law_releases oc__law_release_refused kV__law_release_refused dc__law_release_refused pm__law_release_refused cd__law_release_refused ct__law_release_refused oc__law_limit_refused kV__law_limit_refused dc__law_limit_refused pm__law_limit_refused cd__law_limit_refused ct__law_limit_refused oc__law_deed kV__law_deed dc__law_deed pm__law_deed cd__law_deed ct__law_deed oc_law kV_law dc_law pm_law cd_law ct_law : Value}
    {gx_Outbox_limit_set : Value}
    {rs_Outbox_limit rs_Outbox_limit_set rs_Outbox_free rs_Outbox_bound : List Value}
    {xn_InvalidNumber xq_InvalidNumber : Str} {xN_InvalidNumber : Addr} {xb_InvalidNumber xm_InvalidNumber : List Value} {xs_InvalidNumber : List Str} {xu_InvalidNumber : List Value} {xa_InvalidNumber : Bool} {xo_InvalidNumber : _} {xd_InvalidNumber : Option Addr} {x0_InvalidNumber x1_InvalidNumber x2_InvalidNumber x3_InvalidNumber x5_InvalidNumber : Option Value}
    {xn_InvalidSetting xq_InvalidSetting : Str} {xN_InvalidSetting : Addr} {xb_InvalidSetting xm_InvalidSetting : List Value} {xs_InvalidSetting : List Str} {xu_InvalidSetting : List Value} {xa_InvalidSetting : Bool} {xo_InvalidSetting : _} {xd_InvalidSetting : Option Addr} {x0_InvalidSetting x1_InvalidSetting x2_InvalidSetting x3_InvalidSetting x5_InvalidSetting : Option Value}
    {xn_NotAllowed xq_NotAllowed : Str} {xN_NotAllowed : Addr} {xb_NotAllowed xm_NotAllowed : List Value} {xs_NotAllowed : List Str} {xu_NotAllowed : List Value} {xa_NotAllowed : Bool} {xo_NotAllowed : _} {xd_NotAllowed : Option Addr} {x0_NotAllowed x1_NotAllowed x2_NotAllowed x3_NotAllowed x5_NotAllowed : Option Value}
    (aC_Outbox : PySem.W.nsIn K mainGlobals "Outbox" = some (some (.ref c_Outbox)))
    (pg_Outbox : PySem.W.plainGet K c_Outbox Str.empty = true)
    (hd_Outbox : PySem.W.hasDictIn K c_Outbox = true)
    (po_Outbox : PySem.W.plainOver K c_Outbox = true)
    (sa_Outbox : PySem.W.findIn K (.ref c_Outbox) "__setattr__" = some (some (.builtin "object.__setattr__")))
    (mk_Outbox : PySem.W.makesIn K c_Outbox = true)
    (kc_Outbox : PySem.W.keepIn K (.ref c_Outbox) = true)
    (n_Outbox__limit : PySem.W.findIn K (.ref c_Outbox) "_limit" = some none)
    (n_Outbox_base : PySem.W.findIn K (.ref c_Outbox) "base" = some none)
    (n_Outbox_end : PySem.W.findIn K (.ref c_Outbox) "end" = some none)
    (n_Outbox_closed : PySem.W.findIn K (.ref c_Outbox) "closed" = some none)
    (n_Outbox_urgent_end : PySem.W.findIn K (.ref c_Outbox) "urgent_end" = some none)
    (n_Outbox__kept : PySem.W.findIn K (.ref c_Outbox) "_kept" = some none)
    (aC_LossError : PySem.W.nsIn K mainGlobals "LossError" = some (some (.ref c_LossError)))
    (aC_InvalidNumber : PySem.W.nsIn K mainGlobals "InvalidNumber" = some (some (.ref c_InvalidNumber)))
    (xl_InvalidNumber : K.lookup c_InvalidNumber = some (excClassObj xn_InvalidNumber xq_InvalidNumber c_InvalidNumber xN_InvalidNumber xb_InvalidNumber xm_InvalidNumber true xs_InvalidNumber xu_InvalidNumber xa_InvalidNumber xo_InvalidNumber xd_InvalidNumber x0_InvalidNumber x1_InvalidNumber x2_InvalidNumber x3_InvalidNumber x5_InvalidNumber "ValueError.__new__"))
    (sa_InvalidNumber : PySem.W.findIn K (.ref c_InvalidNumber) "__setattr__" = some (some (.builtin "object.__setattr__")))
    (xx_InvalidNumber : PySem.W.subIn K (.ref c_InvalidNumber) (.type "BaseException") = some true)
    (xt_InvalidNumber : PySem.W.typeIn K (.ref c_InvalidNumber) = some (.type "type"))
    (xk_InvalidNumber : PySem.W.keepIn K (.ref c_InvalidNumber) = true)
    (xi_InvalidNumber : PySem.W.findIn K (.ref c_InvalidNumber) "__init__" = some (some (.ref a_InvalidNumber_init_)))
    (xg_InvalidNumber : PySem.W.findIn K (.ref c_InvalidNumber) "__getattribute__" = some (some (.builtin "BaseException.__getattribute__")))
    (xh_InvalidNumber : PySem.W.findIn K (.ref c_InvalidNumber) "__getattr__" = some none)
    (xy_InvalidNumber : PySem.W.hasDictIn K c_InvalidNumber = true)
    (xc_InvalidNumber : PySem.W.findIn K (.ref c_InvalidNumber) "__class__" = some (some (.builtin "object.__class__")))
    (xr_InvalidNumber : PySem.W.mroIn K c_InvalidNumber (.type "object") = some true)
    (nX_InvalidNumber : PySem.W.findIn K (.ref c_InvalidNumber) "number" = some none)
    (aC_InvalidSetting : PySem.W.nsIn K mainGlobals "InvalidSetting" = some (some (.ref c_InvalidSetting)))
    (xl_InvalidSetting : K.lookup c_InvalidSetting = some (excClassObj xn_InvalidSetting xq_InvalidSetting c_InvalidSetting xN_InvalidSetting xb_InvalidSetting xm_InvalidSetting true xs_InvalidSetting xu_InvalidSetting xa_InvalidSetting xo_InvalidSetting xd_InvalidSetting x0_InvalidSetting x1_InvalidSetting x2_InvalidSetting x3_InvalidSetting x5_InvalidSetting "ValueError.__new__"))
    (sa_InvalidSetting : PySem.W.findIn K (.ref c_InvalidSetting) "__setattr__" = some (some (.builtin "object.__setattr__")))
    (xx_InvalidSetting : PySem.W.subIn K (.ref c_InvalidSetting) (.type "BaseException") = some true)
    (xt_InvalidSetting : PySem.W.typeIn K (.ref c_InvalidSetting) = some (.type "type"))
    (xk_InvalidSetting : PySem.W.keepIn K (.ref c_InvalidSetting) = true)
    (xi_InvalidSetting : PySem.W.findIn K (.ref c_InvalidSetting) "__init__" = some (some (.ref a_InvalidSetting_init_)))
    (xg_InvalidSetting : PySem.W.findIn K (.ref c_InvalidSetting) "__getattribute__" = some (some (.builtin "BaseException.__getattribute__")))
    (xh_InvalidSetting : PySem.W.findIn K (.ref c_InvalidSetting) "__getattr__" = some none)
    (xy_InvalidSetting : PySem.W.hasDictIn K c_InvalidSetting = true)
    (xc_InvalidSetting : PySem.W.findIn K (.ref c_InvalidSetting) "__class__" = some (some (.builtin "object.__class__")))
    (xr_InvalidSetting : PySem.W.mroIn K c_InvalidSetting (.type "object") = some true)
    (nX_InvalidSetting : PySem.W.findIn K (.ref c_InvalidSetting) "setting" = some none)
    (aC_NotAllowed : PySem.W.nsIn K mainGlobals "NotAllowed" = some (some (.ref c_NotAllowed)))
    (xl_NotAllowed : K.lookup c_NotAllowed = some (excClassObj xn_NotAllowed xq_NotAllowed c_NotAllowed xN_NotAllowed xb_NotAllowed xm_NotAllowed true xs_NotAllowed xu_NotAllowed xa_NotAllowed xo_NotAllowed xd_NotAllowed x0_NotAllowed x1_NotAllowed x2_NotAllowed x3_NotAllowed x5_NotAllowed "ValueError.__new__"))
    (sa_NotAllowed : PySem.W.findIn K (.ref c_NotAllowed) "__setattr__" = some (some (.builtin "object.__setattr__")))
    (xx_NotAllowed : PySem.W.subIn K (.ref c_NotAllowed) (.type "BaseException") = some true)
    (xt_NotAllowed : PySem.W.typeIn K (.ref c_NotAllowed) = some (.type "type"))
    (xk_NotAllowed : PySem.W.keepIn K (.ref c_NotAllowed) = true)
    (xi_NotAllowed : PySem.W.findIn K (.ref c_NotAllowed) "__init__" = some (some (.ref a_NotAllowed_init_)))
    (xg_NotAllowed : PySem.W.findIn K (.ref c_NotAllowed) "__getattribute__" = some (some (.builtin "BaseException.__getattribute__")))
    (xh_NotAllowed : PySem.W.findIn K (.ref c_NotAllowed) "__getattr__" = some none)
    (xy_NotAllowed : PySem.W.hasDictIn K c_NotAllowed = true)
    (xc_NotAllowed : PySem.W.findIn K (.ref c_NotAllowed) "__class__" = some (some (.builtin "object.__class__")))
    (xr_NotAllowed : PySem.W.mroIn K c_NotAllowed (.type "object") = some true)
    (nX_NotAllowed : PySem.W.findIn K (.ref c_NotAllowed) "state" = some none)
    (x_get : PySem.W.specialIn K (.builtin "object.__class__") "__get__" = some (some (.builtin "getset_descriptor.__get__")))
    (x_tk : PySem.W.takesIn K (.builtin "object.__class__") = some true)
    (Me_InvalidNumber_InvalidNumber : PySem.W.exmOne K (.ref c_InvalidNumber) (.ref c_InvalidNumber) = some true)
    (Me_InvalidNumber_NotAllowed : PySem.W.exmOne K (.ref c_InvalidNumber) (.ref c_NotAllowed) = some false)
    (Me_InvalidSetting_InvalidSetting : PySem.W.exmOne K (.ref c_InvalidSetting) (.ref c_InvalidSetting) = some true)
    (Me_NotAllowed_NotAllowed : PySem.W.exmOne K (.ref c_NotAllowed) (.ref c_NotAllowed) = some true)
    (Kt_InvalidNumber_InvalidNumber : PySem.W.kitOne K (.ref c_InvalidNumber) (.ref c_InvalidNumber) = some true)
    (Kt_InvalidNumber_InvalidSetting : PySem.W.kitOne K (.ref c_InvalidNumber) (.ref c_InvalidSetting) = some false)
    (Kt_InvalidNumber_NotAllowed : PySem.W.kitOne K (.ref c_InvalidNumber) (.ref c_NotAllowed) = some false)
    (Kt_InvalidSetting_InvalidNumber : PySem.W.kitOne K (.ref c_InvalidSetting) (.ref c_InvalidNumber) = some false)
    (Kt_InvalidSetting_InvalidSetting : PySem.W.kitOne K (.ref c_InvalidSetting) (.ref c_InvalidSetting) = some true)
    (Kt_InvalidSetting_NotAllowed : PySem.W.kitOne K (.ref c_InvalidSetting) (.ref c_NotAllowed) = some false)
    (Kt_NotAllowed_InvalidNumber : PySem.W.kitOne K (.ref c_NotAllowed) (.ref c_InvalidNumber) = some false)
    (Kt_NotAllowed_InvalidSetting : PySem.W.kitOne K (.ref c_NotAllowed) (.ref c_InvalidSetting) = some false)
    (Kt_NotAllowed_NotAllowed : PySem.W.kitOne K (.ref c_NotAllowed) (.ref c_NotAllowed) = some true)
    (Kt_InvalidNumber_LossError : PySem.W.kitOne K (.ref c_InvalidNumber) (.ref c_LossError) = some true)
    (Kt_InvalidSetting_LossError : PySem.W.kitOne K (.ref c_InvalidSetting) (.ref c_LossError) = some true)
    (Kt_NotAllowed_LossError : PySem.W.kitOne K (.ref c_NotAllowed) (.ref c_LossError) = some true)
    (xf_InvalidNumber_init_ : PySem.W.typeIn K (.ref a_InvalidNumber_init_) = some (.type "function"))
    (l_InvalidNumber_init_ : K.lookup a_InvalidNumber_init_ = some ⟨oc_InvalidNumber_init_, od_InvalidNumber_init_, .func (PySem.W.fnOf "__init__" "InvalidNumber.__init__" (defArgs s_InvalidNumber_init_) (defBody s_InvalidNumber_init_) (defScope s_InvalidNumber_init_) .none kV_InvalidNumber_init_ dc_InvalidNumber_init_ pm_InvalidNumber_init_ an_InvalidNumber_init_ cd_InvalidNumber_init_ ct_InvalidNumber_init_), sl_InvalidNumber_init_⟩)
    (e_InvalidNumber_init_ : PySem.W.codeIn K cd_InvalidNumber_init_ "InvalidNumber.__init__" = true)
    (k_InvalidNumber_init_ : PySem.W.keepIn K (.ref a_InvalidNumber_init_) = true)
    (xf_InvalidSetting_init_ : PySem.W.typeIn K (.ref a_InvalidSetting_init_) = some (.type "function"))
    (l_InvalidSetting_init_ : K.lookup a_InvalidSetting_init_ = some ⟨oc_InvalidSetting_init_, od_InvalidSetting_init_, .func (PySem.W.fnOf "__init__" "InvalidSetting.__init__" (defArgs s_InvalidSetting_init_) (defBody s_InvalidSetting_init_) (defScope s_InvalidSetting_init_) .none kV_InvalidSetting_init_ dc_InvalidSetting_init_ pm_InvalidSetting_init_ an_InvalidSetting_init_ cd_InvalidSetting_init_ ct_InvalidSetting_init_), sl_InvalidSetting_init_⟩)
    (e_InvalidSetting_init_ : PySem.W.codeIn K cd_InvalidSetting_init_ "InvalidSetting.__init__" = true)
    (k_InvalidSetting_init_ : PySem.W.keepIn K (.ref a_InvalidSetting_init_) = true)
    (xf_NotAllowed_init_ : PySem.W.typeIn K (.ref a_NotAllowed_init_) = some (.type "function"))
    (l_NotAllowed_init_ : K.lookup a_NotAllowed_init_ = some ⟨oc_NotAllowed_init_, od_NotAllowed_init_, .func (PySem.W.fnOf "__init__" "NotAllowed.__init__" (defArgs s_NotAllowed_init_) (defBody s_NotAllowed_init_) (defScope s_NotAllowed_init_) .none kV_NotAllowed_init_ dc_NotAllowed_init_ pm_NotAllowed_init_ an_NotAllowed_init_ cd_NotAllowed_init_ ct_NotAllowed_init_), sl_NotAllowed_init_⟩)
    (e_NotAllowed_init_ : PySem.W.codeIn K cd_NotAllowed_init_ "NotAllowed.__init__" = true)
    (k_NotAllowed_init_ : PySem.W.keepIn K (.ref a_NotAllowed_init_) = true)
    (a_is_integer' : PySem.W.nsIn K mainGlobals "is_integer" = some (some (.ref a_is_integer)))
    (l_is_integer : K.lookup a_is_integer = some ⟨oc_is_integer, od_is_integer, .func (PySem.W.fnOf "is_integer" "is_integer" (defArgs s_is_integer) (defBody s_is_integer) (defScope s_is_integer) .none kV_is_integer dc_is_integer pm_is_integer an_is_integer cd_is_integer ct_is_integer), sl_is_integer⟩)
    (e_is_integer : PySem.W.codeIn K cd_is_integer "is_integer" = true)
    (k_is_integer : PySem.W.keepIn K (.ref a_is_integer) = true)
    (a_is_between' : PySem.W.nsIn K mainGlobals "is_between" = some (some (.ref a_is_between)))
    (l_is_between : K.lookup a_is_between = some ⟨oc_is_between, od_is_between, .func (PySem.W.fnOf "is_between" "is_between" (defArgs s_is_between) (defBody s_is_between) (defScope s_is_between) .none kV_is_between dc_is_between pm_is_between an_is_between cd_is_between ct_is_between), sl_is_between⟩)
    (e_is_between : PySem.W.codeIn K cd_is_between "is_between" = true)
    (k_is_between : PySem.W.keepIn K (.ref a_is_between) = true)
    (a_is_byte' : PySem.W.nsIn K mainGlobals "is_byte" = some (some (.ref a_is_byte)))
    (l_is_byte : K.lookup a_is_byte = some ⟨oc_is_byte, od_is_byte, .func (PySem.W.fnOf "is_byte" "is_byte" (defArgs s_is_byte) (defBody s_is_byte) (defScope s_is_byte) .none kV_is_byte dc_is_byte pm_is_byte an_is_byte cd_is_byte ct_is_byte), sl_is_byte⟩)
    (e_is_byte : PySem.W.codeIn K cd_is_byte "is_byte" = true)
    (k_is_byte : PySem.W.keepIn K (.ref a_is_byte) = true)
    (a_is_sequence' : PySem.W.nsIn K mainGlobals "is_sequence" = some (some (.ref a_is_sequence)))
    (l_is_sequence : K.lookup a_is_sequence = some ⟨oc_is_sequence, od_is_sequence, .func (PySem.W.fnOf "is_sequence" "is_sequence" (defArgs s_is_sequence) (defBody s_is_sequence) (defScope s_is_sequence) .none kV_is_sequence dc_is_sequence pm_is_sequence an_is_sequence cd_is_sequence ct_is_sequence), sl_is_sequence⟩)
    (e_is_sequence : PySem.W.codeIn K cd_is_sequence "is_sequence" = true)
    (k_is_sequence : PySem.W.keepIn K (.ref a_is_sequence) = true)
    (a_require_data' : PySem.W.nsIn K mainGlobals "require_data" = some (some (.ref a_require_data)))
    (l_require_data : K.lookup a_require_data = some ⟨oc_require_data, od_require_data, .func (PySem.W.fnOf "require_data" "require_data" (defArgs s_require_data) (defBody s_require_data) (defScope s_require_data) .none kV_require_data dc_require_data pm_require_data an_require_data cd_require_data ct_require_data), sl_require_data⟩)
    (e_require_data : PySem.W.codeIn K cd_require_data "require_data" = true)
    (k_require_data : PySem.W.keepIn K (.ref a_require_data) = true)
    (a_require_limit' : PySem.W.nsIn K mainGlobals "require_limit" = some (some (.ref a_require_limit)))
    (l_require_limit : K.lookup a_require_limit = some ⟨oc_require_limit, od_require_limit, .func (PySem.W.fnOf "require_limit" "require_limit" (defArgs s_require_limit) (defBody s_require_limit) (defScope s_require_limit) .none kV_require_limit dc_require_limit pm_require_limit an_require_limit cd_require_limit ct_require_limit), sl_require_limit⟩)
    (e_require_limit : PySem.W.codeIn K cd_require_limit "require_limit" = true)
    (k_require_limit : PySem.W.keepIn K (.ref a_require_limit) = true)
    (a_Outbox_init_' : PySem.W.findIn K (.ref c_Outbox) "__init__" = some (some (.ref a_Outbox_init_)))
    (i_Outbox_init_ : PySem.W.isFn K (.ref a_Outbox_init_) = true)
    (l_Outbox_init_ : K.lookup a_Outbox_init_ = some ⟨oc_Outbox_init_, od_Outbox_init_, .func (PySem.W.fnOf "__init__" "Outbox.__init__" (defArgs s_Outbox_init_) (defBody s_Outbox_init_) (defScope s_Outbox_init_) .none kV_Outbox_init_ dc_Outbox_init_ pm_Outbox_init_ an_Outbox_init_ cd_Outbox_init_ ct_Outbox_init_), sl_Outbox_init_⟩)
    (e_Outbox_init_ : PySem.W.codeIn K cd_Outbox_init_ "Outbox.__init__" = true)
    (k_Outbox_init_ : PySem.W.keepIn K (.ref a_Outbox_init_) = true)
    (a_Outbox_limit' : PySem.W.findIn K (.ref c_Outbox) "limit" = some (some (.ref p_Outbox_limit)))
    (pg_Outbox_limit : PySem.W.specialIn K (.ref p_Outbox_limit) "__get__" = some (some (.builtin "property.__get__")))
    (pt_Outbox_limit : PySem.W.takesIn K (.ref p_Outbox_limit) = some true)
    (rc_Outbox_limit : PySem.W.recIn K p_Outbox_limit "property" = some (.ref a_Outbox_limit :: rs_Outbox_limit))
    (l_Outbox_limit : K.lookup a_Outbox_limit = some ⟨oc_Outbox_limit, od_Outbox_limit, .func (PySem.W.fnOf "limit" "Outbox.limit" (defArgs s_Outbox_limit) (defBody s_Outbox_limit) (defScope s_Outbox_limit) .none kV_Outbox_limit dc_Outbox_limit pm_Outbox_limit an_Outbox_limit cd_Outbox_limit ct_Outbox_limit), sl_Outbox_limit⟩)
    (e_Outbox_limit : PySem.W.codeIn K cd_Outbox_limit "Outbox.limit" = true)
    (k_Outbox_limit : PySem.W.keepIn K (.ref a_Outbox_limit) = true)
    (ty_Outbox_limit_set : PySem.W.typeIn K (.ref p_Outbox_limit) = some (.type "property"))
    (rx_Outbox_limit_set : PySem.W.recIn K p_Outbox_limit "property" = some (gx_Outbox_limit_set :: .ref a_Outbox_limit_set :: rs_Outbox_limit_set))
    (l_Outbox_limit_set : K.lookup a_Outbox_limit_set = some ⟨oc_Outbox_limit_set, od_Outbox_limit_set, .func (PySem.W.fnOf "limit" "Outbox.limit" (defArgs s_Outbox_limit_set) (defBody s_Outbox_limit_set) (defScope s_Outbox_limit_set) .none kV_Outbox_limit_set dc_Outbox_limit_set pm_Outbox_limit_set an_Outbox_limit_set cd_Outbox_limit_set ct_Outbox_limit_set), sl_Outbox_limit_set⟩)
    (e_Outbox_limit_set : PySem.W.codeIn K cd_Outbox_limit_set "Outbox.limit" = true)
    (k_Outbox_limit_set : PySem.W.keepIn K (.ref a_Outbox_limit_set) = true)
    (a_Outbox_free' : PySem.W.findIn K (.ref c_Outbox) "free" = some (some (.ref p_Outbox_free)))
    (pg_Outbox_free : PySem.W.specialIn K (.ref p_Outbox_free) "__get__" = some (some (.builtin "property.__get__")))
    (pt_Outbox_free : PySem.W.takesIn K (.ref p_Outbox_free) = some true)
    (rc_Outbox_free : PySem.W.recIn K p_Outbox_free "property" = some (.ref a_Outbox_free :: rs_Outbox_free))
    (l_Outbox_free : K.lookup a_Outbox_free = some ⟨oc_Outbox_free, od_Outbox_free, .func (PySem.W.fnOf "free" "Outbox.free" (defArgs s_Outbox_free) (defBody s_Outbox_free) (defScope s_Outbox_free) .none kV_Outbox_free dc_Outbox_free pm_Outbox_free an_Outbox_free cd_Outbox_free ct_Outbox_free), sl_Outbox_free⟩)
    (e_Outbox_free : PySem.W.codeIn K cd_Outbox_free "Outbox.free" = true)
    (k_Outbox_free : PySem.W.keepIn K (.ref a_Outbox_free) = true)
    (a_Outbox_bound' : PySem.W.findIn K (.ref c_Outbox) "bound" = some (some (.ref p_Outbox_bound)))
    (pg_Outbox_bound : PySem.W.specialIn K (.ref p_Outbox_bound) "__get__" = some (some (.builtin "property.__get__")))
    (pt_Outbox_bound : PySem.W.takesIn K (.ref p_Outbox_bound) = some true)
    (rc_Outbox_bound : PySem.W.recIn K p_Outbox_bound "property" = some (.ref a_Outbox_bound :: rs_Outbox_bound))
    (l_Outbox_bound : K.lookup a_Outbox_bound = some ⟨oc_Outbox_bound, od_Outbox_bound, .func (PySem.W.fnOf "bound" "Outbox.bound" (defArgs s_Outbox_bound) (defBody s_Outbox_bound) (defScope s_Outbox_bound) .none kV_Outbox_bound dc_Outbox_bound pm_Outbox_bound an_Outbox_bound cd_Outbox_bound ct_Outbox_bound), sl_Outbox_bound⟩)
    (e_Outbox_bound : PySem.W.codeIn K cd_Outbox_bound "Outbox.bound" = true)
    (k_Outbox_bound : PySem.W.keepIn K (.ref a_Outbox_bound) = true)
    (a_Outbox_resize' : PySem.W.findIn K (.ref c_Outbox) "resize" = some (some (.ref a_Outbox_resize)))
    (i_Outbox_resize : PySem.W.isFn K (.ref a_Outbox_resize) = true)
    (l_Outbox_resize : K.lookup a_Outbox_resize = some ⟨oc_Outbox_resize, od_Outbox_resize, .func (PySem.W.fnOf "resize" "Outbox.resize" (defArgs s_Outbox_resize) (defBody s_Outbox_resize) (defScope s_Outbox_resize) .none kV_Outbox_resize dc_Outbox_resize pm_Outbox_resize an_Outbox_resize cd_Outbox_resize ct_Outbox_resize), sl_Outbox_resize⟩)
    (e_Outbox_resize : PySem.W.codeIn K cd_Outbox_resize "Outbox.resize" = true)
    (k_Outbox_resize : PySem.W.keepIn K (.ref a_Outbox_resize) = true)
    (a_Outbox_put' : PySem.W.findIn K (.ref c_Outbox) "put" = some (some (.ref a_Outbox_put)))
    (i_Outbox_put : PySem.W.isFn K (.ref a_Outbox_put) = true)
    (l_Outbox_put : K.lookup a_Outbox_put = some ⟨oc_Outbox_put, od_Outbox_put, .func (PySem.W.fnOf "put" "Outbox.put" (defArgs s_Outbox_put) (defBody s_Outbox_put) (defScope s_Outbox_put) .none kV_Outbox_put dc_Outbox_put pm_Outbox_put an_Outbox_put cd_Outbox_put ct_Outbox_put), sl_Outbox_put⟩)
    (e_Outbox_put : PySem.W.codeIn K cd_Outbox_put "Outbox.put" = true)
    (k_Outbox_put : PySem.W.keepIn K (.ref a_Outbox_put) = true)
    (a_Outbox_urge' : PySem.W.findIn K (.ref c_Outbox) "urge" = some (some (.ref a_Outbox_urge)))
    (i_Outbox_urge : PySem.W.isFn K (.ref a_Outbox_urge) = true)
    (l_Outbox_urge : K.lookup a_Outbox_urge = some ⟨oc_Outbox_urge, od_Outbox_urge, .func (PySem.W.fnOf "urge" "Outbox.urge" (defArgs s_Outbox_urge) (defBody s_Outbox_urge) (defScope s_Outbox_urge) .none kV_Outbox_urge dc_Outbox_urge pm_Outbox_urge an_Outbox_urge cd_Outbox_urge ct_Outbox_urge), sl_Outbox_urge⟩)
    (e_Outbox_urge : PySem.W.codeIn K cd_Outbox_urge "Outbox.urge" = true)
    (k_Outbox_urge : PySem.W.keepIn K (.ref a_Outbox_urge) = true)
    (a_Outbox_shut' : PySem.W.findIn K (.ref c_Outbox) "shut" = some (some (.ref a_Outbox_shut)))
    (i_Outbox_shut : PySem.W.isFn K (.ref a_Outbox_shut) = true)
    (l_Outbox_shut : K.lookup a_Outbox_shut = some ⟨oc_Outbox_shut, od_Outbox_shut, .func (PySem.W.fnOf "shut" "Outbox.shut" (defArgs s_Outbox_shut) (defBody s_Outbox_shut) (defScope s_Outbox_shut) .none kV_Outbox_shut dc_Outbox_shut pm_Outbox_shut an_Outbox_shut cd_Outbox_shut ct_Outbox_shut), sl_Outbox_shut⟩)
    (e_Outbox_shut : PySem.W.codeIn K cd_Outbox_shut "Outbox.shut" = true)
    (k_Outbox_shut : PySem.W.keepIn K (.ref a_Outbox_shut) = true)
    (a_Outbox_cut' : PySem.W.findIn K (.ref c_Outbox) "cut" = some (some (.ref a_Outbox_cut)))
    (i_Outbox_cut : PySem.W.isFn K (.ref a_Outbox_cut) = true)
    (l_Outbox_cut : K.lookup a_Outbox_cut = some ⟨oc_Outbox_cut, od_Outbox_cut, .func (PySem.W.fnOf "cut" "Outbox.cut" (defArgs s_Outbox_cut) (defBody s_Outbox_cut) (defScope s_Outbox_cut) .none kV_Outbox_cut dc_Outbox_cut pm_Outbox_cut an_Outbox_cut cd_Outbox_cut ct_Outbox_cut), sl_Outbox_cut⟩)
    (e_Outbox_cut : PySem.W.codeIn K cd_Outbox_cut "Outbox.cut" = true)
    (k_Outbox_cut : PySem.W.keepIn K (.ref a_Outbox_cut) = true)
    (a_Outbox_release' : PySem.W.findIn K (.ref c_Outbox) "release" = some (some (.ref a_Outbox_release)))
    (i_Outbox_release : PySem.W.isFn K (.ref a_Outbox_release) = true)
    (l_Outbox_release : K.lookup a_Outbox_release = some ⟨oc_Outbox_release, od_Outbox_release, .func (PySem.W.fnOf "release" "Outbox.release" (defArgs s_Outbox_release) (defBody s_Outbox_release) (defScope s_Outbox_release) .none kV_Outbox_release dc_Outbox_release pm_Outbox_release an_Outbox_release cd_Outbox_release ct_Outbox_release), sl_Outbox_release⟩)
    (e_Outbox_release : PySem.W.codeIn K cd_Outbox_release "Outbox.release" = true)
    (k_Outbox_release : PySem.W.keepIn K (.ref a_Outbox_release) = true)
    (a__law_box' : PySem.W.nsIn K mainGlobals "_law_box" = some (some (.ref a__law_box)))
    (l__law_box : K.lookup a__law_box = some ⟨oc__law_box, od__law_box, .func (PySem.W.fnOf "_law_box" "_law_box" (defArgs s__law_box) (defBody s__law_box) (defScope s__law_box) .none kV__law_box dc__law_box pm__law_box an__law_box cd__law_box ct__law_box), sl__law_box⟩)
    (e__law_box : PySem.W.codeIn K cd__law_box "_law_box" = true)
    (k__law_box : PySem.W.keepIn K (.ref a__law_box) = true)
    (a__law_draw' : PySem.W.nsIn K mainGlobals "_law_draw" = some (some (.ref a__law_draw)))
    (l__law_draw : K.lookup a__law_draw = some ⟨oc__law_draw, od__law_draw, .func (PySem.W.fnOf "_law_draw" "_law_draw" (defArgs s__law_draw) (defBody s__law_draw) (defScope s__law_draw) .none kV__law_draw dc__law_draw pm__law_draw an__law_draw cd__law_draw ct__law_draw), sl__law_draw⟩)
    (e__law_draw : PySem.W.codeIn K cd__law_draw "_law_draw" = true)
    (k__law_draw : PySem.W.keepIn K (.ref a__law_draw) = true)
    (a__law_is_whole' : PySem.W.nsIn K mainGlobals "_law_is_whole" = some (some (.ref a__law_is_whole)))
    (l__law_is_whole : K.lookup a__law_is_whole = some ⟨oc__law_is_whole, od__law_is_whole, .func (PySem.W.fnOf "_law_is_whole" "_law_is_whole" (defArgs s__law_is_whole) (defBody s__law_is_whole) (defScope s__law_is_whole) .none kV__law_is_whole dc__law_is_whole pm__law_is_whole an__law_is_whole cd__law_is_whole ct__law_is_whole), sl__law_is_whole⟩)
    (e__law_is_whole : PySem.W.codeIn K cd__law_is_whole "_law_is_whole" = true)
    (k__law_is_whole : PySem.W.keepIn K (.ref a__law_is_whole) = true)
    (a__law_limit' : PySem.W.nsIn K mainGlobals "_law_limit" = some (some (.ref a__law_limit)))
    (l__law_limit : K.lookup a__law_limit = some ⟨oc__law_limit, od__law_limit, .func (PySem.W.fnOf "_law_limit" "_law_limit" (defArgs s__law_limit) (defBody s__law_limit) (defScope s__law_limit) .none kV__law_limit dc__law_limit pm__law_limit an__law_limit cd__law_limit ct__law_limit), sl__law_limit⟩)
    (e__law_limit : PySem.W.codeIn K cd__law_limit "_law_limit" = true)
    (k__law_limit : PySem.W.keepIn K (.ref a__law_limit) = true)
    (a__law_bytes' : PySem.W.nsIn K mainGlobals "_law_bytes" = some (some (.ref a__law_bytes)))
    (l__law_bytes : K.lookup a__law_bytes = some ⟨oc__law_bytes, od__law_bytes, .func (PySem.W.fnOf "_law_bytes" "_law_bytes" (defArgs s__law_bytes) (defBody s__law_bytes) (defScope s__law_bytes) .none kV__law_bytes dc__law_bytes pm__law_bytes an__law_bytes cd__law_bytes ct__law_bytes), sl__law_bytes⟩)
    (e__law_bytes : PySem.W.codeIn K cd__law_bytes "_law_bytes" = true)
    (k__law_bytes : PySem.W.keepIn K (.ref a__law_bytes) = true)
    (a__law_bad_data' : PySem.W.nsIn K mainGlobals "_law_bad_data" = some (some (.ref a__law_bad_data)))
    (l__law_bad_data : K.lookup a__law_bad_data = some ⟨oc__law_bad_data, od__law_bad_data, .func (PySem.W.fnOf "_law_bad_data" "_law_bad_data" (defArgs s__law_bad_data) (defBody s__law_bad_data) (defScope s__law_bad_data) .none kV__law_bad_data dc__law_bad_data pm__law_bad_data an__law_bad_data cd__law_bad_data ct__law_bad_data), sl__law_bad_data⟩)
    (e__law_bad_data : PySem.W.codeIn K cd__law_bad_data "_law_bad_data" = true)
    (k__law_bad_data : PySem.W.keepIn K (.ref a__law_bad_data) = true)
    (a__law_state' : PySem.W.nsIn K mainGlobals "_law_state" = some (some (.ref a__law_state)))
    (l__law_state : K.lookup a__law_state = some ⟨oc__law_state, od__law_state, .func (PySem.W.fnOf "_law_state" "_law_state" (defArgs s__law_state) (defBody s__law_state) (defScope s__law_state) .none kV__law_state dc__law_state pm__law_state an__law_state cd__law_state ct__law_state), sl__law_state⟩)
    (e__law_state : PySem.W.codeIn K cd__law_state "_law_state" = true)
    (k__law_state : PySem.W.keepIn K (.ref a__law_state) = true)
    (a__law_tuple_is' : PySem.W.nsIn K mainGlobals "_law_tuple_is" = some (some (.ref a__law_tuple_is)))
    (l__law_tuple_is : K.lookup a__law_tuple_is = some ⟨oc__law_tuple_is, od__law_tuple_is, .func (PySem.W.fnOf "_law_tuple_is" "_law_tuple_is" (defArgs s__law_tuple_is) (defBody s__law_tuple_is) (defScope s__law_tuple_is) .none kV__law_tuple_is dc__law_tuple_is pm__law_tuple_is an__law_tuple_is cd__law_tuple_is ct__law_tuple_is), sl__law_tuple_is⟩)
    (e__law_tuple_is : PySem.W.codeIn K cd__law_tuple_is "_law_tuple_is" = true)
    (k__law_tuple_is : PySem.W.keepIn K (.ref a__law_tuple_is) = true)
    (a__law_only' : PySem.W.nsIn K mainGlobals "_law_only" = some (some (.ref a__law_only)))
    (l__law_only : K.lookup a__law_only = some ⟨oc__law_only, od__law_only, .func (PySem.W.fnOf "_law_only" "_law_only" (defArgs s__law_only) (defBody s__law_only) (defScope s__law_only) .none kV__law_only dc__law_only pm__law_only an__law_only cd__law_only ct__law_only), sl__law_only⟩)
    (e__law_only : PySem.W.codeIn K cd__law_only "_law_only" = true)
    (k__law_only : PySem.W.keepIn K (.ref a__law_only) = true)
    (a__law_adds' : PySem.W.nsIn K mainGlobals "_law_adds" = some (some (.ref a__law_adds)))
    (l__law_adds : K.lookup a__law_adds = some ⟨oc__law_adds, od__law_adds, .func (PySem.W.fnOf "_law_adds" "_law_adds" (defArgs s__law_adds) (defBody s__law_adds) (defScope s__law_adds) .none kV__law_adds dc__law_adds pm__law_adds an__law_adds cd__law_adds ct__law_adds), sl__law_adds⟩)
    (e__law_adds : PySem.W.codeIn K cd__law_adds "_law_adds" = true)
    (k__law_adds : PySem.W.keepIn K (.ref a__law_adds) = true)
    (a__law_data_refused' : PySem.W.nsIn K mainGlobals "_law_data_refused" = some (some (.ref a__law_data_refused)))
    (l__law_data_refused : K.lookup a__law_data_refused = some ⟨oc__law_data_refused, od__law_data_refused, .func (PySem.W.fnOf "_law_data_refused" "_law_data_refused" (defArgs s__law_data_refused) (defBody s__law_data_refused) (defScope s__law_data_refused) .none kV__law_data_refused dc__law_data_refused pm__law_data_refused an__law_data_refused cd__law_data_refused ct__law_data_refused), sl__law_data_refused⟩)
    (e__law_data_refused : PySem.W.codeIn K cd__law_data_refused "_law_data_refused" = true)
    (k__law_data_refused : PySem.W.keepIn K (.ref a__law_data_refused) = true)
    (a__law_cuts' : PySem.W.nsIn K mainGlobals "_law_cuts" = some (some (.ref a__law_cuts)))
    (l__law_cuts : K.lookup a__law_cuts = some ⟨oc__law_cuts, od__law_cuts, .func (PySem.W.fnOf "_law_cuts" "_law_cuts" (defArgs s__law_cuts) (defBody s__law_cuts) (defScope s__law_cuts) .none kV__law_cuts dc__law_cuts pm__law_cuts an__law_cuts cd__law_cuts ct__law_cuts), sl__law_cuts⟩)
    (e__law_cuts : PySem.W.codeIn K cd__law_cuts "_law_cuts" = true)
    (k__law_cuts : PySem.W.keepIn K (.ref a__law_cuts) = true)
    (a__law_cut_refused' : PySem.W.nsIn K mainGlobals "_law_cut_refused" = some (some (.ref a__law_cut_refused)))
    (l__law_cut_refused : K.lookup a__law_cut_refused = some ⟨oc__law_cut_refused, od__law_cut_refused, .func (PySem.W.fnOf "_law_cut_refused" "_law_cut_refused" (defArgs s__law_cut_refused) (defBody s__law_cut_refused) (defScope s__law_cut_refused) .none kV__law_cut_refused dc__law_cut_refused pm__law_cut_refused an__law_cut_refused cd__law_cut_refused ct__law_cut_refused), sl__law_cut_refused⟩)
    (e__law_cut_refused : PySem.W.codeIn K cd__law_cut_refused "_law_cut_refused" = true)
    (k__law_cut_refused : PySem.W.keepIn K (.ref a__law_cut_refused) = true)
    (a__law_releases' : PySem.W.nsIn K mainGlobals "_law_releases" = some (some (.ref a__law_releases)))
    (l__law_releases : K.lookup a__law_releases = some ⟨oc__law_releases, od__law_releases, .func (PySem.W.fnOf "_law_releases" "_law_releases" (defArgs s__law_releases) (defBody s__law_releases) (defScope s__law_releases) .none kV__law_releases dc__law_releases pm__law_releases an__law_releases cd__law_releases ct__law_releases), sl__law_releases⟩)
    (e__law_releases : PySem.W.codeIn K cd__law_releases "_law_releases" = true)
    (k__law_releases : PySem.W.keepIn K (.ref a__law_releases) = true)
    (a__law_release_refused' : PySem.W.nsIn K mainGlobals "_law_release_refused" = some (some (.ref a__law_release_refused)))
    (l__law_release_refused : K.lookup a__law_release_refused = some ⟨oc__law_release_refused, od__law_release_refused, .func (PySem.W.fnOf "_law_release_refused" "_law_release_refused" (defArgs s__law_release_refused) (defBody s__law_release_refused) (defScope s__law_release_refused) .none kV__law_release_refused dc__law_release_refused pm__law_release_refused an__law_release_refused cd__law_release_refused ct__law_release_refused), sl__law_release_refused⟩)
    (e__law_release_refused : PySem.W.codeIn K cd__law_release_refused "_law_release_refused" = true)
    (k__law_release_refused : PySem.W.keepIn K (.ref a__law_release_refused) = true)
    (a__law_limit_refused' : PySem.W.nsIn K mainGlobals "_law_limit_refused" = some (some (.ref a__law_limit_refused)))
    (l__law_limit_refused : K.lookup a__law_limit_refused = some ⟨oc__law_limit_refused, od__law_limit_refused, .func (PySem.W.fnOf "_law_limit_refused" "_law_limit_refused" (defArgs s__law_limit_refused) (defBody s__law_limit_refused) (defScope s__law_limit_refused) .none kV__law_limit_refused dc__law_limit_refused pm__law_limit_refused an__law_limit_refused cd__law_limit_refused ct__law_limit_refused), sl__law_limit_refused⟩)
    (e__law_limit_refused : PySem.W.codeIn K cd__law_limit_refused "_law_limit_refused" = true)
    (k__law_limit_refused : PySem.W.keepIn K (.ref a__law_limit_refused) = true)
    (a__law_deed' : PySem.W.nsIn K mainGlobals "_law_deed" = some (some (.ref a__law_deed)))
    (l__law_deed : K.lookup a__law_deed = some ⟨oc__law_deed, od__law_deed, .func (PySem.W.fnOf "_law_deed" "_law_deed" (defArgs s__law_deed) (defBody s__law_deed) (defScope s__law_deed) .none kV__law_deed dc__law_deed pm__law_deed an__law_deed cd__law_deed ct__law_deed), sl__law_deed⟩)
    (e__law_deed : PySem.W.codeIn K cd__law_deed "_law_deed" = true)
    (k__law_deed : PySem.W.keepIn K (.ref a__law_deed) = true)
    (a_law' : PySem.W.nsIn K mainGlobals "law" = some (some (.ref a_law)))
    (l_law : K.lookup a_law = some ⟨oc_law, od_law, .func (PySem.W.fnOf "law" "law" (defArgs s_law) (defBody s_law) (defScope s_law) .none kV_law dc_law pm_law an_law cd_law ct_law), sl_law⟩)
    (e_law : PySem.W.codeIn K cd_law "law" = true)
    (k_law : PySem.W.keepIn K (.ref a_law) = true)
    (Kv_InvalidNumber : PySem.W.kitOne K (.ref c_InvalidNumber) (.type "ValueError") = some true)
    (Kv_InvalidSetting : PySem.W.kitOne K (.ref c_InvalidSetting) (.type "ValueError") = some true)
    (Kv_NotAllowed : PySem.W.kitOne K (.ref c_NotAllowed) (.type "ValueError") = some true)
    (z_ValueError : PySem.W.nsIn K mainGlobals "ValueError" = some none)
    (z_abs : PySem.W.nsIn K mainGlobals "abs" = some none)
    (z_bool : PySem.W.nsIn K mainGlobals "bool" = some none)
    (z_int : PySem.W.nsIn K mainGlobals "int" = some none)
    (z_isinstance : PySem.W.nsIn K mainGlobals "isinstance" = some none)
    (z_len : PySem.W.nsIn K mainGlobals "len" = some none)
    (z_list : PySem.W.nsIn K mainGlobals "list" = some none)
    (z_max : PySem.W.nsIn K mainGlobals "max" = some none)
    (z_min : PySem.W.nsIn K mainGlobals "min" = some none)
    (z_property : PySem.W.nsIn K mainGlobals "property" = some none)
    (z_range : PySem.W.nsIn K mainGlobals "range" = some none)
    (z_repr : PySem.W.nsIn K mainGlobals "repr" = some none)
    (z_tuple : PySem.W.nsIn K mainGlobals "tuple" = some none)
    (xm'_InvalidNumber : PySem.HandSPX.refsVE xm_InvalidNumber = true)
    (xm'_InvalidSetting : PySem.HandSPX.refsVE xm_InvalidSetting = true)
    (xm'_NotAllowed : PySem.HandSPX.refsVE xm_NotAllowed = true)
    : ∃ fd : FuncData, (∀ (s : Shared) (v : Value), BindsTo s fd ⟨[v], []⟩ [("script", v)]) ∧ ∀ base : Heap, K.In base → base.Ns mainGlobals mg → FnStill l.prog w K mg base 11 fa fd ["script"] (sp_law K) := by
  have e : fa = a_law := by
    have e0 := hfa.symm.trans (PySem.W.mg_of X G a_law')
    cases e0
    rfl
  rw [e]
  have F_InvalidNumber_init_ := fun_mk (st := s_InvalidNumber_init_) l_InvalidNumber_init_ e_InvalidNumber_init_ k_InvalidNumber_init_
  have F_InvalidSetting_init_ := fun_mk (st := s_InvalidSetting_init_) l_InvalidSetting_init_ e_InvalidSetting_init_ k_InvalidSetting_init_
  have F_NotAllowed_init_ := fun_mk (st := s_NotAllowed_init_) l_NotAllowed_init_ e_NotAllowed_init_ k_NotAllowed_init_
  have F_is_integer := fun_mk (st := s_is_integer) l_is_integer e_is_integer k_is_integer
  have F_is_between := fun_mk (st := s_is_between) l_is_between e_is_between k_is_between
  have F_is_byte := fun_mk (st := s_is_byte) l_is_byte e_is_byte k_is_byte
  have F_is_sequence := fun_mk (st := s_is_sequence) l_is_sequence e_is_sequence k_is_sequence
  have F_require_data := fun_mk (st := s_require_data) l_require_data e_require_data k_require_data
  have F_require_limit := fun_mk (st := s_require_limit) l_require_limit e_require_limit k_require_limit
  have F_Outbox_init_ := fun_mk (st := s_Outbox_init_) l_Outbox_init_ e_Outbox_init_ k_Outbox_init_
  have F_Outbox_limit := fun_mk (st := s_Outbox_limit) l_Outbox_limit e_Outbox_limit k_Outbox_limit
  have F_Outbox_limit_set := fun_mk (st := s_Outbox_limit_set) l_Outbox_limit_set e_Outbox_limit_set k_Outbox_limit_set
  have F_Outbox_free := fun_mk (st := s_Outbox_free) l_Outbox_free e_Outbox_free k_Outbox_free
  have F_Outbox_bound := fun_mk (st := s_Outbox_bound) l_Outbox_bound e_Outbox_bound k_Outbox_bound
  have F_Outbox_resize := fun_mk (st := s_Outbox_resize) l_Outbox_resize e_Outbox_resize k_Outbox_resize
  have F_Outbox_put := fun_mk (st := s_Outbox_put) l_Outbox_put e_Outbox_put k_Outbox_put
  have F_Outbox_urge := fun_mk (st := s_Outbox_urge) l_Outbox_urge e_Outbox_urge k_Outbox_urge
  have F_Outbox_shut := fun_mk (st := s_Outbox_shut) l_Outbox_shut e_Outbox_shut k_Outbox_shut
  have F_Outbox_cut := fun_mk (st := s_Outbox_cut) l_Outbox_cut e_Outbox_cut k_Outbox_cut
  have F_Outbox_release := fun_mk (st := s_Outbox_release) l_Outbox_release e_Outbox_release k_Outbox_release
  have F__law_box := fun_mk (st := s__law_box) l__law_box e__law_box k__law_box
  have F__law_draw := fun_mk (st := s__law_draw) l__law_draw e__law_draw k__law_draw
  have F__law_is_whole := fun_mk (st := s__law_is_whole) l__law_is_whole e__law_is_whole k__law_is_whole
  have F__law_limit := fun_mk (st := s__law_limit) l__law_limit e__law_limit k__law_limit
  have F__law_bytes := fun_mk (st := s__law_bytes) l__law_bytes e__law_bytes k__law_bytes
  have F__law_bad_data := fun_mk (st := s__law_bad_data) l__law_bad_data e__law_bad_data k__law_bad_data
  have F__law_state := fun_mk (st := s__law_state) l__law_state e__law_state k__law_state
  have F__law_tuple_is := fun_mk (st := s__law_tuple_is) l__law_tuple_is e__law_tuple_is k__law_tuple_is
  have F__law_only := fun_mk (st := s__law_only) l__law_only e__law_only k__law_only
  have F__law_adds := fun_mk (st := s__law_adds) l__law_adds e__law_adds k__law_adds
  have F__law_data_refused := fun_mk (st := s__law_data_refused) l__law_data_refused e__law_data_refused k__law_data_refused
  have F__law_cuts := fun_mk (st := s__law_cuts) l__law_cuts e__law_cuts k__law_cuts
  have F__law_cut_refused := fun_mk (st := s__law_cut_refused) l__law_cut_refused e__law_cut_refused k__law_cut_refused
  have F__law_releases := fun_mk (st := s__law_releases) l__law_releases e__law_releases k__law_releases
  have F__law_release_refused := fun_mk (st := s__law_release_refused) l__law_release_refused e__law_release_refused k__law_release_refused
  have F__law_limit_refused := fun_mk (st := s__law_limit_refused) l__law_limit_refused e__law_limit_refused k__law_limit_refused
  have F__law_deed := fun_mk (st := s__law_deed) l__law_deed e__law_deed k__law_deed
  have F_law := fun_mk (st := s_law) l_law e_law k_law
  let T : Txt K mg := {
    c_Outbox := c_Outbox,
    g_Outbox := PySem.W.mg_of X G aC_Outbox,
    cl_Outbox := ⟨pg_Outbox, hd_Outbox, po_Outbox, sa_Outbox⟩,
    n_Outbox__limit := n_Outbox__limit,
    n_Outbox_base := n_Outbox_base,
    n_Outbox_end := n_Outbox_end,
    n_Outbox_closed := n_Outbox_closed,
    n_Outbox_urgent_end := n_Outbox_urgent_end,
    n_Outbox__kept := n_Outbox__kept,
    c_LossError := c_LossError,
    X_LossError := ⟨PySem.W.mg_of X G aC_LossError⟩,
    c_InvalidNumber := c_InvalidNumber,
    X_InvalidNumber := xcls_mk (PySem.W.mg_of X G aC_InvalidNumber) xl_InvalidNumber xm'_InvalidNumber sa_InvalidNumber xx_InvalidNumber xt_InvalidNumber xk_InvalidNumber xi_InvalidNumber xf_InvalidNumber_init_ xg_InvalidNumber xh_InvalidNumber xy_InvalidNumber xc_InvalidNumber x_get x_tk xr_InvalidNumber,
    nX_InvalidNumber := nX_InvalidNumber,
    c_InvalidSetting := c_InvalidSetting,
    X_InvalidSetting := xcls_mk (PySem.W.mg_of X G aC_InvalidSetting) xl_InvalidSetting xm'_InvalidSetting sa_InvalidSetting xx_InvalidSetting xt_InvalidSetting xk_InvalidSetting xi_InvalidSetting xf_InvalidSetting_init_ xg_InvalidSetting xh_InvalidSetting xy_InvalidSetting xc_InvalidSetting x_get x_tk xr_InvalidSetting,
    nX_InvalidSetting := nX_InvalidSetting,
    c_NotAllowed := c_NotAllowed,
    X_NotAllowed := xcls_mk (PySem.W.mg_of X G aC_NotAllowed) xl_NotAllowed xm'_NotAllowed sa_NotAllowed xx_NotAllowed xt_NotAllowed xk_NotAllowed xi_NotAllowed xf_NotAllowed_init_ xg_NotAllowed xh_NotAllowed xy_NotAllowed xc_NotAllowed x_get x_tk xr_NotAllowed,
    nX_NotAllowed := nX_NotAllowed,
    Me_InvalidNumber_InvalidNumber := Me_InvalidNumber_InvalidNumber,
    Me_InvalidNumber_NotAllowed := Me_InvalidNumber_NotAllowed,
    Me_InvalidSetting_InvalidSetting := Me_InvalidSetting_InvalidSetting,
    Me_NotAllowed_NotAllowed := Me_NotAllowed_NotAllowed,
    Kt_InvalidNumber_InvalidNumber := Kt_InvalidNumber_InvalidNumber,
    Kt_InvalidNumber_InvalidSetting := Kt_InvalidNumber_InvalidSetting,
    Kt_InvalidNumber_NotAllowed := Kt_InvalidNumber_NotAllowed,
    Kt_InvalidSetting_InvalidNumber := Kt_InvalidSetting_InvalidNumber,
    Kt_InvalidSetting_InvalidSetting := Kt_InvalidSetting_InvalidSetting,
    Kt_InvalidSetting_NotAllowed := Kt_InvalidSetting_NotAllowed,
    Kt_NotAllowed_InvalidNumber := Kt_NotAllowed_InvalidNumber,
    Kt_NotAllowed_InvalidSetting := Kt_NotAllowed_InvalidSetting,
    Kt_NotAllowed_NotAllowed := Kt_NotAllowed_NotAllowed,
    Kt_InvalidNumber_LossError := Kt_InvalidNumber_LossError,
    Kt_InvalidSetting_LossError := Kt_InvalidSetting_LossError,
    Kt_NotAllowed_LossError := Kt_NotAllowed_LossError,
    a_InvalidNumber_init_ := a_InvalidNumber_init_,
    fd_InvalidNumber_init_ := PySem.W.fnOf "__init__" "InvalidNumber.__init__" (defArgs s_InvalidNumber_init_) (defBody s_InvalidNumber_init_) (defScope s_InvalidNumber_init_) .none kV_InvalidNumber_init_ dc_InvalidNumber_init_ pm_InvalidNumber_init_ an_InvalidNumber_init_ cd_InvalidNumber_init_ ct_InvalidNumber_init_,
    F_InvalidNumber_init_ := F_InvalidNumber_init_,
    B_InvalidNumber_init_ := F_InvalidNumber_init_.binds (ps := ["self", "number"]) fun _ _ _ _ _ _ us hl => match us, hl with | [_, _], _ => rfl,
    a_InvalidSetting_init_ := a_InvalidSetting_init_,
    fd_InvalidSetting_init_ := PySem.W.fnOf "__init__" "InvalidSetting.__init__" (defArgs s_InvalidSetting_init_) (defBody s_InvalidSetting_init_) (defScope s_InvalidSetting_init_) .none kV_InvalidSetting_init_ dc_InvalidSetting_init_ pm_InvalidSetting_init_ an_InvalidSetting_init_ cd_InvalidSetting_init_ ct_InvalidSetting_init_,
    F_InvalidSetting_init_ := F_InvalidSetting_init_,
    B_InvalidSetting_init_ := F_InvalidSetting_init_.binds (ps := ["self", "setting"]) fun _ _ _ _ _ _ us hl => match us, hl with | [_, _], _ => rfl,
    a_NotAllowed_init_ := a_NotAllowed_init_,
    fd_NotAllowed_init_ := PySem.W.fnOf "__init__" "NotAllowed.__init__" (defArgs s_NotAllowed_init_) (defBody s_NotAllowed_init_) (defScope s_NotAllowed_init_) .none kV_NotAllowed_init_ dc_NotAllowed_init_ pm_NotAllowed_init_ an_NotAllowed_init_ cd_NotAllowed_init_ ct_NotAllowed_init_,
    F_NotAllowed_init_ := F_NotAllowed_init_,
    B_NotAllowed_init_ := F_NotAllowed_init_.binds (ps := ["self", "state"]) fun _ _ _ _ _ _ us hl => match us, hl with | [_, _], _ => rfl,
    a_is_integer := a_is_integer,
    fd_is_integer := PySem.W.fnOf "is_integer" "is_integer" (defArgs s_is_integer) (defBody s_is_integer) (defScope s_is_integer) .none kV_is_integer dc_is_integer pm_is_integer an_is_integer cd_is_integer ct_is_integer,
    F_is_integer := F_is_integer,
    B_is_integer := F_is_integer.binds (ps := ["value"]) fun _ _ _ _ _ _ us hl => match us, hl with | [_], _ => rfl,
    g_is_integer := PySem.W.mg_of X G a_is_integer',
    a_is_between := a_is_between,
    fd_is_between := PySem.W.fnOf "is_between" "is_between" (defArgs s_is_between) (defBody s_is_between) (defScope s_is_between) .none kV_is_between dc_is_between pm_is_between an_is_between cd_is_between ct_is_between,
    F_is_between := F_is_between,
    B_is_between := F_is_between.binds (ps := ["value", "low", "high"]) fun _ _ _ _ _ _ us hl => match us, hl with | [_, _, _], _ => rfl,
    g_is_between := PySem.W.mg_of X G a_is_between',
    a_is_byte := a_is_byte,
    fd_is_byte := PySem.W.fnOf "is_byte" "is_byte" (defArgs s_is_byte) (defBody s_is_byte) (defScope s_is_byte) .none kV_is_byte dc_is_byte pm_is_byte an_is_byte cd_is_byte ct_is_byte,
    F_is_byte := F_is_byte,
    B_is_byte := F_is_byte.binds (ps := ["value"]) fun _ _ _ _ _ _ us hl => match us, hl with | [_], _ => rfl,
    g_is_byte := PySem.W.mg_of X G a_is_byte',
    a_is_sequence := a_is_sequence,
    fd_is_sequence := PySem.W.fnOf "is_sequence" "is_sequence" (defArgs s_is_sequence) (defBody s_is_sequence) (defScope s_is_sequence) .none kV_is_sequence dc_is_sequence pm_is_sequence an_is_sequence cd_is_sequence ct_is_sequence,
    F_is_sequence := F_is_sequence,
    B_is_sequence := F_is_sequence.binds (ps := ["value"]) fun _ _ _ _ _ _ us hl => match us, hl with | [_], _ => rfl,
    g_is_sequence := PySem.W.mg_of X G a_is_sequence',
    a_require_data := a_require_data,
    fd_require_data := PySem.W.fnOf "require_data" "require_data" (defArgs s_require_data) (defBody s_require_data) (defScope s_require_data) .none kV_require_data dc_require_data pm_require_data an_require_data cd_require_data ct_require_data,
    F_require_data := F_require_data,
    B_require_data := F_require_data.binds (ps := ["data"]) fun _ _ _ _ _ _ us hl => match us, hl with | [_], _ => rfl,
    g_require_data := PySem.W.mg_of X G a_require_data',
    a_require_limit := a_require_limit,
    fd_require_limit := PySem.W.fnOf "require_limit" "require_limit" (defArgs s_require_limit) (defBody s_require_limit) (defScope s_require_limit) .none kV_require_limit dc_require_limit pm_require_limit an_require_limit cd_require_limit ct_require_limit,
    F_require_limit := F_require_limit,
    B_require_limit := F_require_limit.binds (ps := ["limit"]) fun _ _ _ _ _ _ us hl => match us, hl with | [_], _ => rfl,
    g_require_limit := PySem.W.mg_of X G a_require_limit',
    a_Outbox_init_ := a_Outbox_init_,
    fd_Outbox_init_ := PySem.W.fnOf "__init__" "Outbox.__init__" (defArgs s_Outbox_init_) (defBody s_Outbox_init_) (defScope s_Outbox_init_) .none kV_Outbox_init_ dc_Outbox_init_ pm_Outbox_init_ an_Outbox_init_ cd_Outbox_init_ ct_Outbox_init_,
    F_Outbox_init_ := F_Outbox_init_,
    B_Outbox_init_ := F_Outbox_init_.binds (ps := ["self", "limit"]) fun _ _ _ _ _ _ us hl => match us, hl with | [_, _], _ => rfl,
    M_Outbox := ⟨mk_Outbox, a_Outbox_init_', i_Outbox_init_, kc_Outbox⟩,
    a_Outbox_limit := a_Outbox_limit,
    fd_Outbox_limit := PySem.W.fnOf "limit" "Outbox.limit" (defArgs s_Outbox_limit) (defBody s_Outbox_limit) (defScope s_Outbox_limit) .none kV_Outbox_limit dc_Outbox_limit pm_Outbox_limit an_Outbox_limit cd_Outbox_limit ct_Outbox_limit,
    F_Outbox_limit := F_Outbox_limit,
    B_Outbox_limit := F_Outbox_limit.binds (ps := ["self"]) fun _ _ _ _ _ _ us hl => match us, hl with | [_], _ => rfl,
    p_Outbox_limit := p_Outbox_limit,
    PR_Outbox_limit := ⟨a_Outbox_limit', pg_Outbox_limit, pt_Outbox_limit, ⟨_, rc_Outbox_limit⟩⟩,
    a_Outbox_limit_set := a_Outbox_limit_set,
    fd_Outbox_limit_set := PySem.W.fnOf "limit" "Outbox.limit" (defArgs s_Outbox_limit_set) (defBody s_Outbox_limit_set) (defScope s_Outbox_limit_set) .none kV_Outbox_limit_set dc_Outbox_limit_set pm_Outbox_limit_set an_Outbox_limit_set cd_Outbox_limit_set ct_Outbox_limit_set,
    F_Outbox_limit_set := F_Outbox_limit_set,
    B_Outbox_limit_set := F_Outbox_limit_set.binds (ps := ["self", "value"]) fun _ _ _ _ _ _ us hl => match us, hl with | [_, _], _ => rfl,
    SE_Outbox_limit_set := ⟨a_Outbox_limit', pt_Outbox_limit, ty_Outbox_limit_set, ⟨_, _, rx_Outbox_limit_set⟩⟩,
    a_Outbox_free := a_Outbox_free,
    fd_Outbox_free := PySem.W.fnOf "free" "Outbox.free" (defArgs s_Outbox_free) (defBody s_Outbox_free) (defScope s_Outbox_free) .none kV_Outbox_free dc_Outbox_free pm_Outbox_free an_Outbox_free cd_Outbox_free ct_Outbox_free,
    F_Outbox_free := F_Outbox_free,
    B_Outbox_free := F_Outbox_free.binds (ps := ["self"]) fun _ _ _ _ _ _ us hl => match us, hl with | [_], _ => rfl,
    p_Outbox_free := p_Outbox_free,
    PR_Outbox_free := ⟨a_Outbox_free', pg_Outbox_free, pt_Outbox_free, ⟨_, rc_Outbox_free⟩⟩,
    a_Outbox_bound := a_Outbox_bound,
    fd_Outbox_bound := PySem.W.fnOf "bound" "Outbox.bound" (defArgs s_Outbox_bound) (defBody s_Outbox_bound) (defScope s_Outbox_bound) .none kV_Outbox_bound dc_Outbox_bound pm_Outbox_bound an_Outbox_bound cd_Outbox_bound ct_Outbox_bound,
    F_Outbox_bound := F_Outbox_bound,
    B_Outbox_bound := F_Outbox_bound.binds (ps := ["self"]) fun _ _ _ _ _ _ us hl => match us, hl with | [_], _ => rfl,
    p_Outbox_bound := p_Outbox_bound,
    PR_Outbox_bound := ⟨a_Outbox_bound', pg_Outbox_bound, pt_Outbox_bound, ⟨_, rc_Outbox_bound⟩⟩,
    a_Outbox_resize := a_Outbox_resize,
    fd_Outbox_resize := PySem.W.fnOf "resize" "Outbox.resize" (defArgs s_Outbox_resize) (defBody s_Outbox_resize) (defScope s_Outbox_resize) .none kV_Outbox_resize dc_Outbox_resize pm_Outbox_resize an_Outbox_resize cd_Outbox_resize ct_Outbox_resize,
    F_Outbox_resize := F_Outbox_resize,
    B_Outbox_resize := F_Outbox_resize.binds (ps := ["self", "limit"]) fun _ _ _ _ _ _ us hl => match us, hl with | [_, _], _ => rfl,
    m_Outbox_resize := ⟨a_Outbox_resize', i_Outbox_resize, k_Outbox_resize⟩,
    a_Outbox_put := a_Outbox_put,
    fd_Outbox_put := PySem.W.fnOf "put" "Outbox.put" (defArgs s_Outbox_put) (defBody s_Outbox_put) (defScope s_Outbox_put) .none kV_Outbox_put dc_Outbox_put pm_Outbox_put an_Outbox_put cd_Outbox_put ct_Outbox_put,
    F_Outbox_put := F_Outbox_put,
    B_Outbox_put := F_Outbox_put.binds (ps := ["self", "data"]) fun _ _ _ _ _ _ us hl => match us, hl with | [_, _], _ => rfl,
    m_Outbox_put := ⟨a_Outbox_put', i_Outbox_put, k_Outbox_put⟩,
    a_Outbox_urge := a_Outbox_urge,
    fd_Outbox_urge := PySem.W.fnOf "urge" "Outbox.urge" (defArgs s_Outbox_urge) (defBody s_Outbox_urge) (defScope s_Outbox_urge) .none kV_Outbox_urge dc_Outbox_urge pm_Outbox_urge an_Outbox_urge cd_Outbox_urge ct_Outbox_urge,
    F_Outbox_urge := F_Outbox_urge,
    B_Outbox_urge := F_Outbox_urge.binds (ps := ["self", "data"]) fun _ _ _ _ _ _ us hl => match us, hl with | [_, _], _ => rfl,
    m_Outbox_urge := ⟨a_Outbox_urge', i_Outbox_urge, k_Outbox_urge⟩,
    a_Outbox_shut := a_Outbox_shut,
    fd_Outbox_shut := PySem.W.fnOf "shut" "Outbox.shut" (defArgs s_Outbox_shut) (defBody s_Outbox_shut) (defScope s_Outbox_shut) .none kV_Outbox_shut dc_Outbox_shut pm_Outbox_shut an_Outbox_shut cd_Outbox_shut ct_Outbox_shut,
    F_Outbox_shut := F_Outbox_shut,
    B_Outbox_shut := F_Outbox_shut.binds (ps := ["self"]) fun _ _ _ _ _ _ us hl => match us, hl with | [_], _ => rfl,
    m_Outbox_shut := ⟨a_Outbox_shut', i_Outbox_shut, k_Outbox_shut⟩,
    a_Outbox_cut := a_Outbox_cut,
    fd_Outbox_cut := PySem.W.fnOf "cut" "Outbox.cut" (defArgs s_Outbox_cut) (defBody s_Outbox_cut) (defScope s_Outbox_cut) .none kV_Outbox_cut dc_Outbox_cut pm_Outbox_cut an_Outbox_cut cd_Outbox_cut ct_Outbox_cut,
    F_Outbox_cut := F_Outbox_cut,
    B_Outbox_cut := F_Outbox_cut.binds (ps := ["self", "low", "high"]) fun _ _ _ _ _ _ us hl => match us, hl with | [_, _, _], _ => rfl,
    m_Outbox_cut := ⟨a_Outbox_cut', i_Outbox_cut, k_Outbox_cut⟩,
    a_Outbox_release := a_Outbox_release,
    fd_Outbox_release := PySem.W.fnOf "release" "Outbox.release" (defArgs s_Outbox_release) (defBody s_Outbox_release) (defScope s_Outbox_release) .none kV_Outbox_release dc_Outbox_release pm_Outbox_release an_Outbox_release cd_Outbox_release ct_Outbox_release,
    F_Outbox_release := F_Outbox_release,
    B_Outbox_release := F_Outbox_release.binds (ps := ["self", "offset"]) fun _ _ _ _ _ _ us hl => match us, hl with | [_, _], _ => rfl,
    m_Outbox_release := ⟨a_Outbox_release', i_Outbox_release, k_Outbox_release⟩,
    a__law_box := a__law_box,
    fd__law_box := PySem.W.fnOf "_law_box" "_law_box" (defArgs s__law_box) (defBody s__law_box) (defScope s__law_box) .none kV__law_box dc__law_box pm__law_box an__law_box cd__law_box ct__law_box,
    F__law_box := F__law_box,
    B__law_box := F__law_box.binds (ps := ["script"]) fun _ _ _ _ _ _ us hl => match us, hl with | [_], _ => rfl,
    g__law_box := PySem.W.mg_of X G a__law_box',
    a__law_draw := a__law_draw,
    fd__law_draw := PySem.W.fnOf "_law_draw" "_law_draw" (defArgs s__law_draw) (defBody s__law_draw) (defScope s__law_draw) .none kV__law_draw dc__law_draw pm__law_draw an__law_draw cd__law_draw ct__law_draw,
    F__law_draw := F__law_draw,
    B__law_draw := F__law_draw.binds (ps := ["box", "size"]) fun _ _ _ _ _ _ us hl => match us, hl with | [_, _], _ => rfl,
    g__law_draw := PySem.W.mg_of X G a__law_draw',
    a__law_is_whole := a__law_is_whole,
    fd__law_is_whole := PySem.W.fnOf "_law_is_whole" "_law_is_whole" (defArgs s__law_is_whole) (defBody s__law_is_whole) (defScope s__law_is_whole) .none kV__law_is_whole dc__law_is_whole pm__law_is_whole an__law_is_whole cd__law_is_whole ct__law_is_whole,
    F__law_is_whole := F__law_is_whole,
    B__law_is_whole := F__law_is_whole.binds (ps := ["value"]) fun _ _ _ _ _ _ us hl => match us, hl with | [_], _ => rfl,
    g__law_is_whole := PySem.W.mg_of X G a__law_is_whole',
    a__law_limit := a__law_limit,
    fd__law_limit := PySem.W.fnOf "_law_limit" "_law_limit" (defArgs s__law_limit) (defBody s__law_limit) (defScope s__law_limit) .none kV__law_limit dc__law_limit pm__law_limit an__law_limit cd__law_limit ct__law_limit,
    F__law_limit := F__law_limit,
    B__law_limit := F__law_limit.binds (ps := ["box"]) fun _ _ _ _ _ _ us hl => match us, hl with | [_], _ => rfl,
    g__law_limit := PySem.W.mg_of X G a__law_limit',
    a__law_bytes := a__law_bytes,
    fd__law_bytes := PySem.W.fnOf "_law_bytes" "_law_bytes" (defArgs s__law_bytes) (defBody s__law_bytes) (defScope s__law_bytes) .none kV__law_bytes dc__law_bytes pm__law_bytes an__law_bytes cd__law_bytes ct__law_bytes,
    F__law_bytes := F__law_bytes,
    B__law_bytes := F__law_bytes.binds (ps := ["box", "most"]) fun _ _ _ _ _ _ us hl => match us, hl with | [_, _], _ => rfl,
    g__law_bytes := PySem.W.mg_of X G a__law_bytes',
    a__law_bad_data := a__law_bad_data,
    fd__law_bad_data := PySem.W.fnOf "_law_bad_data" "_law_bad_data" (defArgs s__law_bad_data) (defBody s__law_bad_data) (defScope s__law_bad_data) .none kV__law_bad_data dc__law_bad_data pm__law_bad_data an__law_bad_data cd__law_bad_data ct__law_bad_data,
    F__law_bad_data := F__law_bad_data,
    B__law_bad_data := F__law_bad_data.binds (ps := ["box"]) fun _ _ _ _ _ _ us hl => match us, hl with | [_], _ => rfl,
    g__law_bad_data := PySem.W.mg_of X G a__law_bad_data',
    a__law_state := a__law_state,
    fd__law_state := PySem.W.fnOf "_law_state" "_law_state" (defArgs s__law_state) (defBody s__law_state) (defScope s__law_state) .none kV__law_state dc__law_state pm__law_state an__law_state cd__law_state ct__law_state,
    F__law_state := F__law_state,
    B__law_state := F__law_state.binds (ps := ["outbox", "state"]) fun _ _ _ _ _ _ us hl => match us, hl with | [_, _], _ => rfl,
    g__law_state := PySem.W.mg_of X G a__law_state',
    a__law_tuple_is := a__law_tuple_is,
    fd__law_tuple_is := PySem.W.fnOf "_law_tuple_is" "_law_tuple_is" (defArgs s__law_tuple_is) (defBody s__law_tuple_is) (defScope s__law_tuple_is) .none kV__law_tuple_is dc__law_tuple_is pm__law_tuple_is an__law_tuple_is cd__law_tuple_is ct__law_tuple_is,
    F__law_tuple_is := F__law_tuple_is,
    B__law_tuple_is := F__law_tuple_is.binds (ps := ["told", "due"]) fun _ _ _ _ _ _ us hl => match us, hl with | [_, _], _ => rfl,
    g__law_tuple_is := PySem.W.mg_of X G a__law_tuple_is',
    a__law_only := a__law_only,
    fd__law_only := PySem.W.fnOf "_law_only" "_law_only" (defArgs s__law_only) (defBody s__law_only) (defScope s__law_only) .none kV__law_only dc__law_only pm__law_only an__law_only cd__law_only ct__law_only,
    F__law_only := F__law_only,
    B__law_only := F__law_only.binds (ps := ["e", "number", "setting", "state"]) fun _ _ _ _ _ _ us hl => match us, hl with | [_, _, _, _], _ => rfl,
    g__law_only := PySem.W.mg_of X G a__law_only',
    a__law_adds := a__law_adds,
    fd__law_adds := PySem.W.fnOf "_law_adds" "_law_adds" (defArgs s__law_adds) (defBody s__law_adds) (defScope s__law_adds) .none kV__law_adds dc__law_adds pm__law_adds an__law_adds cd__law_adds ct__law_adds,
    F__law_adds := F__law_adds,
    B__law_adds := F__law_adds.binds (ps := ["outbox", "state", "data", "urgent"]) fun _ _ _ _ _ _ us hl => match us, hl with | [_, _, _, _], _ => rfl,
    g__law_adds := PySem.W.mg_of X G a__law_adds',
    a__law_data_refused := a__law_data_refused,
    fd__law_data_refused := PySem.W.fnOf "_law_data_refused" "_law_data_refused" (defArgs s__law_data_refused) (defBody s__law_data_refused) (defScope s__law_data_refused) .none kV__law_data_refused dc__law_data_refused pm__law_data_refused an__law_data_refused cd__law_data_refused ct__law_data_refused,
    F__law_data_refused := F__law_data_refused,
    B__law_data_refused := F__law_data_refused.binds (ps := ["outbox", "state", "data", "bad", "urgent"]) fun _ _ _ _ _ _ us hl => match us, hl with | [_, _, _, _, _], _ => rfl,
    g__law_data_refused := PySem.W.mg_of X G a__law_data_refused',
    a__law_cuts := a__law_cuts,
    fd__law_cuts := PySem.W.fnOf "_law_cuts" "_law_cuts" (defArgs s__law_cuts) (defBody s__law_cuts) (defScope s__law_cuts) .none kV__law_cuts dc__law_cuts pm__law_cuts an__law_cuts cd__law_cuts ct__law_cuts,
    F__law_cuts := F__law_cuts,
    B__law_cuts := F__law_cuts.binds (ps := ["box", "outbox", "state"]) fun _ _ _ _ _ _ us hl => match us, hl with | [_, _, _], _ => rfl,
    g__law_cuts := PySem.W.mg_of X G a__law_cuts',
    a__law_cut_refused := a__law_cut_refused,
    fd__law_cut_refused := PySem.W.fnOf "_law_cut_refused" "_law_cut_refused" (defArgs s__law_cut_refused) (defBody s__law_cut_refused) (defScope s__law_cut_refused) .none kV__law_cut_refused dc__law_cut_refused pm__law_cut_refused an__law_cut_refused cd__law_cut_refused ct__law_cut_refused,
    F__law_cut_refused := F__law_cut_refused,
    B__law_cut_refused := F__law_cut_refused.binds (ps := ["box", "outbox", "state"]) fun _ _ _ _ _ _ us hl => match us, hl with | [_, _, _], _ => rfl,
    g__law_cut_refused := PySem.W.mg_of X G a__law_cut_refused',
    a__law_releases := a__law_releases,
    fd__law_releases := PySem.W.fnOf "_law_releases" "_law_releases" (defArgs s__law_releases) (defBody s__law_releases) (defScope s__law_releases) .none kV__law_releases dc__law_releases pm__law_releases an__law_releases cd__law_releases ct__law_releases,
    F__law_releases := F__law_releases,
    B__law_releases := F__law_releases.binds (ps := ["box", "outbox", "state"]) fun _ _ _ _ _ _ us hl => match us, hl with | [_, _, _], _ => rfl,
    g__law_releases := PySem.W.mg_of X G a__law_releases',
    a__law_release_refused := a__law_release_refused,
    fd__law_release_refused := PySem.W.fnOf "_law_release_refused" "_law_release_refused" (defArgs s__law_release_refused) (defBody s__law_release_refused) (defScope s__law_release_refused) .none kV__law_release_refused dc__law_release_refused pm__law_release_refused an__law_release_refused cd__law_release_refused ct__law_release_refused,
    F__law_release_refused := F__law_release_refused,
    B__law_release_refused := F__law_release_refused.binds (ps := ["box", "outbox", "state"]) fun _ _ _ _ _ _ us hl => match us, hl with | [_, _, _], _ => rfl,
    g__law_release_refused := PySem.W.mg_of X G a__law_release_refused',
    a__law_limit_refused := a__law_limit_refused,
    fd__law_limit_refused := PySem.W.fnOf "_law_limit_refused" "_law_limit_refused" (defArgs s__law_limit_refused) (defBody s__law_limit_refused) (defScope s__law_limit_refused) .none kV__law_limit_refused dc__law_limit_refused pm__law_limit_refused an__law_limit_refused cd__law_limit_refused ct__law_limit_refused,
    F__law_limit_refused := F__law_limit_refused,
    B__law_limit_refused := F__law_limit_refused.binds (ps := ["box", "outbox"]) fun _ _ _ _ _ _ us hl => match us, hl with | [_, _], _ => rfl,
    g__law_limit_refused := PySem.W.mg_of X G a__law_limit_refused',
    a__law_deed := a__law_deed,
    fd__law_deed := PySem.W.fnOf "_law_deed" "_law_deed" (defArgs s__law_deed) (defBody s__law_deed) (defScope s__law_deed) .none kV__law_deed dc__law_deed pm__law_deed an__law_deed cd__law_deed ct__law_deed,
    F__law_deed := F__law_deed,
    B__law_deed := F__law_deed.binds (ps := ["box", "outbox", "state"]) fun _ _ _ _ _ _ us hl => match us, hl with | [_, _, _], _ => rfl,
    g__law_deed := PySem.W.mg_of X G a__law_deed',
    a_law := a_law,
    fd_law := PySem.W.fnOf "law" "law" (defArgs s_law) (defBody s_law) (defScope s_law) .none kV_law dc_law pm_law an_law cd_law ct_law,
    F_law := F_law,
    B_law := F_law.binds (ps := ["script"]) fun _ _ _ _ _ _ us hl => match us, hl with | [_], _ => rfl,
    g_law := PySem.W.mg_of X G a_law',
    Kv_InvalidNumber := Kv_InvalidNumber,
    Kv_InvalidSetting := Kv_InvalidSetting,
    Kv_NotAllowed := Kv_NotAllowed,
    b_ValueError := PySem.W.mg_none_of X G z_ValueError,
    b_abs := PySem.W.mg_none_of X G z_abs,
    b_bool := PySem.W.mg_none_of X G z_bool,
    b_int := PySem.W.mg_none_of X G z_int,
    b_isinstance := PySem.W.mg_none_of X G z_isinstance,
    b_len := PySem.W.mg_none_of X G z_len,
    b_list := PySem.W.mg_none_of X G z_list,
    b_max := PySem.W.mg_none_of X G z_max,
    b_min := PySem.W.mg_none_of X G z_min,
    b_property := PySem.W.mg_none_of X G z_property,
    b_range := PySem.W.mg_none_of X G z_range,
    b_repr := PySem.W.mg_none_of X G z_repr,
    b_tuple := PySem.W.mg_none_of X G z_tuple }
  exact ⟨T.fd_law, fun s v => .of_eq rfl, fun base _ _ => ok_law (P := l.prog) (w := w) (base := base) T⟩
theorem walk {l : PySem.W.OpenLaw} {q : Program} {loose : List Str} {XP : (Str → Option Value) → Heap → Prop} {YP : World → Heap → Prop} {d : DefRec} {K : Params → PySem.W.Frag} (hn : l.most = some 63) (hdf : d.params.defaults = [])
    (hY : ∀ (w : World) (h : Heap), YP w h → (K w.params).In h)
    (F : ∀ (w : World) (mg : Str → Option Value) (fa : Addr) (h : Heap), (K w.params).In h → h.Ns mainGlobals mg → mg d.name = some (.ref fa) →
      ∃ fd : FuncData, (∀ (s : Shared) (u : Value), BindsTo s fd ⟨[u], []⟩ [("script", u)]) ∧ ∀ base : Heap, (K w.params).In base → base.Ns mainGlobals mg → FnStill l.prog w (K w.params) mg base 11 fa fd ["script"] (sp_law (K w.params))) :
    PySem.W.WalkO q loose XP YP l.row.toRowW d [] (fun f vs => PySem.call f vs) :=
  still_walk (n := 63) (k := 11) (x := "script") (sp := fun w => sp_law (K w.params)) hn (by decide) hdf ⟨rfl, by decide, by decide⟩ hY F (fun _ _ a ns hl _ hS => ⟨a, ns, rfl, hS, hl, fun _ => rfl⟩) fun _ _ _ _ z => z
end My

open PySem PySem.W PyProof.Rows in
set_option maxRecDepth 100000 in
set_option maxHeartbeats 0 in
theorem PySem.Challenge.cw_lossway_k11_outbox_history_holds : PySem.Challenge.rw_lossway_k11_outbox_history.Holds := by
  w_on; o_law; k_head; (case hw => w_witness2)
  k_fill
  refine My.walk (l := PySem.Challenge.rw_lossway_k11_outbox_history) rfl rfl (fun w h Y => PySem.W.kIn_of Y) ?F
  case F =>
    intro w mg fa h KX G hmg
    refine' My.all_mk KX G hmg ?aC_Outbox ?pg_Outbox ?hd_Outbox ?po_Outbox ?sa_Outbox ?mk_Outbox ?kc_Outbox ?n_Outbox__limit ?n_Outbox_base ?n_Outbox_end ?n_Outbox_closed ?n_Outbox_urgent_end ?n_Outbox__kept ?aC_LossError ?aC_InvalidNumber ?xl_InvalidNumber ?sa_InvalidNumber ?xx_InvalidNumber ?xt_InvalidNumber ?xk_InvalidNumber ?xi_InvalidNumber ?xg_InvalidNumber ?xh_InvalidNumber ?xy_InvalidNumber ?xc_InvalidNumber ?xr_InvalidNumber ?nX_InvalidNumber ?aC_InvalidSetting ?xl_InvalidSetting ?sa_InvalidSetting ?xx_InvalidSetting ?xt_InvalidSetting ?xk_InvalidSetting ?xi_InvalidSetting ?xg_InvalidSetting ?xh_InvalidSetting ?xy_InvalidSetting ?xc_InvalidSetting ?xr_InvalidSetting ?nX_InvalidSetting ?aC_NotAllowed ?xl_NotAllowed ?sa_NotAllowed ?xx_NotAllowed ?xt_NotAllowed ?xk_NotAllowed ?xi_NotAllowed ?xg_NotAllowed ?xh_NotAllowed ?xy_NotAllowed ?xc_NotAllowed ?xr_NotAllowed ?nX_NotAllowed ?x_get ?x_tk ?Me_InvalidNumber_InvalidNumber ?Me_InvalidNumber_NotAllowed ?Me_InvalidSetting_InvalidSetting ?Me_NotAllowed_NotAllowed ?Kt_InvalidNumber_InvalidNumber ?Kt_InvalidNumber_InvalidSetting ?Kt_InvalidNumber_NotAllowed ?Kt_InvalidSetting_InvalidNumber ?Kt_InvalidSetting_InvalidSetting ?Kt_InvalidSetting_NotAllowed ?Kt_NotAllowed_InvalidNumber ?Kt_NotAllowed_InvalidSetting ?Kt_NotAllowed_NotAllowed ?Kt_InvalidNumber_LossError ?Kt_InvalidSetting_LossError ?Kt_NotAllowed_LossError ?xf_InvalidNumber_init_ ?l_InvalidNumber_init_ ?e_InvalidNumber_init_ ?k_InvalidNumber_init_ ?xf_InvalidSetting_init_ ?l_InvalidSetting_init_ ?e_InvalidSetting_init_ ?k_InvalidSetting_init_ ?xf_NotAllowed_init_ ?l_NotAllowed_init_ ?e_NotAllowed_init_ ?k_NotAllowed_init_ ?a_is_integer_ ?l_is_integer ?e_is_integer ?k_is_integer ?a_is_between_ ?l_is_between ?e_is_between ?k_is_between ?a_is_byte_ ?l_is_byte ?e_is_byte ?k_is_byte ?a_is_sequence_ ?l_is_sequence ?e_is_sequence ?k_is_sequence ?a_require_data_ ?l_require_data ?e_require_data ?k_require_data ?a_require_limit_ ?l_require_limit ?e_require_limit ?k_require_limit ?a_Outbox_init__ ?i_Outbox_init_ ?l_Outbox_init_ ?e_Outbox_init_ ?k_Outbox_init_ ?a_Outbox_limit_ ?pg_Outbox_limit ?pt_Outbox_limit ?rc_Outbox_limit ?l_Outbox_limit ?e_Outbox_limit ?k_Outbox_limit ?ty_Outbox_limit_set ?rx_Outbox_limit_set ?l_Outbox_limit_set ?e_Outbox_limit_set ?k_Outbox_limit_set ?a_Outbox_free_ ?pg_Outbox_free ?pt_Outbox_free ?rc_Outbox_free ?l_Outbox_free ?e_Outbox_free ?k_Outbox_free ?a_Outbox_bound_ ?pg_Outbox_bound ?pt_Outbox_bound ?rc_Outbox_bound ?l_Outbox_bound ?e_Outbox_bound ?k_Outbox_bound ?a_Outbox_resize_ ?i_Outbox_resize ?l_Outbox_resize ?e_Outbox_resize ?k_Outbox_resize ?a_Outbox_put_ ?i_Outbox_put ?l_Outbox_put ?e_Outbox_put ?k_Outbox_put ?a_Outbox_urge_ ?i_Outbox_urge ?l_Outbox_urge ?e_Outbox_urge ?k_Outbox_urge ?a_Outbox_shut_ ?i_Outbox_shut ?l_Outbox_shut ?e_Outbox_shut ?k_Outbox_shut ?a_Outbox_cut_ ?i_Outbox_cut ?l_Outbox_cut ?e_Outbox_cut ?k_Outbox_cut ?a_Outbox_release_ ?i_Outbox_release ?l_Outbox_release ?e_Outbox_release ?k_Outbox_release ?a__law_box_ ?l__law_box ?e__law_box ?k__law_box ?a__law_draw_ ?l__law_draw ?e__law_draw ?k__law_draw ?a__law_is_whole_ ?l__law_is_whole ?e__law_is_whole ?k__law_is_whole ?a__law_limit_ ?l__law_limit ?e__law_limit ?k__law_limit ?a__law_bytes_ ?l__law_bytes ?e__law_bytes ?k__law_bytes ?a__law_bad_data_ ?l__law_bad_data ?e__law_bad_data ?k__law_bad_data ?a__law_state_ ?l__law_state ?e__law_state ?k__law_state ?a__law_tuple_is_ ?l__law_tuple_is ?e__law_tuple_is ?k__law_tuple_is ?a__law_only_ ?l__law_only ?e__law_only ?k__law_only ?a__law_adds_ ?l__law_adds ?e__law_adds ?k__law_adds ?a__law_data_refused_ ?l__law_data_refused ?e__law_data_refused ?k__law_data_refused ?a__law_cuts_ ?l__law_cuts ?e__law_cuts ?k__law_cuts ?a__law_cut_refused_ ?l__law_cut_refused ?e__law_cut_refused ?k__law_cut_refused ?a__law_releases_ ?l__law_releases ?e__law_releases ?k__law_releases ?a__law_release_refused_ ?l__law_release_refused ?e__law_release_refused ?k__law_release_refused ?a__law_limit_refused_ ?l__law_limit_refused ?e__law_limit_refused ?k__law_limit_refused ?a__law_deed_ ?l__law_deed ?e__law_deed ?k__law_deed ?a_law_ ?l_law ?e_law ?k_law ?Kv_InvalidNumber ?Kv_InvalidSetting ?Kv_NotAllowed ?z_ValueError ?z_abs ?z_bool ?z_int ?z_isinstance ?z_len ?z_list ?z_max ?z_min ?z_property ?z_range ?z_repr ?z_tuple ?xm__InvalidNumber ?xm__InvalidSetting ?xm__NotAllowed
    (case aC_Outbox => k_is)
    (case pg_Outbox => k_is)
    (case hd_Outbox => k_is)
    (case po_Outbox => k_is)
    (case sa_Outbox => k_is)
    (case mk_Outbox => k_is)
    (case kc_Outbox => k_is)
    (case n_Outbox__limit => k_is)
    (case n_Outbox_base => k_is)
    (case n_Outbox_end => k_is)
    (case n_Outbox_closed => k_is)
    (case n_Outbox_urgent_end => k_is)
    (case n_Outbox__kept => k_is)
    (case aC_LossError => k_is)
    (case aC_InvalidNumber => k_is)
    (case xl_InvalidNumber => k_is)
    (case sa_InvalidNumber => k_is)
    (case xx_InvalidNumber => k_is)
    (case xt_InvalidNumber => k_is)
    (case xk_InvalidNumber => k_is)
    (case xi_InvalidNumber => k_is)
    (case xg_InvalidNumber => k_is)
    (case xh_InvalidNumber => k_is)
    (case xy_InvalidNumber => k_is)
    (case xc_InvalidNumber => k_is)
    (case xr_InvalidNumber => k_is)
    (case nX_InvalidNumber => k_is)
    (case aC_InvalidSetting => k_is)
    (case xl_InvalidSetting => k_is)
    (case sa_InvalidSetting => k_is)
    (case xx_InvalidSetting => k_is)
    (case xt_InvalidSetting => k_is)
    (case xk_InvalidSetting => k_is)
    (case xi_InvalidSetting => k_is)
    (case xg_InvalidSetting => k_is)
    (case xh_InvalidSetting => k_is)
    (case xy_InvalidSetting => k_is)
    (case xc_InvalidSetting => k_is)
    (case xr_InvalidSetting => k_is)
    (case nX_InvalidSetting => k_is)
    (case aC_NotAllowed => k_is)
    (case xl_NotAllowed => k_is)
    (case sa_NotAllowed => k_is)
    (case xx_NotAllowed => k_is)
    (case xt_NotAllowed => k_is)
    (case xk_NotAllowed => k_is)
    (case xi_NotAllowed => k_is)
    (case xg_NotAllowed => k_is)
    (case xh_NotAllowed => k_is)
    (case xy_NotAllowed => k_is)
    (case xc_NotAllowed => k_is)
    (case xr_NotAllowed => k_is)
    (case nX_NotAllowed => k_is)
    (case x_get => k_is)
    (case x_tk => k_is)
    (case Me_InvalidNumber_InvalidNumber => kts_exm)
    (case Me_InvalidNumber_NotAllowed => kts_exm)
    (case Me_InvalidSetting_InvalidSetting => kts_exm)
    (case Me_NotAllowed_NotAllowed => kts_exm)
    (case Kt_InvalidNumber_InvalidNumber => kit_is)
    (case Kt_InvalidNumber_InvalidSetting => kit_is)
    (case Kt_InvalidNumber_NotAllowed => kit_is)
    (case Kt_InvalidSetting_InvalidNumber => kit_is)
    (case Kt_InvalidSetting_InvalidSetting => kit_is)
    (case Kt_InvalidSetting_NotAllowed => kit_is)
    (case Kt_NotAllowed_InvalidNumber => kit_is)
    (case Kt_NotAllowed_InvalidSetting => kit_is)
    (case Kt_NotAllowed_NotAllowed => kit_is)
    (case Kt_InvalidNumber_LossError => kit_is)
    (case Kt_InvalidSetting_LossError => kit_is)
    (case Kt_NotAllowed_LossError => kit_is)
    (case xf_InvalidNumber_init_ => k_is)
    (case l_InvalidNumber_init_ => k_is)
    (case e_InvalidNumber_init_ => k_is)
    (case k_InvalidNumber_init_ => k_is)
    (case xf_InvalidSetting_init_ => k_is)
    (case l_InvalidSetting_init_ => k_is)
    (case e_InvalidSetting_init_ => k_is)
    (case k_InvalidSetting_init_ => k_is)
    (case xf_NotAllowed_init_ => k_is)
    (case l_NotAllowed_init_ => k_is)
    (case e_NotAllowed_init_ => k_is)
    (case k_NotAllowed_init_ => k_is)
    (case a_is_integer_ => k_is)
    (case l_is_integer => k_is)
    (case e_is_integer => k_is)
    (case k_is_integer => k_is)
    (case a_is_between_ => k_is)
    (case l_is_between => k_is)
    (case e_is_between => k_is)
    (case k_is_between => k_is)
    (case a_is_byte_ => k_is)
    (case l_is_byte => k_is)
    (case e_is_byte => k_is)
    (case k_is_byte => k_is)
    (case a_is_sequence_ => k_is)
    (case l_is_sequence => k_is)
    (case e_is_sequence => k_is)
    (case k_is_sequence => k_is)
    (case a_require_data_ => k_is)
    (case l_require_data => k_is)
    (case e_require_data => k_is)
    (case k_require_data => k_is)
    (case a_require_limit_ => k_is)
    (case l_require_limit => k_is)
    (case e_require_limit => k_is)
    (case k_require_limit => k_is)
    (case a_Outbox_init__ => k_is)
    (case i_Outbox_init_ => k_is)
    (case l_Outbox_init_ => k_is)
    (case e_Outbox_init_ => k_is)
    (case k_Outbox_init_ => k_is)
    (case a_Outbox_limit_ => k_is)
    (case pg_Outbox_limit => k_is)
    (case pt_Outbox_limit => k_is)
    (case rc_Outbox_limit => k_is)
    (case l_Outbox_limit => k_is)
    (case e_Outbox_limit => k_is)
    (case k_Outbox_limit => k_is)
    (case ty_Outbox_limit_set => k_is)
    (case rx_Outbox_limit_set => k_is)
    (case l_Outbox_limit_set => k_is)
    (case e_Outbox_limit_set => k_is)
    (case k_Outbox_limit_set => k_is)
    (case a_Outbox_free_ => k_is)
    (case pg_Outbox_free => k_is)
    (case pt_Outbox_free => k_is)
    (case rc_Outbox_free => k_is)
    (case l_Outbox_free => k_is)
    (case e_Outbox_free => k_is)
    (case k_Outbox_free => k_is)
    (case a_Outbox_bound_ => k_is)
    (case pg_Outbox_bound => k_is)
    (case pt_Outbox_bound => k_is)
    (case rc_Outbox_bound => k_is)
    (case l_Outbox_bound => k_is)
    (case e_Outbox_bound => k_is)
    (case k_Outbox_bound => k_is)
    (case a_Outbox_resize_ => k_is)
    (case i_Outbox_resize => k_is)
    (case l_Outbox_resize => k_is)
    (case e_Outbox_resize => k_is)
    (case k_Outbox_resize => k_is)
    (case a_Outbox_put_ => k_is)
    (case i_Outbox_put => k_is)
    (case l_Outbox_put => k_is)
    (case e_Outbox_put => k_is)
    (case k_Outbox_put => k_is)
    (case a_Outbox_urge_ => k_is)
    (case i_Outbox_urge => k_is)
    (case l_Outbox_urge => k_is)
    (case e_Outbox_urge => k_is)
    (case k_Outbox_urge => k_is)
    (case a_Outbox_shut_ => k_is)
    (case i_Outbox_shut => k_is)
    (case l_Outbox_shut => k_is)
    (case e_Outbox_shut => k_is)
    (case k_Outbox_shut => k_is)
    (case a_Outbox_cut_ => k_is)
    (case i_Outbox_cut => k_is)
    (case l_Outbox_cut => k_is)
    (case e_Outbox_cut => k_is)
    (case k_Outbox_cut => k_is)
    (case a_Outbox_release_ => k_is)
    (case i_Outbox_release => k_is)
    (case l_Outbox_release => k_is)
    (case e_Outbox_release => k_is)
    (case k_Outbox_release => k_is)
    (case a__law_box_ => k_is)
    (case l__law_box => k_is)
    (case e__law_box => k_is)
    (case k__law_box => k_is)
    (case a__law_draw_ => k_is)
    (case l__law_draw => k_is)
    (case e__law_draw => k_is)
    (case k__law_draw => k_is)
    (case a__law_is_whole_ => k_is)
    (case l__law_is_whole => k_is)
    (case e__law_is_whole => k_is)
    (case k__law_is_whole => k_is)
    (case a__law_limit_ => k_is)
    (case l__law_limit => k_is)
    (case e__law_limit => k_is)
    (case k__law_limit => k_is)
    (case a__law_bytes_ => k_is)
    (case l__law_bytes => k_is)
    (case e__law_bytes => k_is)
    (case k__law_bytes => k_is)
    (case a__law_bad_data_ => k_is)
    (case l__law_bad_data => k_is)
    (case e__law_bad_data => k_is)
    (case k__law_bad_data => k_is)
    (case a__law_state_ => k_is)
    (case l__law_state => k_is)
    (case e__law_state => k_is)
    (case k__law_state => k_is)
    (case a__law_tuple_is_ => k_is)
    (case l__law_tuple_is => k_is)
    (case e__law_tuple_is => k_is)
    (case k__law_tuple_is => k_is)
    (case a__law_only_ => k_is)
    (case l__law_only => k_is)
    (case e__law_only => k_is)
    (case k__law_only => k_is)
    (case a__law_adds_ => k_is)
    (case l__law_adds => k_is)
    (case e__law_adds => k_is)
    (case k__law_adds => k_is)
    (case a__law_data_refused_ => k_is)
    (case l__law_data_refused => k_is)
    (case e__law_data_refused => k_is)
    (case k__law_data_refused => k_is)
    (case a__law_cuts_ => k_is)
    (case l__law_cuts => k_is)
    (case e__law_cuts => k_is)
    (case k__law_cuts => k_is)
    (case a__law_cut_refused_ => k_is)
    (case l__law_cut_refused => k_is)
    (case e__law_cut_refused => k_is)
    (case k__law_cut_refused => k_is)
    (case a__law_releases_ => k_is)
    (case l__law_releases => k_is)
    (case e__law_releases => k_is)
    (case k__law_releases => k_is)
    (case a__law_release_refused_ => k_is)
    (case l__law_release_refused => k_is)
    (case e__law_release_refused => k_is)
    (case k__law_release_refused => k_is)
    (case a__law_limit_refused_ => k_is)
    (case l__law_limit_refused => k_is)
    (case e__law_limit_refused => k_is)
    (case k__law_limit_refused => k_is)
    (case a__law_deed_ => k_is)
    (case l__law_deed => k_is)
    (case e__law_deed => k_is)
    (case k__law_deed => k_is)
    (case a_law_ => k_is)
    (case l_law => k_is)
    (case e_law => k_is)
    (case k_law => k_is)
    (case Kv_InvalidNumber => kit_is)
    (case Kv_InvalidSetting => kit_is)
    (case Kv_NotAllowed => kit_is)
    (case z_ValueError => k_is)
    (case z_abs => k_is)
    (case z_bool => k_is)
    (case z_int => k_is)
    (case z_isinstance => k_is)
    (case z_len => k_is)
    (case z_list => k_is)
    (case z_max => k_is)
    (case z_min => k_is)
    (case z_property => k_is)
    (case z_range => k_is)
    (case z_repr => k_is)
    (case z_tuple => k_is)
    (case xm__InvalidNumber => decide +kernel)
    (case xm__InvalidSetting => decide +kernel)
    (case xm__NotAllowed => decide +kernel)
