import PyProof.Rows.All
import Wide.All
import OpenK.AllK
import Wide.FinOn
import HandS.ForMost
import HandS.IsInst
import HandS.ClsMeth
import HandS.Codes
import HandS.Exc
import HandS.ExcOwn
import HandS.ExcInit
import HandS.ExcField
import HandS.ExcIs
import HandS.TryMany
import HandS.WordsExc
import HandS.CallSlots
import HandS.More
import KE.KExcIs
import KE.GoesEnum
import KE.GoesMore
import HandS.Defaults
import HandS.Property
import HandS.Zip
import HandS.Text
import HandS.Wide
import PySem.Challenge.RW_lossway_k18_finder_steps
set_option Elab.async false
set_option maxRecDepth 100000
namespace My
open PySem L2
set_option linter.all false

/-! ### an own `in` -/
section
variable {X : Cx} {CX : CXT} {k : Nat} {C g : Addr} {fd : FuncData} {ps : List Str} {sp : Sp} {E : XK}
def rOwnIn (C : Addr) (m : Bool → Bool) (sp : Sp) (E : XK) : R2 := fun x y H Q => ∃ a dx fs, y = .ref a ∧ H a = some (.ins C dx fs) ∧ sp [.ref a, x] H (fun v H' => ∃ b, v = .bl b ∧ Q (.bl (m b)) H') E
theorem op_notInOwn (mm : Meth X.K C "__contains__" g) (F : FnOk X.prog X.w X.K X.mg X.base CX k g fd ps sp) (hr : Room k X.A) (hb : Binds X.K fd ps []) (hx : Passes CX X E) : OpR X (compareOp .NotIn) (rOwnIn C not sp E) := by
  intro pins s σ H x y v u Q I rx ry h
  obtain ⟨a, dx, fs, rfl, ha, q⟩ := h
  cases (show u = Value.ref a from ry)
  obtain ⟨mA, O, _⟩ := ins_get I.hok ha
  obtain ⟨od, J, _⟩ := O.look
  obtain ⟨m, hF⟩ := I.fr
  refine PySem.W.notIn_K hF I.ok.mod.kin J mm.at_ mm.fn ?_
  refine wpAny_mono (run_fn (us := [.ref a, v]) (vs := [.ref a, x]) (ds := []) (dvs := []) F hr hb .nil hx I (.cons rfl (.cons rx .nil)) q) (fun w s' z => ?_) fun _ _ x => x
  obtain ⟨z', H', I', rz, b, eb, qz⟩ := z
  subst eb
  cases (show w = Value.bool b from rz)
  exact wpAny_truthy_bool ⟨.bl (!b), H', I', rfl, qz⟩
theorem op_inOwn (mm : Meth X.K C "__contains__" g) (F : FnOk X.prog X.w X.K X.mg X.base CX k g fd ps sp) (hr : Room k X.A) (hb : Binds X.K fd ps []) (hx : Passes CX X E) : OpR X (compareOp .In) (rOwnIn C id sp E) := by
  intro pins s σ H x y v u Q I rx ry h
  obtain ⟨a, dx, fs, rfl, ha, q⟩ := h
  cases (show u = Value.ref a from ry)
  obtain ⟨mA, O, _⟩ := ins_get I.hok ha
  obtain ⟨od, J, _⟩ := O.look
  obtain ⟨m, hF⟩ := I.fr
  refine PySem.W.in_K hF I.ok.mod.kin J mm.at_ mm.fn ?_
  refine wpAny_mono (run_fn (us := [.ref a, v]) (vs := [.ref a, x]) (ds := []) (dvs := []) F hr hb .nil hx I (.cons rfl (.cons rx .nil)) q) (fun w s' z => ?_) fun _ _ x => x
  obtain ⟨z', H', I', rz, b, eb, qz⟩ := z
  subst eb
  cases (show w = Value.bool b from rz)
  exact wpAny_truthy_bool ⟨.bl b, H', I', rfl, qz⟩
end

/-! ### heaps -/
/-- all that was tracked stands, but what is at a -/
def SameX (a : Addr) (H H' : Hp) : Prop := ∀ b o, b ≠ a → H b = some o → H' b = some o
theorem SameX.refl {a : Addr} {H : Hp} : SameX a H H := fun _ _ _ h => h
theorem SameX.trans {a : Addr} {H H1 H2 : Hp} (x : SameX a H H1) (y : SameX a H1 H2) : SameX a H H2 := fun b o n h => y b o n (x b o n h)
theorem SameX.upd {a : Addr} {H : Hp} {o : HO} : SameX a H (L2.upd H a o) := fun b _ n h => by
  rw [upd_ne n]
  exact h
theorem SameX.upd' {a : Addr} {H H1 : Hp} {o : HO} (x : SameX a H H1) : SameX a H (L2.upd H1 a o) := x.trans .upd
theorem SameX.of {a : Addr} {H H1 : Hp} (x : Same H H1) : SameX a H H1 := fun b o _ h => x b o h
theorem Same.new {H : Hp} {p : Addr} {o : HO} (h : H p = none) : Same H (upd H p o) := fun b u e => by
  rw [upd_ne (ne_of_none e h)]
  exact e
theorem SqL.now {K : PySem.W.Frag} {H : Hp} {a : Addr} {xs : List V} (h : H a = some (.lst xs)) : SqL K H a xs := SqL.of h

/-! ### the purse -/
/-- a purse's rows -/
def pur (c : Addr) (p r n s : Int) : List V := [.ref c, .int p, .int r, .int n, .int s]
structure Purse (a c : Addr) (H : Hp) : Prop where
  ex : ∃ (cs : List Int) (p : Nat) (r n s : Int), H a = some (.lst (pur c p r n s)) ∧ H c = some (.lst (cs.map V.int)) ∧ (∀ x ∈ cs, 0 ≤ x) ∧ p ≤ cs.length ∧ cs.length ≤ 63 ∧ 0 ≤ r ∧ 0 ≤ s ∧ s < 2147483647
theorem pur_ne {H : Hp} {a c c' : Addr} {p r n s : Int} {cs : List Int} (h : H a = some (.lst (pur c p r n s))) (h' : H c' = some (.lst (cs.map V.int))) : c' ≠ a := ne_of h' h (by
  intro e
  injection e with e
  cases cs with
  | nil => cases e
  | cons x r => injection e with e1 _; cases e1)
theorem lk1 {m f : Str} {v : V} (h : (m == f) = false) : List.lookup m [(f, v)] = none := by
  simp only [List.lookup, h]
theorem bl_t {p : Prop} [Decidable p] (h : p) : V.bl (decide p) = V.bl true := congrArg V.bl (decide_eq_true h)
theorem bl_f {p : Prop} [Decidable p] (h : ¬ p) : V.bl (decide p) = V.bl false := congrArg V.bl (decide_eq_false h)
theorem bln_t {p : Prop} [Decidable p] (h : p) : V.bl (!decide p) = V.bl false := by rw [decide_eq_true h]; rfl
theorem bln_f {p : Prop} [Decidable p] (h : ¬ p) : V.bl (!decide p) = V.bl true := by rw [decide_eq_false h]; rfl
theorem int_ne {a b : Int} (h : ¬ a = b) : ¬ V.int a = V.int b := fun e => h (V.int.inj e)
theorem int_eq {a b : Int} (h : a = b) : V.int a = V.int b := congrArg V.int h

theorem Purse.there {a c : Addr} {H : Hp} (P : Purse a c H) : (∃ xs, H a = some (.lst xs)) ∧ ∃ ys, H c = some (.lst ys) := by
  obtain ⟨cs, p, r, n, s, h1, h2, _⟩ := P.ex
  exact ⟨⟨_, h1⟩, _, h2⟩
/-- a purse stands where both of its lists stand -/
theorem Purse.keep {a c : Addr} {H H' : Hp} (P : Purse a c H) (h : H' a = H a) (h' : H' c = H c) : Purse a c H' := by
  obtain ⟨cs, p, r, n, s, h1, h2, q⟩ := P.ex
  exact ⟨cs, p, r, n, s, h.trans h1, h'.trans h2, q⟩
theorem Purse.same {a c : Addr} {H H' : Hp} (P : Purse a c H) (s : Same H H') : Purse a c H' := by
  obtain ⟨cs, p, r, n, z, h1, h2, q⟩ := P.ex
  exact ⟨cs, p, r, n, z, s _ _ h1, s _ _ h2, q⟩
theorem Purse.on {a c b : Addr} {H H' : Hp} (P : Purse a c H) (s : SameX b H H') (na : a ≠ b) (nc : c ≠ b) : Purse a c H' := by
  obtain ⟨cs, p, r, n, z, h1, h2, q⟩ := P.ex
  exact ⟨cs, p, r, n, z, s _ _ na h1, s _ _ nc h2, q⟩
theorem small1000' {n : Nat} (h : n < 100000) : n < sizeLine := Nat.lt_of_lt_of_le h (by decide)
theorem sqT_sm {K : PySem.W.Frag} {H H' : Hp} {a : Addr} {xs : List V} (h : SqT K H a xs) (s : Same H H') : SqT K H' a xs := by
  rcases h with (h | ⟨o, h⟩) | h
  · exact .inl (.inl (s _ _ h))
  · exact .inl (.inr ⟨o, s _ _ h⟩)
  · exact .inr h
/-! ### several except clauses, each with or without a name -/
section
open PySem.Spec PyProof.Rows
variable {X : Cx}
/-- a clause: its class, the slot of its name, its suite -/
abbrev Cl := Value × Option Nat × (Addr → Value → Option Addr → TS)
def unN (D : Ends) (i : Nat) : Ends := { nx := fun σ H => D.nx (σ.set i none) H, rt := D.rt, bk := fun σ H => D.bk (σ.set i none) H, ct := fun σ H => D.ct (σ.set i none) H }
def clGo (D : Ends) (o : Option Nat) (t : TS) (a : Addr) (σ : L2.St) (H : Hp) : Prop := match o with
  | none => t D σ H
  | some i => t (unN D i) (σ.set i (some (.ref a))) H
def wCl (K : PySem.W.Frag) (Wout : WX) (D : Ends) : List Cl → WX
  | [] => Wout
  | (c, o, ts) :: r => fun cls d σ H => ∃ b, PySem.W.exmOne K cls c = some b ∧ (b = true → ∀ a, H a = none → clGo D o (ts a cls d) a σ H) ∧ (b = false → wCl K Wout D r cls d σ H)
inductive ClOk (X : Cx) : List ExceptHandler → List Cl → Prop
  | nil : ClOk X [] []
  | bare {x : Str} {c : Value} {ts : Addr → Value → Option Addr → TS} {b0 : Stmt} {su : List Stmt} {np ps : Pos} {hs : List ExceptHandler} {l : List Cl} (nm : Names X x c)
      (ok : ∀ (a : Addr) (oe : Obj) (cls : Value) (d : Option Addr) (pn : List (Addr × Obj)), Zc cls d oe → (∃ vs, oe.data = .fields vs) → PSs (X.suite a ((a, oe) :: pn)) (b0 :: su) (ts a cls d)) (rest : ClOk X hs l) :
      ClOk X (.ExceptHandler (some (.Name x np)) none (b0 :: su) ps :: hs) ((c, none, ts) :: l)
  | named {x n : Str} {i : Nat} {c : Value} {ts : Addr → Value → Option Addr → TS} {b0 : Stmt} {su : List Stmt} {np ps : Pos} {hs : List ExceptHandler} {l : List Cl} (nd : X.N.Nodup) (hi : X.N[i]? = some n) (lc : X.env.kindOf n = some .local) (nm : Names X x c)
      (ok : ∀ (a : Addr) (oe : Obj) (cls : Value) (d : Option Addr) (pn : List (Addr × Obj)), Zc cls d oe → (∃ vs, oe.data = .fields vs) → PSs (X.suite a ((a, oe) :: pn)) (b0 :: su) (ts a cls d)) (rest : ClOk X hs l) :
      ClOk X (.ExceptHandler (some (.Name x np)) (some n) (b0 :: su) ps :: hs) ((c, some i, ts) :: l)
theorem ps_try_cl {body : List Stmt} {h0 : ExceptHandler} {hs : List ExceptHandler} {l : List Cl} {pos : Pos} {tb : WX → TS} {Wout : WX} (st : X.stack = X.env :: X.outer) (fr : X.env.frame = some X.env.locals) (tk : Takes X Wout)
    (hb : ∀ (W : WX) (pn : List (Addr × Obj)) (xe : Value → Shared → Prop), Takes (X.tr pn xe) W → PassesOwn (model X.prog X.w) X.A X.env xe → PSs (X.tr pn xe) body (tb W))
    (hh : ClOk X (h0 :: hs) l) : PS X (.Try body (h0 :: hs) [] [] pos) (fun D σ H => tb (wCl X.K Wout D l) D σ H) := by
  refine ⟨fun pins s σ H D I h => ?_⟩
  have ok := I.ok
  have frs0 : X.A.frames = some (X.env :: X.outer) := by
    rw [ok.frames, st]
  refine wpAny_Try_except (wpAny_mono ((hb (wCl X.K Wout D l) (X.pn ++ pins) (fun e t1 => wpAny (model X.prog X.w) X.A (noteFrame e X.env) (fun _ t2 =>
    wpAny (model X.prog X.w) X.A (setFlight e none) (fun _ t3 => wpAny (model X.prog X.w) X.A (handleBy e X.env (h0 :: hs)) (SP X pins D) X.xe t3) X.xe t2) X.xe t1)
      (fun u s' xx => ?_) PassesOwn.looking).run [] s σ H D (I.toTry _) h) (fun f s1 hsp => ?_) (fun _ _ z => z))
  · obtain ⟨a, B, sI, pins', σ', H', cls, d, rfl, J', nb, up, sky, na, os, ag, w⟩ := xx
    have J := J'.ofTry ok
    have sky2 : Sky B (X.env :: X.outer) a (Zc cls d) X.env.locals s'.heap := by
      rw [← st]
      exact sky
    refine Sky.land Zc.steady frs0 fr sky2 fun g1 fl1 up1 => ?_
    have J1 : Inv X pins σ' H' { s' with heap := g1 } := J.landed nb fl1.1 (up.trans up1) os ag
    obtain ⟨o1, vs1, at1, z1, dt1⟩ := fl1.there
    have off : a ∉ frs (X.env :: X.outer) := fun hm => by
      obtain ⟨_, o', e', hnf⟩ := fl1.2.2.1.mem hm
      rw [at1] at e'
      cases e'
      exact hnf _ dt1
    have offL : a ≠ X.env.locals := fun z => off (List.mem_filterMap.mpr ⟨X.env, List.mem_cons_self, by rw [fr, z]⟩)
    have offF : a ∉ X.fs := fun hm => by
      obtain ⟨e, he, q⟩ := List.mem_filterMap.mp hm
      exact off (List.mem_filterMap.mpr ⟨e, List.mem_cons_of_mem _ he, q⟩)
    have S1 := J1.suite at1 dt1 na offL offF
    have LT : PySem.W.Looks (model X.prog X.w) g1 (typeOf (.ref a)) cls := fun A Q E s k q => wpAny_typeOf_ref (k _ _ at1) (by rw [z1.1]; exact q)
    have ask : ∀ {x : Str} {np : Pos} {c : Value}, Names X x c → ∀ {Q : Value → Shared → Prop} {E : Value → Shared → Prop}, Q c { s' with heap := g1 } →
        wpAny (model X.prog X.w) (X.A.mark (some (.ref a))) (eval (.Name x np) X.env) Q E { s' with heap := g1 } := fun {x np c} nm {Q E} q => by
      obtain ⟨hg, hdb, h1 | ⟨h1, h2, h3⟩⟩ := nm
      · exact ld_glob (X := X.suite a ((a, o1) :: (X.pn ++ pins))) S1 hg h1 q hdb
      · exact ld_blt (X := X.suite a ((a, o1) :: (X.pn ++ pins))) S1 hg h1 h2 q h3 hdb
    have go : ∀ {hs' : List ExceptHandler} {l' : List Cl}, ClOk X hs' l' → wCl X.K Wout D l' cls d σ' H' → wpAny (model X.prog X.w) X.A (handleBy (.ref a) X.env hs') (SP X pins D) X.xe { s' with heap := g1 } := by
      intro hs' l' hk
      induction hk with
      | nil =>
        intro w
        refine wpAny_handleBy_nil ?_
        obtain ⟨_, _, _, oe, vs, Tr, _, _, he, hz, hd, h1, _⟩ := id fl1
        unfold PySem.passOn
        refine wpAny_bind (wpAny_field he hd h1 ?_)
        rw [if_neg (show ¬ ((Value.ref Tr == Value.none) = true) from by simp)]
        have last : wpAny (model X.prog X.w) X.A (setFlight (.ref a) X.env.frame) (fun _ t => wpAny (model X.prog X.w) X.A (throw (.ref a) : Sem Flow) (SP X pins D) X.xe t) X.xe { s' with heap := g1 } := by
          rw [fr]
          refine HandSPX.setFlight_upZ fl1 fun g2 hh2 up2 => wpAny_throw (tk _ _ ?_)
          exact ⟨a, B, sI, pins, σ', H', cls, d, rfl, J, nb, (up.trans up1).trans up2, .inr (.inr (by rw [st]; exact hh2)), na, os, ag, w⟩
        first
          | exact wpAny_bind (wpAny_pure (wpAny_bind last))
          | exact wpAny_bind last
      | bare nm su rest ih =>
        intro w
        obtain ⟨b, hb1, yes, no⟩ := w
        have LM := PySem.W.exm_one (M := model X.prog X.w) J1.kIn LT hb1
        refine wpAny_handleBy_cons (codeAny_handlers_test (ask nm (LM.here ?_))) (fun q => by cases q)
        cases b with
        | false => exact ih (no rfl)
        | true =>
          refine codeAny_handlers_suite (HandSPX.lands_againZ fl1 fun g2 fl2 up2 => ?_)
          have J2 : Inv X pins σ' H' { s' with heap := g2 } := J.landed nb fl2.1 ((up.trans up1).trans up2) os ag
          obtain ⟨o2, vs2, at2, z2, dt2⟩ := fl2.there
          refine wpAny_mono ((su a o2 cls d (X.pn ++ pins) z2 ⟨_, dt2⟩).run [] _ _ H' _ (J2.suite at2 dt2 na offL offF) (yes rfl a na)) (fun f t hsp => ?_) (fun _ _ z => z.elim)
          cases f with
          | ret u =>
            obtain ⟨v6, σ6, H6, S6, r6, q6⟩ := hsp
            exact ⟨_, _, _, S6.unsuite ok, r6, q6⟩
          | next => exact let ⟨_, _, S6, q6⟩ := hsp; ⟨_, _, S6.unsuite ok, q6⟩
          | brk => exact let ⟨_, _, S6, q6⟩ := hsp; ⟨_, _, S6.unsuite ok, q6⟩
          | cont => exact let ⟨_, _, S6, q6⟩ := hsp; ⟨_, _, S6.unsuite ok, q6⟩
      | named nd hi lc nm su rest ih =>
        intro w
        obtain ⟨b, hb1, yes, no⟩ := w
        have LM := PySem.W.exm_one (M := model X.prog X.w) J1.kIn LT hb1
        refine wpAny_handleBy_cons (codeAny_handlers_test (ask nm (LM.here ?_))) (fun q => by cases q)
        cases b with
        | false => exact ih (no rfl)
        | true =>
          refine codeAny_handlers_suite_as (HandSPX.lands_againZ fl1 fun g2 fl2 up2 => ?_)
          have J2 : Inv X pins σ' H' { s' with heap := g2 } := J.landed nb fl2.1 ((up.trans up1).trans up2) os ag
          obtain ⟨o2, vs2, at2, z2, dt2⟩ := fl2.there
          refine store_ok (X := X.suite a ((a, o2) :: (X.pn ++ pins))) (v := .ref a) (J2.suite at2 dt2 na offL offF) nd hi (.inl lc) rfl (fun t S5 => ?_) (.inr lc)
          refine wpAny_mono ((su a o2 cls d (X.pn ++ pins) z2 ⟨_, dt2⟩).run [] t _ H' _ S5 (yes rfl a na)) (fun f t6 hsp => ?_) (fun _ _ z => z.elim)
          cases f with
          | next =>
            obtain ⟨σ6, H6, S6, q6⟩ := hsp
            exact gone_ok (S6.unsuite ok) nd hi lc fun s7 J7 => ⟨_, _, J7, q6⟩
          | brk =>
            obtain ⟨σ6, H6, S6, q6⟩ := hsp
            exact gone_ok (S6.unsuite ok) nd hi lc fun s7 J7 => ⟨_, _, J7, q6⟩
          | cont =>
            obtain ⟨σ6, H6, S6, q6⟩ := hsp
            exact gone_ok (S6.unsuite ok) nd hi lc fun s7 J7 => ⟨_, _, J7, q6⟩
          | ret u =>
            obtain ⟨v6, σ6, H6, S6, r6, q6⟩ := hsp
            exact gone_ok (S6.unsuite ok) nd hi lc fun s7 J7 => ⟨_, _, _, J7, r6, q6⟩
    exact go hh w
  · cases f with
    | ret u => exact let ⟨v, σ', H', J', r, q⟩ := hsp; ⟨v, σ', H', J'.ofTry ok, r, q⟩
    | next =>
      obtain ⟨σ', H', J', q⟩ := hsp
      exact wpAny_execs_nil ⟨σ', H', J'.ofTry ok, q⟩
    | brk => exact let ⟨σ', H', J', q⟩ := hsp; ⟨σ', H', J'.ofTry ok, q⟩
    | cont => exact let ⟨σ', H', J', q⟩ := hsp; ⟨σ', H', J'.ofTry ok, q⟩
end
/-! ### own exceptions -/
/-- what the written part says of an own exception class: the class at C, its __init__ at f -/
structure XCls (K : PySem.W.Frag) (mg : Str → Option Value) (nm : Str) (C f : Addr) : Prop where
  g : mg nm = some (.ref C)
  o : OexC K C
  i : PySem.W.findIn K (.ref C) "__init__" = some (some (.ref f))
  t : PySem.W.typeIn K (.ref f) = some (.type "function")
  x : XfC K C
  e : ExcC K C
theorem xcls_mk {K : PySem.W.Frag} {mg : Str → Option Value} {nm : Str} {C f : Addr} {n q : Str} {N : Addr} {bs bm : List Value} {sn : List Str} {sub : List Value} {ab : Bool} {col : _} {dd : Option Addr} {k0 k1 k2 k3 k5 : Option Value}
    (g : mg nm = some (.ref C)) (l : K.lookup C = some (excClassObj n q C N bs bm true sn sub ab col dd k0 k1 k2 k3 k5 "ValueError.__new__")) (bm' : PySem.HandSPX.refsVE bm = true) (sa : PySem.W.findIn K (.ref C) "__setattr__" = some (some (.builtin "object.__setattr__")))
    (ex : PySem.W.subIn K (.ref C) (.type "BaseException") = some true) (ty : PySem.W.typeIn K (.ref C) = some (.type "type")) (kp : PySem.W.keepIn K (.ref C) = true) (i : PySem.W.findIn K (.ref C) "__init__" = some (some (.ref f)))
    (t : PySem.W.typeIn K (.ref f) = some (.type "function")) (ga : PySem.W.findIn K (.ref C) "__getattribute__" = some (some (.builtin "BaseException.__getattribute__"))) (gg : PySem.W.findIn K (.ref C) "__getattr__" = some none) (hd : PySem.W.hasDictIn K C = true)
    (ha : PySem.W.findIn K (.ref C) "__class__" = some (some (.builtin "object.__class__"))) (hn : PySem.W.specialIn K (.builtin "object.__class__") "__get__" = some (some (.builtin "getset_descriptor.__get__")))
    (ht : PySem.W.takesIn K (.builtin "object.__class__") = some true) (hm : PySem.W.mroIn K C (.type "object") = some true) : XCls K mg nm C f :=
  ⟨g, ⟨⟨n, q, N, bs, bm, sn, sub, ab, col, dd, k0, k1, k2, k3, k5, l, bm'⟩, sa, ex, ty, kp⟩, i, t, ⟨ga, gg, ex, hd⟩, ⟨ga, gg, ex, hd, ha, hn, ht, hm⟩⟩
/-- __init__ of such a class: one field is stored -/
def sp_xinit (K : PySem.W.Frag) (f : Str) : Sp := fun vs H Q _ => ∃ (a C : Addr) (v : V), vs = [.ref a, v] ∧ OexC K C ∧ PySem.W.findIn K (.ref C) f = some none ∧ H a = some (exo a C none) ∧
  ∀ dx, H dx = none → dx ≠ a → Q .non (upd (upd H dx (exd dx [(f, v)])) a (exo a C (some dx)))
/-- raise C(v): what follows holds wherever the new error's dict is told, all else standing -/
theorem mkO_of {K : PySem.W.Frag} {f : Str} {C : Addr} {v : V} {H : Hp} {E : XK} (O : OexC K C) (hn : PySem.W.findIn K (.ref C) f = some none) (k : ∀ d H', H d = none → Same H H' → H' d = some (.xd [(f, v)]) → E (.ref C) (some d) H') :
    [v].length ≤ 1000 ∧ ∀ a, H a = none → sp_xinit K f (.ref a :: ([v] ++ [])) (upd H a (exo a C none))
      (fun w H2 => w = .non ∧ ∃ (d : Addr) (fs : List (Str × V)), H2 a = some (exo a C (some d)) ∧ H2 d = some (exd d fs) ∧ H d = none ∧ E (.ref C) (some d) (upd (del H2 a) d (.xd fs))) (fun _ _ _ => False) := by
  refine ⟨Nat.succ_le_succ (Nat.zero_le _), fun a ha => ⟨a, C, v, rfl, O, hn, upd_same, fun dx hdx ne => ⟨rfl, dx, [(f, v)], upd_same, ?_, ?_, ?_⟩⟩⟩
  · rw [upd_ne ne]
    exact upd_same
  · rw [upd_ne ne] at hdx
    exact hdx
  · have hdx0 : H dx = none := by
      rw [upd_ne ne] at hdx
      exact hdx
    refine k dx _ hdx0 (fun b o e => ?_) upd_same
    have nb : b ≠ dx := ne_of_none e hdx0
    have na : b ≠ a := ne_of_none e ha
    rw [upd_ne nb, del_ne na, upd_ne na, upd_ne nb, upd_ne na]
    exact e
section
variable {X : Cx} {a : Addr} {oe : Obj} {cls : Value} {d : Option Addr} {pn : List (Addr × Obj)} {n : Str}
/-- e.n in a suite, e of whichever class it is -/
def tXg (K : PySem.W.Frag) (a : Addr) (cls : Value) (d : Option Addr) (f : Str) (te : TE) : TE := fun σ H Q => te σ H fun x H1 => x = .ref a ∧ ∃ (C dd : Addr) (fs : List (Str × V)) (v : V), cls = .ref C ∧ XfC K C ∧ PySem.W.findIn K (.ref C) f = some none ∧ d = some dd ∧ H1 dd = some (.xd fs) ∧ fs.lookup f = some v ∧ Q v H1
theorem pe_xg {e : Expr} {te : TE} {pos : Pos} (hz : Zc cls d oe) (hf : ∃ vs, oe.data = .fields vs) (he : PE (X.suite a ((a, oe) :: pn)) e te)
    (hb : attributeBase e n X.env (eval e X.env) = eval e X.env := by rfl) : PE (X.suite a ((a, oe) :: pn)) (.Attribute e n pos) (tXg X.K a cls d n te) := by
  refine ⟨fun pins s σ H Q I h => ?_⟩
  refine attr_of hb (thn (he.run pins s σ H _ I h) fun u s1 hh => ?_)
  obtain ⟨x, H1, I1, rx, ex, C, dd, fs, v, ec, T, hno, ed, ea, l, q⟩ := hh
  subst ex ec ed
  obtain rfl : u = Value.ref a := rx
  obtain ⟨mA, hns, hr⟩ := (show ObjOk X.prog X.w H1 s1.heap dd (.xd fs) from I1.hok dd _ ea)
  obtain ⟨od, ho, hl⟩ := lookIn_ns hns
  obtain ⟨u, hu, ru⟩ := RelO.some_of (v := v) (o := mA n) (by rw [← l]; exact hr n)
  obtain ⟨vs, hv⟩ := hf
  have J : PySem.W.InstAt s1.heap a oe C (some od) := ⟨(I1.pin (a, oe) (List.mem_append_left _ List.mem_cons_self)).1, hz.1, by unfold PySem.W.notCls; rw [hv] <;> rfl, by rw [hz.2]; exact ho⟩
  exact PySem.HandSPX.exc_get I1.kIn J T.ga T.gg T.exC (PySem.W.findObj_own T.hdC hno rfl (by rw [hl, hu])) (handed_of ru) ⟨v, H1, I1.tok _, ru, q⟩
/-- isinstance(e, c) in a suite -/
def rIsX (K : PySem.W.Frag) (a : Addr) (cls : Value) (d : Option Addr) : List V → Hp → VK → Prop := fun xs H Q => ∃ (c : V) (cv : Value) (b : Bool) (D dd : Addr) (fs : List (Str × V)), xs = [.ref a, c] ∧ (∀ u, RelV c u → u = cv) ∧ cls = .ref D ∧ ExcC K D ∧ d = some dd ∧ H dd = some (.xd fs) ∧
  PySem.W.kitOne K (.ref D) cv = some b ∧ Q (.bl b) H
theorem call_isX (hz : Zc cls d oe) (hf : ∃ vs, oe.data = .fields vs) : CallR (X.suite a ((a, oe) :: pn)) (.builtin "isinstance") (rIsX X.K a cls d) := by
  intro pins s σ H xs us Q I r h
  obtain ⟨c, cv, b, D, dd, fs, rfl, hcv, ec, C, ed, ea, e, q⟩ := h
  subst ec ed
  obtain ⟨u1, u2, rfl, r1, r2⟩ := vals2 r
  cases (show u1 = Value.ref a from r1)
  cases (hcv _ r2)
  obtain ⟨mA, hns, hr⟩ := (show ObjOk X.prog X.w H s.heap dd (.xd fs) from I.hok dd _ ea)
  obtain ⟨od, ho, hl⟩ := lookIn_ns hns
  obtain ⟨vs, hv⟩ := hf
  have J : PySem.W.InstAt s.heap a oe D (some od) := ⟨(I.pin (a, oe) (List.mem_append_left _ List.mem_cons_self)).1, hz.1, by unfold PySem.W.notCls; rw [hv] <;> rfl, by rw [hz.2]; exact ho⟩
  obtain ⟨cd, hc, _⟩ := PySem.W.any_some C.hd
  exact PySem.W.kia_one (PySem.W.kitx_exc (by rw [hc]; rfl) C.hg C.hk C.hs C.ha C.hn C.ht C.hm) I.kIn J e (fun z => nomatch z) fun tk => ⟨.bl b, H, I.tok tk, rfl, q⟩
end
section
variable {X : Cx} {CX' : CXT} {k : Nat} {f C : Addr} {fd : FuncData} {ps : List Str} {sp : Sp} {E : St → XK} {x m : Str} {p pos apos : Pos} {e o : Expr} {es : List Expr} {ta : TE} {t : TA}
/-- o.m(..), what it lets out wished for at the caller's slots -/
def tMethX (C : Addr) (m : Str) (sp : Sp) (E : St → XK) (ta : TE) (t : TA) : TE := fun σ H Q => ta σ H fun x H1 => ∃ a dx fs, x = .ref a ∧ H1 a = some (.ins C dx fs) ∧ fs.lookup m = none ∧ t σ H1 fun vs H2 => sp (x :: vs) H2 Q (E σ)
theorem pe_methX {pl : Sem Bool} (he : PE X o ta) (c : Cls X.K C) (hm : Meth X.K C m f) (F : FnOk X.prog X.w X.K X.mg X.base CX' k f fd ps sp) (hr : Room k X.A) (hb : Binds X.K fd ps []) (hx : ∀ σ, PassesAt CX' X σ (E σ)) (ha : PA X (e :: es) t)
    (hst : starEach (e :: es) X.env = (false, eval e X.env) :: starEach es X.env := by rfl) (hpl : (PySem.backTo pos (starEach es X.env)).any (·.1) = false := by rfl)
    (ht : eval (.Call (.Attribute o m apos) (e :: es) [] pos) X.env = (eval o X.env >>= fun ov => standAt apos.atName >>= fun _ => holding [ov] (getMethod ov m pl) >>= fun fr => callWith pos fr.1 fr.2 (PySem.backTo pos (starEach (e :: es) X.env)) (backToKw pos (keywordEach [] X.env))) := by rfl) :
    PE X (.Call (.Attribute o m apos) (e :: es) [] pos) (tMethX C m sp E ta t) := by
  refine ⟨fun pins s σ H Q I h => ?_⟩
  refine PySem.W.methodCall_KW (pl := pl) (thn (he.run pins s σ H _ I h) fun u s1 ⟨x, H1, I1, rx, a, dx, fs, ex, ea, l, q⟩ => ?_) ht
  subst ex
  obtain rfl : u = Value.ref a := rx
  refine getmeth_ok I1 ea c hm l ?_
  refine PySem.W.callWith_K (h₀ := X.base) I1.ok.mod.kin hm.kp (thn (ha.run pos pins s1 σ H1 _ I1 q) fun us s2 ⟨vs, H2, I2, r, q2⟩ => ⟨I2.kIn, ?_⟩) hst hpl
  exact run_fnS (us := .ref a :: us) (vs := .ref a :: vs) F hr hb (hx σ) I2 (.cons rfl r) q2
end
/-- a class that is only named -/
structure GCls (mg : Str → Option Value) (nm : Str) (C : Addr) : Prop where
  g : mg nm = some (.ref C)
/-- what a callee lets out, whatever the slots hold -/
def anyW (n : Nat) (W : WX) : XK := fun cls d H => ∀ σ : L2.St, σ.length = n → W cls d σ H
theorem passes_any {X : Cx} {W : WX} (n : Nat) (tk : Takes X W) (hn : X.N.length = n := by rfl) : Passes (L2.CX X.prog X.w) X (anyW n W) :=
  fun _ σ _ _ e s' I c => tk e s' (XE.of_call I (fun cls d H' h => h σ (I.len.trans hn)) c)
def top (i : Nat) : Stmt := PySem.Challenge.pw_lossway_k18_finder_steps.main.body.getD i (.Pass ⟨0, 0, 0, 0⟩)
abbrev s_InvalidNumber_init_ : Stmt := inClass (top 3) 0
theorem st_InvalidNumber_init_ {t : TS} {D : Ends} {H : Hp} {v0 v1 : V} (h : t D [some v0, some v1] H) : t D (L2.start ["self", "number"] [v0, v1]) H := h
theorem sc_InvalidNumber_init_ : FnScope ["self", "number"] ["self", "number"] (defScope s_InvalidNumber_init_) := ⟨rfl, rfl, rfl, by decide +kernel, rfl, by decide +kernel, by decide +kernel⟩
abbrev s_InvalidSetting_init_ : Stmt := inClass (top 4) 0
theorem st_InvalidSetting_init_ {t : TS} {D : Ends} {H : Hp} {v0 v1 : V} (h : t D [some v0, some v1] H) : t D (L2.start ["self", "setting"] [v0, v1]) H := h
theorem sc_InvalidSetting_init_ : FnScope ["self", "setting"] ["self", "setting"] (defScope s_InvalidSetting_init_) := ⟨rfl, rfl, rfl, by decide +kernel, rfl, by decide +kernel, by decide +kernel⟩
abbrev s_is_integer : Stmt := top 6
theorem st_is_integer {t : TS} {D : Ends} {H : Hp} {v0 : V} (h : t D [some v0] H) : t D (L2.start ["value"] [v0]) H := h
theorem sc_is_integer : FnScope ["value"] ["value"] (defScope s_is_integer) := ⟨rfl, rfl, rfl, by decide +kernel, rfl, by decide +kernel, by decide +kernel⟩
abbrev s_is_between : Stmt := top 7
theorem st_is_between {t : TS} {D : Ends} {H : Hp} {v0 v1 v2 : V} (h : t D [some v0, some v1, some v2] H) : t D (L2.start ["value", "low", "high"] [v0, v1, v2]) H := h
theorem sc_is_between : FnScope ["value", "low", "high"] ["value", "low", "high"] (defScope s_is_between) := ⟨rfl, rfl, rfl, by decide +kernel, rfl, by decide +kernel, by decide +kernel⟩
abbrev s_is_at_least : Stmt := top 8
theorem st_is_at_least {t : TS} {D : Ends} {H : Hp} {v0 v1 : V} (h : t D [some v0, some v1] H) : t D (L2.start ["value", "low"] [v0, v1]) H := h
theorem sc_is_at_least : FnScope ["value", "low"] ["value", "low"] (defScope s_is_at_least) := ⟨rfl, rfl, rfl, by decide +kernel, rfl, by decide +kernel, by decide +kernel⟩
abbrev s_require_count : Stmt := top 12
theorem st_require_count {t : TS} {D : Ends} {H : Hp} {v0 : V} (h : t D [some v0] H) : t D (L2.start ["count"] [v0]) H := h
theorem sc_require_count : FnScope ["count"] ["count"] (defScope s_require_count) := ⟨rfl, rfl, rfl, by decide +kernel, rfl, by decide +kernel, by decide +kernel⟩
abbrev s_Finder_init_ : Stmt := inClass (top 13) 0
theorem st_Finder_init_ {t : TS} {D : Ends} {H : Hp} {v0 v1 v2 : V} (h : t D [some v0, some v1, some v2] H) : t D (L2.start ["self", "low", "high"] [v0, v1, v2]) H := h
theorem sc_Finder_init_ : FnScope ["self", "low", "high"] ["self", "low", "high"] (defScope s_Finder_init_) := ⟨rfl, rfl, rfl, by decide +kernel, rfl, by decide +kernel, by decide +kernel⟩
abbrev s_Finder_trial : Stmt := inClass (top 13) 1
theorem st_Finder_trial {t : TS} {D : Ends} {H : Hp} {v0 : V} (h : t D [some v0] H) : t D (L2.start ["self"] [v0]) H := h
theorem sc_Finder_trial : FnScope ["self"] ["self"] (defScope s_Finder_trial) := ⟨rfl, rfl, rfl, by decide +kernel, rfl, by decide +kernel, by decide +kernel⟩
abbrev s_Finder_passed : Stmt := inClass (top 13) 2
theorem st_Finder_passed {t : TS} {D : Ends} {H : Hp} {v0 v1 : V} (h : t D [some v0, some v1] H) : t D (L2.start ["self", "count"] [v0, v1]) H := h
theorem sc_Finder_passed : FnScope ["self", "count"] ["self", "count"] (defScope s_Finder_passed) := ⟨rfl, rfl, rfl, by decide +kernel, rfl, by decide +kernel, by decide +kernel⟩
abbrev s_Finder_failed : Stmt := inClass (top 13) 3
theorem st_Finder_failed {t : TS} {D : Ends} {H : Hp} {v0 v1 : V} (h : t D [some v0, some v1] H) : t D (L2.start ["self", "count"] [v0, v1]) H := h
theorem sc_Finder_failed : FnScope ["self", "count"] ["self", "count"] (defScope s_Finder_failed) := ⟨rfl, rfl, rfl, by decide +kernel, rfl, by decide +kernel, by decide +kernel⟩
abbrev s_Finder_copied : Stmt := inClass (top 13) 4
theorem st_Finder_copied {t : TS} {D : Ends} {H : Hp} {v0 : V} (h : t D [some v0] H) : t D (L2.start ["self"] [v0]) H := h
theorem sc_Finder_copied : FnScope ["self"] ["self"] (defScope s_Finder_copied) := ⟨rfl, rfl, rfl, by decide +kernel, rfl, by decide +kernel, by decide +kernel⟩
abbrev s__law_whole : Stmt := top 15
theorem st__law_whole {t : TS} {D : Ends} {H : Hp} {v0 : V} (h : t D [some v0] H) : t D (L2.start ["value"] [v0]) H := h
theorem sc__law_whole : FnScope ["value"] ["value"] (defScope s__law_whole) := ⟨rfl, rfl, rfl, by decide +kernel, rfl, by decide +kernel, by decide +kernel⟩
abbrev s__law_bag : Stmt := top 16
theorem st__law_bag {t : TS} {D : Ends} {H : Hp} {v0 : V} (h : t D [some v0, none, none, none] H) : t D (L2.start ["script", "great", "cells", "cell"] [v0]) H := h
theorem sc__law_bag : FnScope ["script", "great", "cells", "cell"] ["script"] (defScope s__law_bag) := ⟨rfl, rfl, rfl, by decide +kernel, rfl, by decide +kernel, by decide +kernel⟩
abbrev s__law_take : Stmt := top 17
theorem st__law_take {t : TS} {D : Ends} {H : Hp} {v0 v1 : V} (h : t D [some v0, some v1, none, none, none, none] H) : t D (L2.start ["bag", "many", "left", "cell", "one", "two"] [v0, v1]) H := h
theorem sc__law_take : FnScope ["bag", "many", "left", "cell", "one", "two"] ["bag", "many"] (defScope s__law_take) := ⟨rfl, rfl, rfl, by decide +kernel, rfl, by decide +kernel, by decide +kernel⟩
abbrev s__law_lesser : Stmt := top 18
theorem st__law_lesser {t : TS} {D : Ends} {H : Hp} {v0 v1 : V} (h : t D [some v0, some v1] H) : t D (L2.start ["one", "two"] [v0, v1]) H := h
theorem sc__law_lesser : FnScope ["one", "two"] ["one", "two"] (defScope s__law_lesser) := ⟨rfl, rfl, rfl, by decide +kernel, rfl, by decide +kernel, by decide +kernel⟩
abbrev s__law_greater : Stmt := top 19
theorem st__law_greater {t : TS} {D : Ends} {H : Hp} {v0 v1 : V} (h : t D [some v0, some v1] H) : t D (L2.start ["one", "two"] [v0, v1]) H := h
theorem sc__law_greater : FnScope ["one", "two"] ["one", "two"] (defScope s__law_greater) := ⟨rfl, rfl, rfl, by decide +kernel, rfl, by decide +kernel, by decide +kernel⟩
abbrev s__law_bounds : Stmt := top 20
theorem st__law_bounds {t : TS} {D : Ends} {H : Hp} {v0 : V} (h : t D [some v0, none, none, none] H) : t D (L2.start ["bag", "floor", "way", "roof"] [v0]) H := h
theorem sc__law_bounds : FnScope ["bag", "floor", "way", "roof"] ["bag"] (defScope s__law_bounds) := ⟨rfl, rfl, rfl, by decide +kernel, rfl, by decide +kernel, by decide +kernel⟩
abbrev s__law_far : Stmt := top 21
theorem st__law_far {t : TS} {D : Ends} {H : Hp} {v0 : V} (h : t D [some v0, none] H) : t D (L2.start ["bag", "factor"] [v0]) H := h
theorem sc__law_far : FnScope ["bag", "factor"] ["bag"] (defScope s__law_far) := ⟨rfl, rfl, rfl, by decide +kernel, rfl, by decide +kernel, by decide +kernel⟩
abbrev s__law_odd : Stmt := top 22
theorem st__law_odd {t : TS} {D : Ends} {H : Hp} {v0 : V} (h : t D [some v0, none] H) : t D (L2.start ["bag", "way"] [v0]) H := h
theorem sc__law_odd : FnScope ["bag", "way"] ["bag"] (defScope s__law_odd) := ⟨rfl, rfl, rfl, by decide +kernel, rfl, by decide +kernel, by decide +kernel⟩
abbrev s__law_same : Stmt := top 23
theorem st__law_same {t : TS} {D : Ends} {H : Hp} {v0 v1 : V} (h : t D [some v0, some v1] H) : t D (L2.start ["told", "due"] [v0, v1]) H := h
theorem sc__law_same : FnScope ["told", "due"] ["told", "due"] (defScope s__law_same) := ⟨rfl, rfl, rfl, by decide +kernel, rfl, by decide +kernel, by decide +kernel⟩
abbrev s__law_made : Stmt := top 24
theorem st__law_made {t : TS} {D : Ends} {H : Hp} {v0 v1 : V} (h : t D [some v0, some v1, none, none] H) : t D (L2.start ["low_bound", "high_bound", "new", "e"] [v0, v1]) H := h
theorem sc__law_made : FnScope ["low_bound", "high_bound", "new", "e"] ["low_bound", "high_bound"] (defScope s__law_made) := ⟨rfl, rfl, rfl, by decide +kernel, rfl, by decide +kernel, by decide +kernel⟩
abbrev s__law_call : Stmt := top 25
theorem st__law_call {t : TS} {D : Ends} {H : Hp} {v0 v1 v2 : V} (h : t D [some v0, some v1, some v2, none] H) : t D (L2.start ["finder", "deed", "value", "e"] [v0, v1, v2]) H := h
theorem sc__law_call : FnScope ["finder", "deed", "value", "e"] ["finder", "deed", "value"] (defScope s__law_call) := ⟨rfl, rfl, rfl, by decide +kernel, rfl, by decide +kernel, by decide +kernel⟩
abbrev s__law_bent : Stmt := top 26
theorem st__law_bent {t : TS} {D : Ends} {H : Hp} {v0 v1 : V} (h : t D [some v0, some v1, none] H) : t D (L2.start ["bag", "way", "pair"] [v0, v1]) H := h
theorem sc__law_bent : FnScope ["bag", "way", "pair"] ["bag", "way"] (defScope s__law_bent) := ⟨rfl, rfl, rfl, by decide +kernel, rfl, by decide +kernel, by decide +kernel⟩
abbrev s__law_new : Stmt := top 27
theorem st__law_new {t : TS} {D : Ends} {H : Hp} {v0 v1 : V} (h : t D [some v0, some v1, none, none, none, none, none] H) : t D (L2.start ["bag", "way", "pair", "due", "good", "told", "one"] [v0, v1]) H := h
theorem sc__law_new : FnScope ["bag", "way", "pair", "due", "good", "told", "one"] ["bag", "way"] (defScope s__law_new) := ⟨rfl, rfl, rfl, by decide +kernel, rfl, by decide +kernel, by decide +kernel⟩
abbrev s__law_aim : Stmt := top 28
theorem st__law_aim {t : TS} {D : Ends} {H : Hp} {v0 : V} (h : t D [some v0] H) : t D (L2.start ["row"] [v0]) H := h
theorem sc__law_aim : FnScope ["row"] ["row"] (defScope s__law_aim) := ⟨rfl, rfl, rfl, by decide +kernel, rfl, by decide +kernel, by decide +kernel⟩
abbrev s__law_enter : Stmt := top 29
theorem st__law_enter {t : TS} {D : Ends} {H : Hp} {v0 v1 v2 : V} (h : t D [some v0, some v1, some v2] H) : t D (L2.start ["row", "deed", "value"] [v0, v1, v2]) H := h
theorem sc__law_enter : FnScope ["row", "deed", "value"] ["row", "deed", "value"] (defScope s__law_enter) := ⟨rfl, rfl, rfl, by decide +kernel, rfl, by decide +kernel, by decide +kernel⟩
abbrev s__law_value : Stmt := top 30
theorem st__law_value {t : TS} {D : Ends} {H : Hp} {v0 v1 : V} (h : t D [some v0, some v1, none] H) : t D (L2.start ["bag", "row", "way"] [v0, v1]) H := h
theorem sc__law_value : FnScope ["bag", "row", "way"] ["bag", "row"] (defScope s__law_value) := ⟨rfl, rfl, rfl, by decide +kernel, rfl, by decide +kernel, by decide +kernel⟩
abbrev s__law_refuses : Stmt := top 31
theorem st__law_refuses {t : TS} {D : Ends} {H : Hp} {v0 v1 : V} (h : t D [some v0, some v1, none, none, none] H) : t D (L2.start ["bag", "finder", "way", "wrong", "told"] [v0, v1]) H := h
theorem sc__law_refuses : FnScope ["bag", "finder", "way", "wrong", "told"] ["bag", "finder"] (defScope s__law_refuses) := ⟨rfl, rfl, rfl, by decide +kernel, rfl, by decide +kernel, by decide +kernel⟩
abbrev s__law_agrees : Stmt := top 32
theorem st__law_agrees {t : TS} {D : Ends} {H : Hp} {v0 v1 : V} (h : t D [some v0, some v1, none, none] H) : t D (L2.start ["finder", "row", "told", "one"] [v0, v1]) H := h
theorem sc__law_agrees : FnScope ["finder", "row", "told", "one"] ["finder", "row"] (defScope s__law_agrees) := ⟨rfl, rfl, rfl, by decide +kernel, rfl, by decide +kernel, by decide +kernel⟩
abbrev s_law : Stmt := top 33
theorem st_law {t : TS} {D : Ends} {H : Hp} {v0 : V} (h : t D [some v0, none, none, none, none, none, none, none, none, none, none, none] H) : t D (L2.start ["script", "bag", "turns", "way", "bounds", "rows", "pair", "turn", "side", "deed", "value", "row"] [v0]) H := h
theorem sc_law : FnScope ["script", "bag", "turns", "way", "bounds", "rows", "pair", "turn", "side", "deed", "value", "row"] ["script"] (defScope s_law) := ⟨rfl, rfl, rfl, by decide +kernel, rfl, by decide +kernel, by decide +kernel⟩

set_option maxHeartbeats 0 in
structure Txt (K : PySem.W.Frag) (mg : Str → Option Value) where
  c_Finder : Addr
  g_Finder : mg "Finder" = some (.ref c_Finder)
  cl_Finder : Cls K c_Finder
  n_Finder_size : NoAttr K c_Finder "size"
  n_Finder_ceiling : NoAttr K c_Finder "ceiling"
  n_Finder_strikes : NoAttr K c_Finder "strikes"
  c_LossError : Addr
  c_InvalidNumber : Addr
  c_InvalidSetting : Addr
  a_InvalidNumber_init_ : Addr
  fd_InvalidNumber_init_ : FuncData
  F_InvalidNumber_init_ : Fun K "__init__" "InvalidNumber.__init__" s_InvalidNumber_init_ a_InvalidNumber_init_ fd_InvalidNumber_init_
  B_InvalidNumber_init_ : Binds K fd_InvalidNumber_init_ ["self", "number"] []
  a_InvalidSetting_init_ : Addr
  fd_InvalidSetting_init_ : FuncData
  F_InvalidSetting_init_ : Fun K "__init__" "InvalidSetting.__init__" s_InvalidSetting_init_ a_InvalidSetting_init_ fd_InvalidSetting_init_
  B_InvalidSetting_init_ : Binds K fd_InvalidSetting_init_ ["self", "setting"] []
  a_is_integer : Addr
  fd_is_integer : FuncData
  F_is_integer : Fun K "is_integer" "is_integer" s_is_integer a_is_integer fd_is_integer
  B_is_integer : Binds K fd_is_integer ["value"] []
  g_is_integer : mg "is_integer" = some (.ref a_is_integer)
  a_is_between : Addr
  fd_is_between : FuncData
  F_is_between : Fun K "is_between" "is_between" s_is_between a_is_between fd_is_between
  B_is_between : Binds K fd_is_between ["value", "low", "high"] []
  g_is_between : mg "is_between" = some (.ref a_is_between)
  a_is_at_least : Addr
  fd_is_at_least : FuncData
  F_is_at_least : Fun K "is_at_least" "is_at_least" s_is_at_least a_is_at_least fd_is_at_least
  B_is_at_least : Binds K fd_is_at_least ["value", "low"] []
  g_is_at_least : mg "is_at_least" = some (.ref a_is_at_least)
  a_require_count : Addr
  fd_require_count : FuncData
  F_require_count : Fun K "require_count" "require_count" s_require_count a_require_count fd_require_count
  B_require_count : Binds K fd_require_count ["count"] []
  g_require_count : mg "require_count" = some (.ref a_require_count)
  a_Finder_init_ : Addr
  fd_Finder_init_ : FuncData
  F_Finder_init_ : Fun K "__init__" "Finder.__init__" s_Finder_init_ a_Finder_init_ fd_Finder_init_
  B_Finder_init_ : Binds K fd_Finder_init_ ["self", "low", "high"] []
  M_Finder : Mk K c_Finder a_Finder_init_
  a_Finder_trial : Addr
  fd_Finder_trial : FuncData
  F_Finder_trial : Fun K "trial" "Finder.trial" s_Finder_trial a_Finder_trial fd_Finder_trial
  B_Finder_trial : Binds K fd_Finder_trial ["self"] []
  m_Finder_trial : Meth K c_Finder "trial" a_Finder_trial
  a_Finder_passed : Addr
  fd_Finder_passed : FuncData
  F_Finder_passed : Fun K "passed" "Finder.passed" s_Finder_passed a_Finder_passed fd_Finder_passed
  B_Finder_passed : Binds K fd_Finder_passed ["self", "count"] []
  m_Finder_passed : Meth K c_Finder "passed" a_Finder_passed
  a_Finder_failed : Addr
  fd_Finder_failed : FuncData
  F_Finder_failed : Fun K "failed" "Finder.failed" s_Finder_failed a_Finder_failed fd_Finder_failed
  B_Finder_failed : Binds K fd_Finder_failed ["self", "count"] []
  m_Finder_failed : Meth K c_Finder "failed" a_Finder_failed
  a_Finder_copied : Addr
  fd_Finder_copied : FuncData
  F_Finder_copied : Fun K "copied" "Finder.copied" s_Finder_copied a_Finder_copied fd_Finder_copied
  B_Finder_copied : Binds K fd_Finder_copied ["self"] []
  m_Finder_copied : Meth K c_Finder "copied" a_Finder_copied
  a__law_whole : Addr
  fd__law_whole : FuncData
  F__law_whole : Fun K "_law_whole" "_law_whole" s__law_whole a__law_whole fd__law_whole
  B__law_whole : Binds K fd__law_whole ["value"] []
  g__law_whole : mg "_law_whole" = some (.ref a__law_whole)
  a__law_bag : Addr
  fd__law_bag : FuncData
  F__law_bag : Fun K "_law_bag" "_law_bag" s__law_bag a__law_bag fd__law_bag
  B__law_bag : Binds K fd__law_bag ["script"] []
  g__law_bag : mg "_law_bag" = some (.ref a__law_bag)
  a__law_take : Addr
  fd__law_take : FuncData
  F__law_take : Fun K "_law_take" "_law_take" s__law_take a__law_take fd__law_take
  B__law_take : Binds K fd__law_take ["bag", "many"] []
  g__law_take : mg "_law_take" = some (.ref a__law_take)
  a__law_lesser : Addr
  fd__law_lesser : FuncData
  F__law_lesser : Fun K "_law_lesser" "_law_lesser" s__law_lesser a__law_lesser fd__law_lesser
  B__law_lesser : Binds K fd__law_lesser ["one", "two"] []
  g__law_lesser : mg "_law_lesser" = some (.ref a__law_lesser)
  a__law_greater : Addr
  fd__law_greater : FuncData
  F__law_greater : Fun K "_law_greater" "_law_greater" s__law_greater a__law_greater fd__law_greater
  B__law_greater : Binds K fd__law_greater ["one", "two"] []
  g__law_greater : mg "_law_greater" = some (.ref a__law_greater)
  a__law_bounds : Addr
  fd__law_bounds : FuncData
  F__law_bounds : Fun K "_law_bounds" "_law_bounds" s__law_bounds a__law_bounds fd__law_bounds
  B__law_bounds : Binds K fd__law_bounds ["bag"] []
  g__law_bounds : mg "_law_bounds" = some (.ref a__law_bounds)
  a__law_far : Addr
  fd__law_far : FuncData
  F__law_far : Fun K "_law_far" "_law_far" s__law_far a__law_far fd__law_far
  B__law_far : Binds K fd__law_far ["bag"] []
  g__law_far : mg "_law_far" = some (.ref a__law_far)
  a__law_odd : Addr
  fd__law_odd : FuncData
  F__law_odd : Fun K "_law_odd" "_law_odd" s__law_odd a__law_odd fd__law_odd
  B__law_odd : Binds K fd__law_odd ["bag"] []
  g__law_odd : mg "_law_odd" = some (.ref a__law_odd)
  a__law_same : Addr
  fd__law_same : FuncData
  F__law_same : Fun K "_law_same" "_law_same" s__law_same a__law_same fd__law_same
  B__law_same : Binds K fd__law_same ["told", "due"] []
  g__law_same : mg "_law_same" = some (.ref a__law_same)
  a__law_made : Addr
  fd__law_made : FuncData
  F__law_made : Fun K "_law_made" "_law_made" s__law_made a__law_made fd__law_made
  B__law_made : Binds K fd__law_made ["low_bound", "high_bound"] []
  g__law_made : mg "_law_made" = some (.ref a__law_made)
  a__law_call : Addr
  fd__law_call : FuncData
  F__law_call : Fun K "_law_call" "_law_call" s__law_call a__law_call fd__law_call
  B__law_call : Binds K fd__law_call ["finder", "deed", "value"] []
  g__law_call : mg "_law_call" = some (.ref a__law_call)
  a__law_bent : Addr
  fd__law_bent : FuncData
  F__law_bent : Fun K "_law_bent" "_law_bent" s__law_bent a__law_bent fd__law_bent
  B__law_bent : Binds K fd__law_bent ["bag", "way"] []
  g__law_bent : mg "_law_bent" = some (.ref a__law_bent)
  a__law_new : Addr
  fd__law_new : FuncData
  F__law_new : Fun K "_law_new" "_law_new" s__law_new a__law_new fd__law_new
  B__law_new : Binds K fd__law_new ["bag", "way"] []
  g__law_new : mg "_law_new" = some (.ref a__law_new)
  a__law_aim : Addr
  fd__law_aim : FuncData
  F__law_aim : Fun K "_law_aim" "_law_aim" s__law_aim a__law_aim fd__law_aim
  B__law_aim : Binds K fd__law_aim ["row"] []
  g__law_aim : mg "_law_aim" = some (.ref a__law_aim)
  a__law_enter : Addr
  fd__law_enter : FuncData
  F__law_enter : Fun K "_law_enter" "_law_enter" s__law_enter a__law_enter fd__law_enter
  B__law_enter : Binds K fd__law_enter ["row", "deed", "value"] []
  g__law_enter : mg "_law_enter" = some (.ref a__law_enter)
  a__law_value : Addr
  fd__law_value : FuncData
  F__law_value : Fun K "_law_value" "_law_value" s__law_value a__law_value fd__law_value
  B__law_value : Binds K fd__law_value ["bag", "row"] []
  g__law_value : mg "_law_value" = some (.ref a__law_value)
  a__law_refuses : Addr
  fd__law_refuses : FuncData
  F__law_refuses : Fun K "_law_refuses" "_law_refuses" s__law_refuses a__law_refuses fd__law_refuses
  B__law_refuses : Binds K fd__law_refuses ["bag", "finder"] []
  g__law_refuses : mg "_law_refuses" = some (.ref a__law_refuses)
  a__law_agrees : Addr
  fd__law_agrees : FuncData
  F__law_agrees : Fun K "_law_agrees" "_law_agrees" s__law_agrees a__law_agrees fd__law_agrees
  B__law_agrees : Binds K fd__law_agrees ["finder", "row"] []
  g__law_agrees : mg "_law_agrees" = some (.ref a__law_agrees)
  a_law : Addr
  fd_law : FuncData
  F_law : Fun K "law" "law" s_law a_law fd_law
  B_law : Binds K fd_law ["script"] []
  g_law : mg "law" = some (.ref a_law)
  X_LossError : GCls mg "LossError" c_LossError
  X_InvalidNumber : XCls K mg "InvalidNumber" c_InvalidNumber a_InvalidNumber_init_
  nX_InvalidNumber : PySem.W.findIn K (.ref c_InvalidNumber) "number" = some none
  X_InvalidSetting : XCls K mg "InvalidSetting" c_InvalidSetting a_InvalidSetting_init_
  nX_InvalidSetting : PySem.W.findIn K (.ref c_InvalidSetting) "setting" = some none
  Me_InvalidNumber_LossError : PySem.W.exmOne K (.ref c_InvalidNumber) (.ref c_LossError) = some true
  Me_InvalidSetting_LossError : PySem.W.exmOne K (.ref c_InvalidSetting) (.ref c_LossError) = some true
  Kt_InvalidNumber_InvalidNumber : PySem.W.kitOne K (.ref c_InvalidNumber) (.ref c_InvalidNumber) = some true
  Kt_InvalidNumber_InvalidSetting : PySem.W.kitOne K (.ref c_InvalidNumber) (.ref c_InvalidSetting) = some false
  Kt_InvalidSetting_InvalidNumber : PySem.W.kitOne K (.ref c_InvalidSetting) (.ref c_InvalidNumber) = some false
  Kt_InvalidSetting_InvalidSetting : PySem.W.kitOne K (.ref c_InvalidSetting) (.ref c_InvalidSetting) = some true
  Kv_InvalidNumber : PySem.W.kitOne K (.ref c_InvalidNumber) (.type "ValueError") = some true
  Kv_InvalidSetting : PySem.W.kitOne K (.ref c_InvalidSetting) (.type "ValueError") = some true
  b_ValueError : mg "ValueError" = none
  b_abs : mg "abs" = none
  b_all : mg "all" = none
  b_bool : mg "bool" = none
  b_int : mg "int" = none
  b_isinstance : mg "isinstance" = none
  b_len : mg "len" = none
  b_min : mg "min" = none
  b_range : mg "range" = none
  b_str : mg "str" = none
  b_sum : mg "sum" = none
  u_MOST_BYTES : Value
  g_MOST_BYTES : mg "MOST_BYTES" = some u_MOST_BYTES
  r_MOST_BYTES : RelV (.int 1400) u_MOST_BYTES
  u_MOST_STRIKES : Value
  g_MOST_STRIKES : mg "MOST_STRIKES" = some u_MOST_STRIKES
  r_MOST_STRIKES : RelV (.int 2) u_MOST_STRIKES

section
variable {P : Program} {w : World} {K : PySem.W.Frag} {mg : Str → Option Value} {base : Heap}
/-! ### kinds of values -/
/-- whether x is an int and no bool, by its kind -/
def IntK (K : PySem.W.Frag) (H : Hp) (x : V) (r : Bool) : Prop := ∃ (t : Value) (i b : Bool), TyX K H x t ∧ PySem.W.kitOne K t (.type "int") = some i ∧ PySem.W.kitOne K t (.type "bool") = some b ∧ r = (i && !b)
theorem intK_int {K : PySem.W.Frag} {H : Hp} (n : Int) : IntK K H (.int n) true := ⟨.type "int", true, false, .base (.int n), kit_ty (by decide +kernel), kit_ty (by decide +kernel), rfl⟩
/-- isinstance(x, int) and not isinstance(x, bool) -/
def sp_is_integer (K : PySem.W.Frag) : Sp := fun vs H Q _ => ∃ (x : V) (r : Bool), vs = [x] ∧ IntK K H x r ∧ Q (.bl r) H
def sp_is_between (K : PySem.W.Frag) : Sp := fun vs H Q _ => ∃ (x : V) (lo hi : Int), vs = [x, .int lo, .int hi] ∧ ((∃ n, x = .int n ∧ Q (.bl (decide (lo ≤ n) && decide (n ≤ hi))) H) ∨ (IntK K H x false ∧ Q (.bl false) H))
theorem ok_is_integer (T : Txt K mg) : FnOk P w K mg base CX0 1 T.a_is_integer T.fd_is_integer ["value"] (sp_is_integer K) := by
  have S := sc_is_integer
  refine T.F_is_integer.ok S (fun vs H Q E h => ?_) (fun cdv A outer s H vs Q E hr h => ?_)
  · obtain ⟨x, r, rfl, _⟩ := h
    rfl
  · obtain ⟨x, r, rfl, ⟨t, i, b, ty, hi, hb, rfl⟩, k⟩ := h
    refine ⟨_, (pss_one (ps_ret (pe_and (pe_callB (id := "isinstance") call_isi (by rfl) T.b_isinstance (by decide +kernel) (pa_cons (pv 0) (pa_cons (pe_bltn (v := .ty "int") (u := .type "int") (by rfl) T.b_int (by decide +kernel) rfl) pa_nil))) (pe_one (pe_not (pe_callB (id := "isinstance") call_isi (by rfl) T.b_isinstance (by decide +kernel) (pa_cons (pv 0) (pa_cons (pe_bltn (v := .ty "bool") (u := .type "bool") (by rfl) T.b_bool (by decide +kernel) rfl) pa_nil)))))))), ?_⟩
    refine ⟨_, rfl, _, _, _, _, i, rfl, .ty _, ty, hi, i, rfl, ?_⟩
    cases i with
    | false => exact iteF k
    | true => exact iteT ⟨_, rfl, _, _, _, _, b, rfl, .ty _, ty, hb, b, rfl, k⟩
theorem ok_is_between (T : Txt K mg) : FnOk P w K mg base CX0 2 T.a_is_between T.fd_is_between ["value", "low", "high"] (sp_is_between K) := by
  have S := sc_is_between
  refine T.F_is_between.ok S (fun vs H Q E h => ?_) (fun cdv A outer s H vs Q E hr h => ?_)
  · obtain ⟨x, lo, hi, rfl, _⟩ := h
    rfl
  · obtain ⟨x, lo, hi, rfl, h⟩ := h
    refine ⟨_, (pss_one (ps_ret (pe_and (pe_call (ok_is_integer T) (hr.mono (by decide)) rfl T.g_is_integer T.F_is_integer.kp T.B_is_integer .nil pass0 (pa_cons (pv 0) pa_nil)) (pe_one (pe_chain op_le op_le (pv 1) (pv 0) (pv 2)))))), ?_⟩
    rcases h with ⟨n, rfl, k⟩ | ⟨hk, k⟩
    · refine ⟨_, rfl, _, true, rfl, intK_int n, true, rfl, iteT ?_⟩
      refine ⟨_, rfl, _, rfl, _, _, rfl, rfl, _, rfl, ?_⟩
      by_cases q : lo ≤ n
      · rw [decide_eq_true q, Bool.true_and] at k
        rw [decide_eq_true q]
        exact iteT ⟨_, rfl, _, _, rfl, rfl, k⟩
      · rw [decide_eq_false q, Bool.false_and] at k
        rw [decide_eq_false q]
        exact iteF k
    · exact ⟨_, rfl, _, false, rfl, hk, false, rfl, iteF k⟩
/-! ### sequences, items by their kinds -/
theorem tyX_same {K : PySem.W.Frag} {H H' : Hp} {x : V} {t : Value} (h : TyX K H x t) (s : Same H H') : TyX K H' x t := by
  cases h with
  | base b =>
    refine .base ?_
    cases b with
    | non => exact .non
    | bl y => exact .bl y
    | int i => exact .int i
    | str y => exact .str y
    | flt y => exact .flt y
    | lst e => exact .lst (s _ _ e)
    | frz e => exact .frz (s _ _ e)
    | tup e => exact .tup (s _ _ e)
    | dK e => exact .dK (s _ _ e)
    | dT e => exact .dT (s _ _ e)
    | ins e cl ha hn ht hm => exact .ins (s _ _ e) cl ha hn ht hm
  | byt b => exact .byt b
  | set e => exact .set (s _ _ e)
  | kList e c => exact .kList e c
  | kTuple e c => exact .kTuple e c
  | kDict e c => exact .kDict e c
  | fTuple e => exact .fTuple (s _ _ e)
  | fDict e => exact .fDict (s _ _ e)
theorem IntK.same {K : PySem.W.Frag} {H H' : Hp} {x : V} {r : Bool} (h : IntK K H x r) (s : Same H H') : IntK K H' x r := by
  obtain ⟨t, i, b, ty, h1, h2, h3⟩ := h
  exact ⟨t, i, b, tyX_same ty s, h1, h2, h3⟩
/-- x is the int n, or no int at all -/
def Kd (K : PySem.W.Frag) (H : Hp) (x : V) : Option Int → Prop
  | some n => x = .int n
  | none => IntK K H x false
theorem Kd.same {K : PySem.W.Frag} {H H' : Hp} {x : V} {o : Option Int} (h : Kd K H x o) (s : Same H H') : Kd K H' x o := by
  cases o with
  | some n => exact h
  | none => exact IntK.same h s
/-- what lies in lo .. hi -/
def inR (lo hi : Int) : Option Int → Bool
  | some n => decide (lo ≤ n) && decide (n ≤ hi)
  | none => false
/-- a list or a tuple -/
def SeqA (K : PySem.W.Frag) (H : Hp) (a : Addr) (xs : List V) : Prop := SqL K H a xs ∨ SqT K H a xs
theorem SeqA.lst {K : PySem.W.Frag} {H : Hp} {a : Addr} {xs : List V} (h : H a = some (.lst xs)) : SeqA K H a xs := .inl (SqL.of h)
theorem SeqA.tup {K : PySem.W.Frag} {H : Hp} {a : Addr} {xs : List V} (h : H a = some (.tup xs)) : SeqA K H a xs := .inr (SqT.of h)
theorem SeqA.sm {K : PySem.W.Frag} {H H' : Hp} {a : Addr} {xs : List V} (h : SeqA K H a xs) (s : Same H H') : SeqA K H' a xs := h.elim (fun h => .inl (s.seq h)) fun h => .inr (sqT_sm h s)
/-- whether x is a sequence, by its kind -/
def SeqK (K : PySem.W.Frag) (H : Hp) (x : V) (r : Bool) : Prop := ∃ t, TyX K H x t ∧ PySem.W.kitAny K t [.type "list", .type "tuple"] = some r
theorem kit2 {K : PySem.W.Frag} {t : Value} {a b : Bool} (h1 : PySem.W.kitOne K t (.type "list") = some a) (h2 : PySem.W.kitOne K t (.type "tuple") = some b) : PySem.W.kitAny K t [.type "list", .type "tuple"] = some (a || b) := by
  unfold PySem.W.kitAny
  rw [h1]
  cases a with
  | true => rfl
  | false =>
    show PySem.W.kitAny K t [.type "tuple"] = some b
    unfold PySem.W.kitAny
    rw [h2]
    cases b <;> rfl
theorem seqK_ty {K : PySem.W.Frag} {H : Hp} {x : V} {n : String} {a b : Bool} (t : TyX K H x (.type n)) (h1 : kitB n "list" = some a) (h2 : kitB n "tuple" = some b) : SeqK K H x (a || b) := ⟨_, t, kit2 (kit_ty h1) (kit_ty h2)⟩
theorem seqK_of {K : PySem.W.Frag} {H : Hp} {a : Addr} {xs : List V} (h : SeqA K H a xs) : SeqK K H (.ref a) true := by
  rcases h with h | h
  · rcases h with (h | ⟨o, h⟩) | ⟨o, its, n, hk, hc, _⟩
    · exact seqK_ty (a := true) (b := false) (.base (.lst h)) (by decide +kernel) (by decide +kernel)
    · exact seqK_ty (a := true) (b := false) (.base (.frz h)) (by decide +kernel) (by decide +kernel)
    · exact seqK_ty (a := true) (b := false) (.kList hk hc) (by decide +kernel) (by decide +kernel)
  · rcases h with (h | ⟨o, h⟩) | ⟨o, its, n, hk, hc, _⟩
    · exact seqK_ty (a := false) (b := true) (.base (.tup h)) (by decide +kernel) (by decide +kernel)
    · exact seqK_ty (a := false) (b := true) (.fTuple h) (by decide +kernel) (by decide +kernel)
    · exact seqK_ty (a := false) (b := true) (.kTuple hk hc) (by decide +kernel) (by decide +kernel)
/-! ### lists stay lists -/
def Typ (H H' : Hp) : Prop := ∀ a o, H a = some o → H' a = some o ∨ ((∃ xs, o = .lst xs) ∧ ∃ ys, H' a = some (.lst ys))
theorem Typ.refl (H : Hp) : Typ H H := fun _ _ h => .inl h
theorem Typ.of {H H' : Hp} (s : Same H H') : Typ H H' := fun _ _ h => .inl (s _ _ h)
theorem Typ.trans {H H1 H2 : Hp} (x : Typ H H1) (y : Typ H1 H2) : Typ H H2 := fun a o h => by
  rcases x a o h with h1 | ⟨hx, ys, h1⟩
  · exact y a o h1
  · rcases y a _ h1 with h2 | ⟨_, zs, h2⟩
    · exact .inr ⟨hx, ys, h2⟩
    · exact .inr ⟨hx, zs, h2⟩
theorem Typ.upd {H : Hp} {a : Addr} {xs ys : List V} (h : H a = some (.lst xs)) : Typ H (L2.upd H a (.lst ys)) := fun b o hb => by
  by_cases q : b = a
  · subst q
    rw [h] at hb
    cases hb
    exact .inr ⟨⟨_, rfl⟩, ys, upd_same⟩
  · exact .inl (by rw [upd_ne q]; exact hb)
theorem Typ.purse {H H' : Hp} {p c : Addr} (P : Purse p c H) (P' : Purse p c H') (s : SameX p H H') : Typ H H' := fun b o hb => by
  by_cases q : b = p
  · subst q
    obtain ⟨⟨xs, h⟩, _⟩ := P.there
    obtain ⟨⟨ys, h'⟩, _⟩ := P'.there
    rw [h] at hb
    cases hb
    exact .inr ⟨⟨_, rfl⟩, ys, h'⟩
  · exact .inl (s b o q hb)
theorem tyX_typ {K : PySem.W.Frag} {H H' : Hp} {x : V} {t : Value} (h : TyX K H x t) (s : Typ H H') : TyX K H' x t := by
  cases h with
  | base b =>
    refine .base ?_
    cases b with
    | non => exact .non
    | bl y => exact .bl y
    | int i => exact .int i
    | str y => exact .str y
    | flt y => exact .flt y
    | lst e => exact (s _ _ e).elim (fun h => .lst h) fun ⟨_, ys, h⟩ => .lst h
    | frz e => exact (s _ _ e).elim (fun h => .frz h) fun ⟨⟨_, z⟩, _⟩ => nomatch z
    | tup e => exact (s _ _ e).elim (fun h => .tup h) fun ⟨⟨_, z⟩, _⟩ => nomatch z
    | dK e => exact (s _ _ e).elim (fun h => .dK h) fun ⟨⟨_, z⟩, _⟩ => nomatch z
    | dT e => exact (s _ _ e).elim (fun h => .dT h) fun ⟨⟨_, z⟩, _⟩ => nomatch z
    | ins e cl ha hn ht hm => exact (s _ _ e).elim (fun h => .ins h cl ha hn ht hm) fun ⟨⟨_, z⟩, _⟩ => nomatch z
  | byt b => exact .byt b
  | set e => exact (s _ _ e).elim (fun h => .set h) fun ⟨⟨_, z⟩, _⟩ => nomatch z
  | kList e c => exact .kList e c
  | kTuple e c => exact .kTuple e c
  | kDict e c => exact .kDict e c
  | fTuple e => exact (s _ _ e).elim (fun h => .fTuple h) fun ⟨⟨_, z⟩, _⟩ => nomatch z
  | fDict e => exact (s _ _ e).elim (fun h => .fDict h) fun ⟨⟨_, z⟩, _⟩ => nomatch z
theorem Kd.typ {K : PySem.W.Frag} {H H' : Hp} {x : V} {o : Option Int} (h : Kd K H x o) (s : Typ H H') : Kd K H' x o := by
  cases o with
  | some n => exact h
  | none =>
    obtain ⟨t, i, b, ty, h1, h2, h3⟩ := (show IntK K H x false from h)
    exact ⟨t, i, b, tyX_typ ty s, h1, h2, h3⟩
theorem intK_no {K : PySem.W.Frag} {H : Hp} {x : V} {n : String} {i b : Bool} (t : TyX K H x (.type n)) (h1 : kitB n "int" = some i) (h2 : kitB n "bool" = some b) (h : (i && !b) = false) : IntK K H x false := ⟨_, i, b, t, kit_ty h1, kit_ty h2, h.symm⟩
theorem ixN_nat {n j : Nat} {z : Int} (e : z = (j : Int)) (h : j < n) : ixN n z = some j := by
  subst e
  unfold ixN
  rw [if_pos (by omega), if_pos (by omega)]
  rfl
/-! ### equality of words -/
theorem dec_int (a b : Int) : decide (V.int a = V.int b) = decide (a = b) := by
  by_cases e : a = b
  · rw [decide_eq_true e, decide_eq_true (congrArg V.int e)]
  · rw [decide_eq_false e, decide_eq_false (fun q => e (V.int.inj q))]
theorem dec_bl (a b : Bool) : decide (V.bl a = V.bl b) = (a == b) := by
  cases a <;> cases b <;> rfl
/-! ### steps: readings by their form -/
section
variable {K : PySem.W.Frag} {σ : L2.St} {H : Hp} {Q : VK} {QL : List V → Hp → Prop} {QB : Bool → Hp → Prop} {QO : Option Int → Hp → Prop} {QS : L2.St → Hp → Prop} {v w : V} {a0 a1 a2 a3 a4 a5 a6 a7 a8 a9 a10 a11 a12 a13 a14 a15 a16 a17 a18 a19 : Option V} {te tb tc : TE} {ta : TA} {t u : TT} {ts us : TS} {D : Ends} {g : TG}
def rTupOf (K : PySem.W.Frag) : List V → Hp → VK → Prop := fun xs H Q => ∃ p ys, xs = [.ref p] ∧ ((SqL K H p ys ∧ ∀ l, H l = none → Q (.ref l) (L2.upd H l (.tup ys))) ∨ SqT K H p ys ∧ Q (.ref p) H)
theorem call_tupK {X : Cx} {K : PySem.W.Frag} (e : X.K = K) : CallR X (.type "tuple") (rTupOf K) := e ▸ call_tuple_of
def rLstOf (K : PySem.W.Frag) : List V → Hp → VK → Prop := fun xs H Q => ∃ p ys, xs = [.ref p] ∧ (SqL K H p ys ∨ SqT K H p ys) ∧ ∀ l, H l = none → Q (.ref l) (L2.upd H l (.lst ys))
theorem call_listK {X : Cx} {K : PySem.W.Frag} (e : X.K = K) : CallR X (.type "list") (rLstOf K) := e ▸ call_list_of
def rLenOf (K : PySem.W.Frag) : List V → Hp → VK → Prop := fun xs H Q => ∃ p ys, xs = [.ref p] ∧ (SqL K H p ys ∨ SqT K H p ys) ∧ Q (.int (ys.length : Int)) H
theorem call_lenK {X : Cx} {K : PySem.W.Frag} (e : X.K = K) : CallR X (.builtin "len") (rLenOf K) := e ▸ call_len_seq
theorem all_cons {α : Type} {p : α → Prop} {a : α} {l : List α} (h : p a) (r : ∀ q ∈ l, p q) : ∀ q ∈ a :: l, p q := fun q hq => by
  rcases List.mem_cons.mp hq with e | e
  · rw [e]; exact h
  · exact r q e
theorem x_v0 (q : Q v H) : tVar 0 (some v :: σ) H Q := ⟨_, rfl, q⟩
theorem x_g0 (q : QS (some v :: σ) H) : gName 0 v (a0 :: σ) H QS := q
theorem x_v1 (q : Q v H) : tVar 1 (a0 :: some v :: σ) H Q := ⟨_, rfl, q⟩
theorem x_g1 (q : QS (a0 :: some v :: σ) H) : gName 1 v (a0 :: a1 :: σ) H QS := q
theorem x_v2 (q : Q v H) : tVar 2 (a0 :: a1 :: some v :: σ) H Q := ⟨_, rfl, q⟩
theorem x_g2 (q : QS (a0 :: a1 :: some v :: σ) H) : gName 2 v (a0 :: a1 :: a2 :: σ) H QS := q
theorem x_v3 (q : Q v H) : tVar 3 (a0 :: a1 :: a2 :: some v :: σ) H Q := ⟨_, rfl, q⟩
theorem x_g3 (q : QS (a0 :: a1 :: a2 :: some v :: σ) H) : gName 3 v (a0 :: a1 :: a2 :: a3 :: σ) H QS := q
theorem x_v4 (q : Q v H) : tVar 4 (a0 :: a1 :: a2 :: a3 :: some v :: σ) H Q := ⟨_, rfl, q⟩
theorem x_g4 (q : QS (a0 :: a1 :: a2 :: a3 :: some v :: σ) H) : gName 4 v (a0 :: a1 :: a2 :: a3 :: a4 :: σ) H QS := q
theorem x_v5 (q : Q v H) : tVar 5 (a0 :: a1 :: a2 :: a3 :: a4 :: some v :: σ) H Q := ⟨_, rfl, q⟩
theorem x_g5 (q : QS (a0 :: a1 :: a2 :: a3 :: a4 :: some v :: σ) H) : gName 5 v (a0 :: a1 :: a2 :: a3 :: a4 :: a5 :: σ) H QS := q
theorem x_v6 (q : Q v H) : tVar 6 (a0 :: a1 :: a2 :: a3 :: a4 :: a5 :: some v :: σ) H Q := ⟨_, rfl, q⟩
theorem x_g6 (q : QS (a0 :: a1 :: a2 :: a3 :: a4 :: a5 :: some v :: σ) H) : gName 6 v (a0 :: a1 :: a2 :: a3 :: a4 :: a5 :: a6 :: σ) H QS := q
theorem x_v7 (q : Q v H) : tVar 7 (a0 :: a1 :: a2 :: a3 :: a4 :: a5 :: a6 :: some v :: σ) H Q := ⟨_, rfl, q⟩
theorem x_g7 (q : QS (a0 :: a1 :: a2 :: a3 :: a4 :: a5 :: a6 :: some v :: σ) H) : gName 7 v (a0 :: a1 :: a2 :: a3 :: a4 :: a5 :: a6 :: a7 :: σ) H QS := q
theorem x_v8 (q : Q v H) : tVar 8 (a0 :: a1 :: a2 :: a3 :: a4 :: a5 :: a6 :: a7 :: some v :: σ) H Q := ⟨_, rfl, q⟩
theorem x_g8 (q : QS (a0 :: a1 :: a2 :: a3 :: a4 :: a5 :: a6 :: a7 :: some v :: σ) H) : gName 8 v (a0 :: a1 :: a2 :: a3 :: a4 :: a5 :: a6 :: a7 :: a8 :: σ) H QS := q
theorem x_v9 (q : Q v H) : tVar 9 (a0 :: a1 :: a2 :: a3 :: a4 :: a5 :: a6 :: a7 :: a8 :: some v :: σ) H Q := ⟨_, rfl, q⟩
theorem x_g9 (q : QS (a0 :: a1 :: a2 :: a3 :: a4 :: a5 :: a6 :: a7 :: a8 :: some v :: σ) H) : gName 9 v (a0 :: a1 :: a2 :: a3 :: a4 :: a5 :: a6 :: a7 :: a8 :: a9 :: σ) H QS := q
theorem x_v10 (q : Q v H) : tVar 10 (a0 :: a1 :: a2 :: a3 :: a4 :: a5 :: a6 :: a7 :: a8 :: a9 :: some v :: σ) H Q := ⟨_, rfl, q⟩
theorem x_g10 (q : QS (a0 :: a1 :: a2 :: a3 :: a4 :: a5 :: a6 :: a7 :: a8 :: a9 :: some v :: σ) H) : gName 10 v (a0 :: a1 :: a2 :: a3 :: a4 :: a5 :: a6 :: a7 :: a8 :: a9 :: a10 :: σ) H QS := q
theorem x_v11 (q : Q v H) : tVar 11 (a0 :: a1 :: a2 :: a3 :: a4 :: a5 :: a6 :: a7 :: a8 :: a9 :: a10 :: some v :: σ) H Q := ⟨_, rfl, q⟩
theorem x_g11 (q : QS (a0 :: a1 :: a2 :: a3 :: a4 :: a5 :: a6 :: a7 :: a8 :: a9 :: a10 :: some v :: σ) H) : gName 11 v (a0 :: a1 :: a2 :: a3 :: a4 :: a5 :: a6 :: a7 :: a8 :: a9 :: a10 :: a11 :: σ) H QS := q
theorem x_v12 (q : Q v H) : tVar 12 (a0 :: a1 :: a2 :: a3 :: a4 :: a5 :: a6 :: a7 :: a8 :: a9 :: a10 :: a11 :: some v :: σ) H Q := ⟨_, rfl, q⟩
theorem x_g12 (q : QS (a0 :: a1 :: a2 :: a3 :: a4 :: a5 :: a6 :: a7 :: a8 :: a9 :: a10 :: a11 :: some v :: σ) H) : gName 12 v (a0 :: a1 :: a2 :: a3 :: a4 :: a5 :: a6 :: a7 :: a8 :: a9 :: a10 :: a11 :: a12 :: σ) H QS := q
theorem x_v13 (q : Q v H) : tVar 13 (a0 :: a1 :: a2 :: a3 :: a4 :: a5 :: a6 :: a7 :: a8 :: a9 :: a10 :: a11 :: a12 :: some v :: σ) H Q := ⟨_, rfl, q⟩
theorem x_g13 (q : QS (a0 :: a1 :: a2 :: a3 :: a4 :: a5 :: a6 :: a7 :: a8 :: a9 :: a10 :: a11 :: a12 :: some v :: σ) H) : gName 13 v (a0 :: a1 :: a2 :: a3 :: a4 :: a5 :: a6 :: a7 :: a8 :: a9 :: a10 :: a11 :: a12 :: a13 :: σ) H QS := q
theorem x_v14 (q : Q v H) : tVar 14 (a0 :: a1 :: a2 :: a3 :: a4 :: a5 :: a6 :: a7 :: a8 :: a9 :: a10 :: a11 :: a12 :: a13 :: some v :: σ) H Q := ⟨_, rfl, q⟩
theorem x_g14 (q : QS (a0 :: a1 :: a2 :: a3 :: a4 :: a5 :: a6 :: a7 :: a8 :: a9 :: a10 :: a11 :: a12 :: a13 :: some v :: σ) H) : gName 14 v (a0 :: a1 :: a2 :: a3 :: a4 :: a5 :: a6 :: a7 :: a8 :: a9 :: a10 :: a11 :: a12 :: a13 :: a14 :: σ) H QS := q
theorem x_v15 (q : Q v H) : tVar 15 (a0 :: a1 :: a2 :: a3 :: a4 :: a5 :: a6 :: a7 :: a8 :: a9 :: a10 :: a11 :: a12 :: a13 :: a14 :: some v :: σ) H Q := ⟨_, rfl, q⟩
theorem x_g15 (q : QS (a0 :: a1 :: a2 :: a3 :: a4 :: a5 :: a6 :: a7 :: a8 :: a9 :: a10 :: a11 :: a12 :: a13 :: a14 :: some v :: σ) H) : gName 15 v (a0 :: a1 :: a2 :: a3 :: a4 :: a5 :: a6 :: a7 :: a8 :: a9 :: a10 :: a11 :: a12 :: a13 :: a14 :: a15 :: σ) H QS := q
theorem x_v16 (q : Q v H) : tVar 16 (a0 :: a1 :: a2 :: a3 :: a4 :: a5 :: a6 :: a7 :: a8 :: a9 :: a10 :: a11 :: a12 :: a13 :: a14 :: a15 :: some v :: σ) H Q := ⟨_, rfl, q⟩
theorem x_g16 (q : QS (a0 :: a1 :: a2 :: a3 :: a4 :: a5 :: a6 :: a7 :: a8 :: a9 :: a10 :: a11 :: a12 :: a13 :: a14 :: a15 :: some v :: σ) H) : gName 16 v (a0 :: a1 :: a2 :: a3 :: a4 :: a5 :: a6 :: a7 :: a8 :: a9 :: a10 :: a11 :: a12 :: a13 :: a14 :: a15 :: a16 :: σ) H QS := q
theorem x_v17 (q : Q v H) : tVar 17 (a0 :: a1 :: a2 :: a3 :: a4 :: a5 :: a6 :: a7 :: a8 :: a9 :: a10 :: a11 :: a12 :: a13 :: a14 :: a15 :: a16 :: some v :: σ) H Q := ⟨_, rfl, q⟩
theorem x_g17 (q : QS (a0 :: a1 :: a2 :: a3 :: a4 :: a5 :: a6 :: a7 :: a8 :: a9 :: a10 :: a11 :: a12 :: a13 :: a14 :: a15 :: a16 :: some v :: σ) H) : gName 17 v (a0 :: a1 :: a2 :: a3 :: a4 :: a5 :: a6 :: a7 :: a8 :: a9 :: a10 :: a11 :: a12 :: a13 :: a14 :: a15 :: a16 :: a17 :: σ) H QS := q
theorem x_v18 (q : Q v H) : tVar 18 (a0 :: a1 :: a2 :: a3 :: a4 :: a5 :: a6 :: a7 :: a8 :: a9 :: a10 :: a11 :: a12 :: a13 :: a14 :: a15 :: a16 :: a17 :: some v :: σ) H Q := ⟨_, rfl, q⟩
theorem x_g18 (q : QS (a0 :: a1 :: a2 :: a3 :: a4 :: a5 :: a6 :: a7 :: a8 :: a9 :: a10 :: a11 :: a12 :: a13 :: a14 :: a15 :: a16 :: a17 :: some v :: σ) H) : gName 18 v (a0 :: a1 :: a2 :: a3 :: a4 :: a5 :: a6 :: a7 :: a8 :: a9 :: a10 :: a11 :: a12 :: a13 :: a14 :: a15 :: a16 :: a17 :: a18 :: σ) H QS := q
theorem x_v19 (q : Q v H) : tVar 19 (a0 :: a1 :: a2 :: a3 :: a4 :: a5 :: a6 :: a7 :: a8 :: a9 :: a10 :: a11 :: a12 :: a13 :: a14 :: a15 :: a16 :: a17 :: a18 :: some v :: σ) H Q := ⟨_, rfl, q⟩
theorem x_g19 (q : QS (a0 :: a1 :: a2 :: a3 :: a4 :: a5 :: a6 :: a7 :: a8 :: a9 :: a10 :: a11 :: a12 :: a13 :: a14 :: a15 :: a16 :: a17 :: a18 :: some v :: σ) H) : gName 19 v (a0 :: a1 :: a2 :: a3 :: a4 :: a5 :: a6 :: a7 :: a8 :: a9 :: a10 :: a11 :: a12 :: a13 :: a14 :: a15 :: a16 :: a17 :: a18 :: a19 :: σ) H QS := q
theorem x_c (q : Q v H) : tC v σ H Q := q
theorem x_op {r : R2} (q : te σ H fun x H1 => tb σ H1 fun y H2 => r x y H2 Q) : tOp r te tb σ H Q := q
theorem x_un {r : V → Hp → VK → Prop} (q : te σ H fun x H1 => r x H1 Q) : tUn r te σ H Q := q
theorem x_test (q : te σ H fun x H1 => ∃ k, x = .bl k ∧ QB k H1) : tTest te σ H QB := q
theorem x_tB (q : te σ H fun x H1 => ∃ k, x = .bl k ∧ QB k H1) : tB te σ H QB := q
theorem x_and (q : t σ H fun c H1 => if c = true then u σ H1 QB else QB false H1) : tAnd t u σ H QB := q
theorem x_or (q : t σ H fun c H1 => if c = true then QB true H1 else u σ H1 QB) : tOr t u σ H QB := q
theorem x_not (q : t σ H fun c H1 => QB (!c) H1) : tNot t σ H QB := q
theorem x_andV (q : te σ H fun x H1 => ∃ c, x = .bl c ∧ if c = true then tb σ H1 Q else Q (.bl false) H1) : tAndV te tb σ H Q := q
theorem x_orV (q : te σ H fun x H1 => ∃ c, x = .bl c ∧ if c = true then Q (.bl true) H1 else tb σ H1 Q) : tOrV te tb σ H Q := q
theorem x_notV (q : te σ H fun x H1 => ∃ c, x = .bl c ∧ Q (.bl (!c)) H1) : tNotV te σ H Q := q
theorem x_if (q : t σ H fun c H1 => if c = true then te σ H1 Q else tb σ H1 Q) : tIf t te tb σ H Q := q
theorem x_ifS (q : t σ H fun b H1 => if b = true then ts D σ H1 else us D σ H1) : tIfS t ts us D σ H := q
theorem x_seq (q : ts ⟨us D, D.rt, D.bk, D.ct⟩ σ H) : tSeq ts us D σ H := q
theorem x_next (q : D.nx σ H) : tNext D σ H := q
theorem x_brk (q : D.bk σ H) : tBreak D σ H := q
theorem x_cont (q : D.ct σ H) : tCont D σ H := q
theorem x_nx {f : L2.St → Hp → Prop} {r : VK} {b c : L2.St → Hp → Prop} (q : f σ H) : Ends.nx ⟨f, r, b, c⟩ σ H := q
theorem x_rt {f : VK} {n b c : L2.St → Hp → Prop} (q : f v H) : Ends.rt ⟨n, f, b, c⟩ v H := q
theorem x_bk {f : L2.St → Hp → Prop} {r : VK} {n c : L2.St → Hp → Prop} (q : f σ H) : Ends.bk ⟨n, r, f, c⟩ σ H := q
theorem x_ct {f : L2.St → Hp → Prop} {r : VK} {n b : L2.St → Hp → Prop} (q : f σ H) : Ends.ct ⟨n, r, b, f⟩ σ H := q
theorem x_drop (q : te σ H fun _ H1 => D.nx σ H1) : tDrop te D σ H := q
theorem x_ret (q : te σ H fun x H1 => D.rt x H1) : tRet te D σ H := q
theorem x_retN (q : D.rt .non H) : tRetN D σ H := q
theorem x_asg (q : te σ H fun x H1 => g x σ H1 D.nx) : tAsg te g D σ H := q
theorem x_nil (q : QL [] H) : tNil σ H QL := q
theorem x_cons (q : te σ H fun x H1 => ta σ H1 fun xs H2 => QL (x :: xs) H2) : tCons te ta σ H QL := q
theorem x_call {sp : Sp} {dvs : List V} {E : XK} (q : ta σ H fun vs H1 => sp (vs ++ dvs) H1 Q E) : tCall sp dvs E ta σ H Q := q
theorem x_cb {r : List V → Hp → VK → Prop} (q : ta σ H fun vs H1 => r vs H1 Q) : tCB r ta σ H Q := q
theorem x_bm {T : String} {r : V → List V → Hp → VK → Prop} (q : te σ H fun x H1 => tyV K T x H1 ∧ ta σ H1 fun xs H2 => r x xs H2 Q) : tBM K T r te ta σ H Q := q
theorem x_sl {r : V → Option Int → Option Int → Hp → VK → Prop} {tl th : TO} (q : te σ H fun x H1 => tl σ H1 fun l H2 => th σ H2 fun u H3 => r x l u H3 Q) : tSl r te tl th σ H Q := q
theorem x_np (q : QO none H) : tNoPart σ H QO := q
theorem x_pt (q : te σ H fun x H1 => ∃ i, x = .int i ∧ QO (some i) H1) : tPart te σ H QO := q
theorem x_exI {P : Int → Prop} {i : Int} (q : P i) : ∃ k, V.int i = V.int k ∧ P k := ⟨_, rfl, q⟩
theorem x_exB {P : Bool → Prop} {b : Bool} (q : P b) : ∃ k, V.bl b = V.bl k ∧ P k := ⟨_, rfl, q⟩
theorem x_I0 {f : Int → Int → V} {i j : Int} (q : Q (f i j) H) : rI0 f (.int i) (.int j) H Q := ⟨_, _, rfl, rfl, q⟩
theorem x_eqI {i j : Int} (q : Q (.bl (decide (i = j))) H) : rEq (.int i) (.int j) H Q := ⟨rfl, by rw [My.dec_int]; exact q⟩
theorem x_neI {i j : Int} (q : Q (.bl (!decide (i = j))) H) : rNe (.int i) (.int j) H Q := ⟨rfl, by rw [My.dec_int]; exact q⟩
theorem x_eqS {i j : Str} (q : Q (.bl (decide (i = j))) H) : rEq (.str i) (.str j) H Q := ⟨rfl, by
  have e : decide (V.str i = V.str j) = decide (i = j) := by
    by_cases h : i = j
    · rw [decide_eq_true h, decide_eq_true (congrArg V.str h)]
    · rw [decide_eq_false h, decide_eq_false (fun z => h (V.str.inj z))]
  rw [e]; exact q⟩
theorem x_neS {i j : Str} (q : Q (.bl (!decide (i = j))) H) : rNe (.str i) (.str j) H Q := ⟨rfl, by
  have e : decide (V.str i = V.str j) = decide (i = j) := by
    by_cases h : i = j
    · rw [decide_eq_true h, decide_eq_true (congrArg V.str h)]
    · rw [decide_eq_false h, decide_eq_false (fun z => h (V.str.inj z))]
  rw [e]; exact q⟩
def brB (b : Bool) (p q : Prop) : Prop := (b = true → p) ∧ (b = false → q)
theorem x_ite {b : Bool} {p q : Prop} (h : brB b p q) : if b = true then p else q := by
  cases b with
  | true => rw [if_pos rfl]; exact h.1 rfl
  | false => rw [if_neg Bool.false_ne_true]; exact h.2 rfl
theorem x_brT {p q : Prop} (h : p) : brB true p q := ⟨fun _ => h, fun z => nomatch z⟩
theorem x_brF {p q : Prop} (h : q) : brB false p q := ⟨fun z => (nomatch z), fun _ => h⟩
theorem x_brN {b : Bool} {p q : Prop} (h : brB b q p) : brB (!b) p q := by
  cases b with
  | true => exact x_brF (h.1 rfl)
  | false => exact x_brT (h.2 rfl)
theorem br2 {b : Bool} {p q : Prop} (h1 : b = true → p) (h2 : b = false → q) : brB b p q := ⟨h1, h2⟩
theorem brD {c : Prop} [Decidable c] {p q : Prop} (h1 : c → p) (h2 : ¬ c → q) : brB (decide c) p q := ⟨fun h => h1 (of_decide_eq_true h), fun h => h2 (of_decide_eq_false h)⟩
theorem brT {b : Bool} {p q : Prop} (e : b = true) (h : p) : brB b p q := ⟨fun _ => h, fun z => by rw [e] at z; cases z⟩
theorem brF {b : Bool} {p q : Prop} (e : b = false) (h : q) : brB b p q := ⟨fun z => (by rw [e] at z; cases z), fun _ => h⟩
theorem brDT {c : Prop} [Decidable c] {p q : Prop} (e : c) (h : p) : brB (decide c) p q := brT (decide_eq_true e) h
theorem brDF {c : Prop} [Decidable c] {p q : Prop} (e : ¬ c) (h : q) : brB (decide c) p q := brF (decide_eq_false e) h
theorem x_ixL {a : Addr} {xs : List V} {i : Int} (h : H a = some (.lst xs)) (hi : atI xs i = some v) (q : Q v H) : rIxL K (.ref a) (.int i) H Q := ⟨_, _, _, _, rfl, rfl, SqL.of h, hi, q⟩
theorem x_ixT {a : Addr} {xs : List V} {i : Int} (h : H a = some (.tup xs)) (hi : atI xs i = some v) (q : Q v H) : rIxT K (.ref a) (.int i) H Q := ⟨_, _, _, _, rfl, rfl, SqT.of h, hi, q⟩
def rNewL (xs : List V) (H : Hp) (Q : VK) : Prop := xs.length ≤ sizeLine ∧ ∀ p, H p = none → Q (.ref p) (L2.upd H p (.lst xs))
def rNewT (xs : List V) (H : Hp) (Q : VK) : Prop := xs.length ≤ sizeLine ∧ ∀ p, H p = none → Q (.ref p) (L2.upd H p (.tup xs))
theorem x_lst (q : ta σ H fun xs H1 => rNewL xs H1 Q) : tLst ta σ H Q := q
theorem x_tup (q : ta σ H fun xs H1 => rNewT xs H1 Q) : tTup ta σ H Q := q
theorem x_new {n : Nat} {P : Prop} (h : n ≤ 100000) (q : P) : n ≤ sizeLine ∧ P := ⟨Nat.le_trans h (by decide), q⟩
theorem x_sFld {f : Str} (q : tb σ H fun y H1 => te σ H1 fun x H2 => ∃ a C dx fs, x = .ref a ∧ H2 a = some (.ins C dx fs) ∧ Cls K C ∧ NoAttr K C f ∧ fs.length < 1000 ∧ D.nx σ (L2.upd H2 a (.ins C dx (putF f y fs)))) : sFld K te tb f D σ H := q
theorem x_fld {f : Str} (q : te σ H fun x H1 => ∃ a C dx fs v, x = .ref a ∧ H1 a = some (.ins C dx fs) ∧ Cls K C ∧ NoAttr K C f ∧ fs.lookup f = some v ∧ Q v H1) : tFld K te f σ H Q := q
/-- a field is stored -/
theorem fstore {f : Str} {y : V} {p C dx : Addr} {fs fs' : List (Str × V)} {P : Hp → Prop} (h : H p = some (.ins C dx fs)) (c : Cls K C) (n : NoAttr K C f) (l : fs.length < 1000) (e : putF f y fs = fs') (q : ∀ H', SameX p H H' → H' p = some (.ins C dx fs') → P H') :
    ∃ a C dx fs, V.ref p = .ref a ∧ H a = some (.ins C dx fs) ∧ Cls K C ∧ NoAttr K C f ∧ fs.length < 1000 ∧ P (L2.upd H a (.ins C dx (putF f y fs))) := ⟨p, C, dx, fs, rfl, h, c, n, l, q _ SameX.upd (by rw [e]; exact upd_same)⟩
/-- a field is read -/
theorem fget {f : Str} {v : V} {p C dx : Addr} {fs : List (Str × V)} {P : V → Prop} (h : H p = some (.ins C dx fs)) (c : Cls K C) (n : NoAttr K C f) (e : fs.lookup f = some v) (q : P v) :
    ∃ a C dx fs v, V.ref p = .ref a ∧ H a = some (.ins C dx fs) ∧ Cls K C ∧ NoAttr K C f ∧ fs.lookup f = some v ∧ P v := ⟨p, C, dx, fs, v, rfl, h, c, n, e, q⟩
/-- tuple(seq) -/
theorem tupleOf {a : Addr} {xs : List V} (h : SeqA K H a xs) (q : ∀ l H', Same H H' → SqT K H' l xs → Q (.ref l) H') :
    rTupOf K [.ref a] H Q :=
  ⟨a, xs, rfl, h.elim (fun h => .inl ⟨h, fun l hl => q l _ (Same.new hl) (SqT.of upd_same)⟩) fun h => .inr ⟨h, q a H (Same.refl H) h⟩⟩
/-- list(seq) -/
theorem listOf {a : Addr} {xs : List V} (h : SeqA K H a xs) (q : ∀ l H', H l = none → Same H H' → H' l = some (.lst xs) → Q (.ref l) H') :
    rLstOf K [.ref a] H Q := ⟨a, xs, rfl, h, fun l hl => q l _ hl (Same.new hl) upd_same⟩
/-- new lists, new tuples, sums of lists, appends, by what stands afterwards -/
theorem newList {xs : List V} (h : xs.length ≤ 100000) (q : ∀ l H', H l = none → Same H H' → H' l = some (.lst xs) → Q (.ref l) H') : rNewL xs H Q := ⟨Nat.le_trans h (by decide), fun l hl => q l _ hl (Same.new hl) upd_same⟩
theorem newTup {xs : List V} (h : xs.length ≤ 100000) (q : ∀ l H', H l = none → Same H H' → H' l = some (.tup xs) → Q (.ref l) H') : rNewT xs H Q := ⟨Nat.le_trans h (by decide), fun l hl => q l _ hl (Same.new hl) upd_same⟩
theorem catList {a b : Addr} {xs zs : List V} (ha : H a = some (.lst xs)) (hb : H b = some (.lst zs)) (h : xs.length + zs.length ≤ 100000) (q : ∀ l H', H l = none → Same H H' → H' l = some (.lst (xs ++ zs)) → Q (.ref l) H') : rCat (.ref a) (.ref b) H Q :=
  ⟨a, b, xs, zs, rfl, rfl, ha, hb, Nat.le_trans h (by decide), fun l hl => q l _ hl (Same.new hl) upd_same⟩
theorem appList {a : Addr} {xs : List V} {y : V} (ha : H a = some (.lst xs)) (h : xs.length < 100000) (q : ∀ H', SameX a H H' → H' a = some (.lst (xs ++ [y])) → Q .non H') : rAppend (.ref a) [y] H Q := ⟨a, xs, y, rfl, rfl, ha, Nat.lt_of_lt_of_le h (by decide), q _ SameX.upd upd_same⟩
theorem isList {a : Addr} {xs : List V} (ha : H a = some (.lst xs)) : tyV K "list" (.ref a) H := .inl ⟨rfl, xs, SqL.of ha⟩
theorem ixL {a : Addr} {xs : List V} {i : Nat} (ha : H a = some (.lst xs)) (hi : xs[i]? = some v) (q : Q v H) : rIxL K (.ref a) (.int (i : Int)) H Q := ⟨a, xs, i, v, rfl, rfl, SqL.of ha, atI_nat hi, q⟩
theorem ixT {a : Addr} {xs : List V} {i : Nat} (ha : SqT K H a xs) (hi : xs[i]? = some v) (q : Q v H) : rIxT K (.ref a) (.int (i : Int)) H Q := ⟨a, xs, i, v, rfl, rfl, ha, atI_nat hi, q⟩
theorem setL {a : Addr} {xs : List V} {i : Nat} {P : Hp → Prop} (ha : H a = some (.lst xs)) (hi : i < xs.length) (q : ∀ H', SameX a H H' → H' a = some (.lst (xs.set i v)) → P H') : rSetL (.ref a) (.int (i : Int)) v H P := ⟨a, xs, i, i, rfl, rfl, ha, ixN_nat rfl hi, q _ SameX.upd upd_same⟩
theorem lenA {a : Addr} {xs : List V} (h : SeqA K H a xs) (q : Q (.int (xs.length : Int)) H) : rLenOf K [.ref a] H Q := ⟨a, xs, rfl, h, q⟩
/-- what a for asks once its turns are known -/
def forK (J : It) (g : TG) (tb : TS) (D : Ends) (σ : L2.St) (H : Hp) : Prop := ∃ W : Nat → Nat → L2.St → Hp → Prop, (∃ m, W 0 m σ H) ∧ ∀ i m σ H, W i m σ H →
  (J.stop i H ∧ D.nx σ H) ∨ (J.go i H ∧ ∃ N : L2.St → Hp → Prop, (∀ σ' H', N σ' H' → ∃ m', m' < m ∧ W (i + 1) m' σ' H') ∧ ∀ x H', J.yld i H x H' → g x σ H' fun σ2 H2 => tb { D with nx := N, ct := N, bk := D.nx } σ2 H2)
def forI (g : TG) (tb : TS) (D : Ends) (σ : L2.St) (n : Int) (H : Hp) : Prop := ∃ j : Int, [V.int n] = [.int j] ∧ -(2 ^ 62) ≤ j ∧ j < 2 ^ 62 ∧ forK (Itr 0 j.toNat) g tb D σ H
theorem x_for1 (q : ta σ H fun vs H1 => ∃ j : Int, vs = [.int j] ∧ -(2 ^ 62) ≤ j ∧ j < 2 ^ 62 ∧ forK (Itr 0 j.toNat) g ts D σ H1) : tFor (iRng1 ta) g ts D σ H := q
theorem x_forL (q : te σ H fun x H1 => ∃ a, x = .ref a ∧ (∃ xs, SqL K H1 a xs) ∧ forK (Itl K a) g ts D σ H1) : tFor (iList K te) g ts D σ H := q
theorem x_forT (q : te σ H fun x H1 => ∃ a, x = .ref a ∧ (∃ xs, SqT K H1 a xs) ∧ forK (Itt K a) g ts D σ H1) : tFor (iTup K te) g ts D σ H := q
theorem rng1 {n : Int} (h0 : -100000 ≤ n) (h1 : n ≤ 100000) (q : forK (Itr 0 n.toNat) g ts D σ H) : ∃ j : Int, [V.int n] = [.int j] ∧ -(2 ^ 62) ≤ j ∧ j < 2 ^ 62 ∧ forK (Itr 0 j.toNat) g ts D σ H := ⟨n, rfl, by omega, by omega, q⟩
theorem overL {a : Addr} {xs : List V} (h : SqL K H a xs) (q : forK (Itl K a) g ts D σ H) : ∃ b, V.ref a = .ref b ∧ (∃ xs, SqL K H b xs) ∧ forK (Itl K b) g ts D σ H := ⟨a, rfl, ⟨_, h⟩, q⟩
theorem overT {a : Addr} {xs : List V} (h : SqT K H a xs) (q : forK (Itt K a) g ts D σ H) : ∃ b, V.ref a = .ref b ∧ (∃ xs, SqT K H b xs) ∧ forK (Itt K b) g ts D σ H := ⟨a, rfl, ⟨_, h⟩, q⟩
end
/-! ### steps: more readings by their form -/
theorem pe_fldK {X : Cx} {K : PySem.W.Frag} {e : Expr} {f : Str} {pos : Pos} {ta : TE} (eK : X.K = K) (he : PE X e ta) (hb : attributeBase e f X.env (eval e X.env) = eval e X.env) : PE X (.Attribute e f pos) (tFld K ta f) := eK ▸ pe_fld he hb
section
variable {K : PySem.W.Frag} {σ : L2.St} {H : Hp} {Q : VK} {QS : L2.St → Hp → Prop} {v : V} {te tb ti : TE} {tt : TT} {D : Ends}
theorem x_gsub {to ti : TE} {t : TSet} (q : to σ H fun o H1 => ti σ H1 fun i H2 => t o i v H2 fun H3 => QS σ H3) : gSub to ti t v σ H QS := q
theorem x_int1 {P : Int → Prop} {R : Prop} {i : Int} (q : P i) : (∃ k, [V.int i] = [V.int k] ∧ P k) ∨ R := .inl ⟨i, rfl, q⟩
theorem x_exL {P : Int → Prop} {i : Int} (q : P i) : ∃ k, [V.int i] = [V.int k] ∧ P k := ⟨i, rfl, q⟩
theorem min_if (i j : Int) : (if j < i then j else i) = min i j := by rw [Int.min_def]; split <;> split <;> omega
theorem max_if (i j : Int) : (if j > i then j else i) = max i j := by rw [Int.max_def]; split <;> split <;> omega
def rMin2 : List V → Hp → VK → Prop := fun xs H Q => ∃ i j, xs = [.int i, .int j] ∧ Q (.int (min i j)) H
def rMax2 : List V → Hp → VK → Prop := fun xs H Q => ∃ i j, xs = [.int i, .int j] ∧ Q (.int (max i j)) H
def ab (x : Int) : Int := if x < 0 then -x else x
def rAbs : List V → Hp → VK → Prop := fun xs H Q => ∃ i, xs = [.int i] ∧ Q (.int (ab i)) H
theorem call_min2K {X : Cx} (hc : X.calm = true) : CallR X (.builtin "min") rMin2 := by
  intro pins s σ H xs us Q I r h
  obtain ⟨i, j, e, q⟩ := h
  exact call_min2 hc pins s σ H xs us Q I r ⟨i, j, e, by rw [min_if]; exact q⟩
theorem call_max2K {X : Cx} (hc : X.calm = true) : CallR X (.builtin "max") rMax2 := by
  intro pins s σ H xs us Q I r h
  obtain ⟨i, j, e, q⟩ := h
  exact call_max2 hc pins s σ H xs us Q I r ⟨i, j, e, by rw [max_if]; exact q⟩
theorem call_absK {X : Cx} : CallR X (.builtin "abs") rAbs := call_abs
theorem x_min2 {i j : Int} (q : Q (.int (min i j)) H) : rMin2 [.int i, .int j] H Q := ⟨i, j, rfl, q⟩
theorem x_max2 {i j : Int} (q : Q (.int (max i j)) H) : rMax2 [.int i, .int j] H Q := ⟨i, j, rfl, q⟩
theorem x_abs {i : Int} (q : Q (.int (ab i)) H) : rAbs [.int i] H Q := ⟨i, rfl, q⟩
theorem x_brTT {p q : Prop} (h : p) : brB (true && true) p q := x_brT h
theorem x_mod {i j : Int} (h : 0 < j) (q : Q (.int (i % j)) H) : rI (fun _ j => 0 < j) (fun i j => .int (i % j)) (.int i) (.int j) H Q := ⟨i, j, rfl, rfl, h, q⟩
theorem x_mulR {i j : Int} (h : -(2 ^ 64) < j ∧ j < 2 ^ 64) (q : Q (.int (i * j)) H) : rI CMul (fun i j => .int (i * j)) (.int i) (.int j) H Q := ⟨i, j, rfl, rfl, .inr h, q⟩
theorem x_mulL {i j : Int} (h : -(2 ^ 64) < i ∧ i < 2 ^ 64) (q : Q (.int (i * j)) H) : rI CMul (fun i j => .int (i * j)) (.int i) (.int j) H Q := ⟨i, j, rfl, rfl, .inl h, q⟩
theorem x_div {i j : Int} (h : 0 < j ∧ j < 1073741824) (q : Q (.int (i / j)) H) : rI CDiv (fun i j => .int (i / j)) (.int i) (.int j) H Q := ⟨i, j, rfl, rfl, h, q⟩
theorem x_divW {i j : Int} (h0 : 0 < j) (h : j < 2 ^ 62) (q : Q (.int (i / j)) H) : rI CDivW (fun i j => .int (i / j)) (.int i) (.int j) H Q := ⟨i, j, rfl, rfl, ⟨h0, Nat.lt_trans (PySem.Flt.log2_lt_of (k := 62) (by decide) (by omega)) (by decide)⟩, q⟩
theorem x_pow {i j : Int} (h : 0 ≤ j ∧ j ≤ 1000000 ∧ i.natAbs < 2 ^ 64) (q : Q (.int (i ^ j.toNat)) H) : rI CPow (fun i j => .int (i ^ j.toNat)) (.int i) (.int j) H Q := ⟨i, j, rfl, rfl, h, q⟩
theorem x_nN {P : Prop} (q : P) : V.non = V.non ∧ P := ⟨rfl, q⟩
theorem x_chain {r r' : R2} {tc : TE} (q : te σ H fun x H1 => tb σ H1 fun y H2 => r x y H2 fun z H3 => ∃ k, z = .bl k ∧ brB k (tc σ H3 fun w' H4 => r' y w' H4 Q) (Q (.bl false) H3)) : tChain r r' te tb tc σ H Q := by
  refine cast (congrArg (fun z => te σ H z) ?_) q
  funext x H1
  refine congrArg (fun z => tb σ H1 z) ?_
  funext y H2
  refine congrArg (fun z => r x y H2 z) ?_
  funext z H3
  refine congrArg Exists ?_
  funext k
  refine congrArg (fun p => z = .bl k ∧ p) ?_
  exact propext ⟨fun h => x_ite h, fun h => by cases k with
    | true => exact x_brT (by rw [if_pos rfl] at h; exact h)
    | false => exact x_brF (by rw [if_neg Bool.false_ne_true] at h; exact h)⟩
theorem x_meth {C : Addr} {m : Str} {sp : Sp} {dvs : List V} {E : XK} {ta : TE} {t : TA} (q : ta σ H fun x H1 => ∃ a dx fs, x = .ref a ∧ H1 a = some (.ins C dx fs) ∧ fs.lookup m = none ∧ t σ H1 fun vs H2 => sp (x :: (vs ++ dvs)) H2 Q E) : tMeth C m sp dvs E ta t σ H Q := q
theorem x_prop {C : Addr} {sp : Sp} {dvs : List V} {E : XK} {ta : TE} (q : ta σ H fun x H1 => ∃ a dx fs, x = .ref a ∧ H1 a = some (.ins C dx fs) ∧ sp (.ref a :: dvs) H1 Q E) : tProp C sp dvs E ta σ H Q := q
theorem x_make {C : Addr} {sp : Sp} {dvs : List V} {E : XK} {t : TA} (q : t σ H fun vs H1 => ∀ x dx, H1 x = none → H1 dx = none → dx ≠ x → sp (.ref x :: (vs ++ dvs)) (upd (upd H1 dx (.own x)) x (.ins C dx [])) (fun v H2 => v = .non ∧ Q (.ref x) H2) E) : tMake C sp dvs E t σ H Q := q
theorem x_fldaug {rd : V → V → Hp → VK → Prop} {f : Str} (q : te σ H fun x H1 => ∃ a C dx fs v, x = .ref a ∧ H1 a = some (.ins C dx fs) ∧ Cls K C ∧ NoAttr K C f ∧ fs.lookup f = some v ∧ tb σ H1 fun y H2 => rd v y H2 fun z H3 => ∃ dx' fs', H3 a = some (.ins C dx' fs') ∧ fs'.length < 1000 ∧ D.nx σ (L2.upd H3 a (.ins C dx' (putF f z fs')))) : sFldAug K te tb rd f D σ H := q
theorem x_rAdd {i j : Int} (q : Q (.int (i + j)) H) : rAdd (.int i) (.int j) H Q := ⟨i, j, rfl, rfl, q⟩
theorem x_ipI {f : Int → Int → Int} {i j : Int} (q : Q (.int (f i j)) H) : ipI f (.int i) (.int j) H Q := ⟨i, j, rfl, rfl, q⟩
theorem x_rSub {i j : Int} (q : Q (.int (i - j)) H) : rSub (.int i) (.int j) H Q := ⟨i, j, rfl, rfl, q⟩
theorem rngF {n : Int} {g : TG} {ts : TS} (h0 : -100000 ≤ n) (h1 : n ≤ 100000) (q : forK (Itr 0 n.toNat) g ts D σ H) : -(2 ^ 62) ≤ n ∧ n < 2 ^ 62 ∧ forK (Itr 0 n.toNat) g ts D σ H := ⟨by omega, by omega, q⟩
/-- a field is raised -/
theorem fraise {f : Str} {p C dx : Addr} {fs : List (Str × V)} {P : Hp → Prop} {T : V → V → Hp → VK → Prop} {tv : TE} {σ : L2.St} (h : H p = some (.ins C dx fs)) (c : Cls K C) (n : NoAttr K C f) (l : fs.length < 1000) (e : fs.lookup f = some v)
    (q : tv σ H fun y H2 => T v y H2 fun z H3 => ∃ dx' fs', H3 p = some (.ins C dx' fs') ∧ fs'.length < 1000 ∧ P (L2.upd H3 p (.ins C dx' (putF f z fs')))) :
    ∃ a C dx fs v, V.ref p = .ref a ∧ H a = some (.ins C dx fs) ∧ Cls K C ∧ NoAttr K C f ∧ fs.lookup f = some v ∧ tv σ H fun y H2 => T v y H2 fun z H3 => ∃ dx' fs', H3 a = some (.ins C dx' fs') ∧ fs'.length < 1000 ∧ P (L2.upd H3 a (.ins C dx' (putF f z fs'))) := ⟨p, C, dx, fs, v, rfl, h, c, n, e, q⟩
theorem fput {f : Str} {z : V} {p C dx : Addr} {fs fs' : List (Str × V)} {P : Hp → Prop} (h : H p = some (.ins C dx fs)) (l : fs.length < 1000) (e : putF f z fs = fs') (q : ∀ H', SameX p H H' → H' p = some (.ins C dx fs') → P H') :
    ∃ dx' fs', H p = some (.ins C dx' fs') ∧ fs'.length < 1000 ∧ P (L2.upd H p (.ins C dx' (putF f z fs'))) := ⟨dx, fs, h, l, q _ SameX.upd (by rw [e]; exact upd_same)⟩
end
/-! ### o[i] op= e, o a list -/
theorem pget_list {X : Cx} : PGet X (rIxL X.K) := by
  intro pins s σ H o i ov iv Q I ro ri h
  obtain ⟨p, xs, k, z, rfl, rfl, hq, he, q⟩ := h
  cases ro
  obtain ⟨t, rfl⟩ := ri
  obtain ⟨its, r, pl, hz⟩ := I.list hq
  obtain ⟨j, h1, h2, h3, h4, h5⟩ := atI_get he
  obtain ⟨w, ew, rw'⟩ := r.get h2
  have hl := r.length
  have hn := line63
  have fin : EP X pins σ Q w s := ⟨z, H, I, rw', q⟩
  by_cases h0 : 0 ≤ k
  · have hj : k.toNat = j := by
      rw [seqIndex_of h0 h5] at h1
      exact Option.some.inj h1
    exact wpAny_getItem_list pl.isList h0 (by omega) (by rw [hj]; simpa using ew) fin
  · have hj : (k + (its.toArray.size : Int)).toNat = j := by
      rw [seqIndex_neg (by omega) h4] at h1
      rw [List.size_toArray, ← hl]
      exact Option.some.inj h1
    exact wpAny_getItem_list_neg pl.isList (by omega) (by rw [List.size_toArray] <;> omega) (by omega) (by rw [hj]; simpa using ew) fin
theorem x_augS {to ti te : TE} {tget : V → V → Hp → VK → Prop} {tip : TIp} {tset : TSet} {D : Ends} {σ : L2.St} {H : Hp} (q : to σ H fun o H1 => ti σ H1 fun i H2 => tget o i H2 fun x H3 => te σ H3 fun y H4 => tip x y H4 fun z H5 => tset o i z H5 fun H6 => D.nx σ H6) : tAugS to ti te tget tip tset D σ H := q
theorem x_negU {i : Int} {H : Hp} {Q : VK} (q : Q (.int (-i)) H) : rU (fun i => .int (-i)) (.int i) H Q := ⟨i, rfl, q⟩
/-- for_range, by its name -/
theorem for_rangeK {lo : Int} {n : Nat} {g : TG} {ts : TS} {D : Ends} {σ : L2.St} {H : Hp} (Pv : Nat → L2.St → Hp → Prop) (h0 : Pv 0 σ H)
    (hs : ∀ i σ H, i < n → Pv i σ H → g (.int (lo + i)) σ H fun σ2 H2 => ts { D with nx := Pv (i + 1), ct := Pv (i + 1), bk := D.nx } σ2 H2) (hd : ∀ σ H, Pv n σ H → D.nx σ H) : forK (Itr lo n) g ts D σ H := for_range Pv h0 hs hd
local macro_rules
  | `(tactic| w_up) => `(tactic| with_reducible first
    | refine x_seq ?_ | refine x_asg ?_ | refine x_op ?_ | refine x_c ?_
    | refine x_v0 ?_ | refine x_v1 ?_ | refine x_v2 ?_ | refine x_v3 ?_ | refine x_v4 ?_ | refine x_v5 ?_ | refine x_v6 ?_ | refine x_v7 ?_ | refine x_v8 ?_ | refine x_v9 ?_ | refine x_v10 ?_ | refine x_v11 ?_ | refine x_v12 ?_ | refine x_v13 ?_ | refine x_v14 ?_ | refine x_v15 ?_ | refine x_v16 ?_ | refine x_v17 ?_ | refine x_v18 ?_ | refine x_v19 ?_
    | refine x_g0 ?_ | refine x_g1 ?_ | refine x_g2 ?_ | refine x_g3 ?_ | refine x_g4 ?_ | refine x_g5 ?_ | refine x_g6 ?_ | refine x_g7 ?_ | refine x_g8 ?_ | refine x_g9 ?_ | refine x_g10 ?_ | refine x_g11 ?_ | refine x_g12 ?_ | refine x_g13 ?_ | refine x_g14 ?_ | refine x_g15 ?_ | refine x_g16 ?_ | refine x_g17 ?_ | refine x_g18 ?_ | refine x_g19 ?_
    | refine x_cons ?_ | refine x_nil ?_ | refine x_I0 ?_ | refine x_exI ?_ | refine x_exB ?_ | refine x_eqI ?_ | refine x_neI ?_ | refine x_eqS ?_ | refine x_neS ?_
    | refine x_test ?_ | refine x_tB ?_ | refine x_ifS ?_ | refine x_if ?_ | refine x_and ?_ | refine x_or ?_ | refine x_not ?_ | refine x_andV ?_ | refine x_orV ?_ | refine x_notV ?_
    | refine x_ite ?_ | refine x_brT ?_ | refine x_brF ?_ | refine x_brN ?_
    | refine x_call ?_ | refine x_for1 ?_ | refine x_forL ?_ | refine x_forT ?_ | refine x_sFld ?_ | refine x_fld ?_ | refine x_cb ?_ | refine x_bm ?_ | refine x_un ?_ | refine x_sl ?_ | refine x_np ?_ | refine x_pt ?_
    | refine x_next ?_ | refine x_ret ?_ | refine x_retN ?_ | refine x_drop ?_ | refine x_brk ?_ | refine x_cont ?_ | refine x_lst ?_ | refine x_tup ?_ | dsimp only | dsimp only [List.set_cons_succ, List.set_cons_zero])
local macro_rules
  | `(tactic| o_args) => `(tactic| repeat w_up)
local macro_rules
  | `(tactic| w_up) => `(tactic| first
    | with_reducible refine x_augS ?_ | with_reducible refine x_negU ?_ | with_reducible refine x_gsub ?_ | with_reducible refine x_int1 ?_ | with_reducible refine x_exL ?_ | with_reducible refine x_min2 ?_ | with_reducible refine x_max2 ?_ | with_reducible refine x_abs ?_ | with_reducible refine x_brTT ?_
    | with_reducible refine x_mod (by decide) ?_ | with_reducible refine x_mulR ⟨by decide, by decide⟩ ?_ | with_reducible refine x_mulL ⟨by decide, by decide⟩ ?_ | with_reducible refine x_div ⟨by decide, by decide⟩ ?_
    | with_reducible refine x_pow ⟨by decide, by decide, by decide⟩ ?_
    | with_reducible refine x_nN ?_ | with_reducible refine x_chain ?_ | with_reducible refine x_meth ?_ | with_reducible refine x_prop ?_ | with_reducible refine x_make ?_ | with_reducible refine x_fldaug ?_ | with_reducible refine x_ipI ?_ | with_reducible refine x_rAdd ?_ | with_reducible refine x_rSub ?_
    | with_reducible refine brDT (by decide) ?_ | with_reducible refine brDF (by decide) ?_
    | with_reducible refine x_ixT (by assumption) (by with_unfolding_all exact rfl) ?_
    | with_reducible refine x_ixL (by assumption) (by with_unfolding_all exact rfl) ?_)
/-! ### general words -/
theorem Same.ofX {D : Addr} {H H' : Hp} (hD : H D = none) (s : SameX D H H') : Same H H' := fun b o e => s b o (ne_of_none e hD) e
theorem getq_lt {α : Type} {xs : List α} {i : Nat} {x : α} (h : xs[i]? = some x) : i < xs.length := (List.getElem?_eq_some_iff.mp h).1
theorem getq_app {α : Type} {vs : List α} {v w : α} {k : Nat} (h : (vs ++ [v])[k]? = some w) : (k < vs.length ∧ vs[k]? = some w) ∨ (k = vs.length ∧ w = v) := by
  have hk := getq_lt h
  rw [List.length_append] at hk
  have hk : k < vs.length + 1 := hk
  by_cases q : k < vs.length
  · rw [List.getElem?_append_left q] at h
    exact .inl ⟨q, h⟩
  · have e : k = vs.length := by omega
    subst e
    rw [List.getElem?_append_right (Nat.le_refl _), Nat.sub_self] at h
    exact .inr ⟨rfl, (Option.some.inj h).symm⟩
theorem none_back {p l : Addr} {H H' : Hp} (s : SameX p H H') (n : l ≠ p) (h : H' l = none) : H l = none := by
  cases q : H l with
  | none => rfl
  | some o => rw [s _ _ n q] at h; cases h
theorem none_of {H H' : Hp} {l : Addr} (s : Same H H') (h : H' l = none) : H l = none := by
  cases q : H l with
  | none => rfl
  | some o => rw [s _ _ q] at h; cases h
/-- only lists change -/
def LS (H H' : Hp) : Prop := ∀ a o, (∀ xs, o ≠ .lst xs) → H a = some o → H' a = some o
theorem LS.refl (H : Hp) : LS H H := fun _ _ _ h => h
theorem LS.trans {H H1 H2 : Hp} (x : LS H H1) (y : LS H1 H2) : LS H H2 := fun a o n h => y a o n (x a o n h)
theorem LS.of {H H' : Hp} (s : Same H H') : LS H H' := fun a o _ h => s a o h
theorem LS.ofX {H H' : Hp} {p : Addr} {xs : List V} (hp : H p = some (.lst xs)) (s : SameX p H H') : LS H H' := fun a o n h => s a o (fun e => by subst e; rw [hp] at h; cases h; exact n _ rfl) h
theorem LS.sqT {K : PySem.W.Frag} {H H' : Hp} {a : Addr} {xs : List V} (s : LS H H') (h : SqT K H a xs) : SqT K H' a xs := by
  rcases h with (h | ⟨o, h⟩) | h
  · exact .inl (.inl (s _ _ (fun _ z => nomatch z) h))
  · exact .inl (.inr ⟨o, s _ _ (fun _ z => nomatch z) h⟩)
  · exact .inr h
theorem sliceL {K : PySem.W.Frag} {H : Hp} {Q : VK} {a : Addr} {xs : List V} {lo hi : Option Int} (h : SqL K H a xs) (q : ∀ l H', H l = none → Same H H' → H' l = some (.lst (cutV xs lo hi)) → Q (.ref l) H') : rSlL K (.ref a) lo hi H Q := ⟨a, xs, rfl, h, fun l hl => q l _ hl (Same.new hl) upd_same⟩
theorem cut_to (xs : List V) (i : Nat) : cutV xs none (some (i : Int)) = xs.take i := by
  have e1 : HT.sIx xs.length 0 none = 0 := rfl
  have e2 : HT.sIx xs.length xs.length (some (i : Int)) = min i xs.length := by
    unfold HT.sIx
    simp
    intro h
    omega
  unfold cutV
  rw [e1, e2, List.drop_zero, Nat.sub_zero, List.take_eq_take_iff]
  omega
theorem cut_from (xs : List V) (i : Nat) : cutV xs (some (i : Int)) none = xs.drop i := by
  have e1 : HT.sIx xs.length xs.length none = xs.length := rfl
  have e2 : HT.sIx xs.length 0 (some (i : Int)) = min i xs.length := HT.sIx_nat _ _ _
  unfold cutV
  rw [e1, e2]
  by_cases h : i ≤ xs.length
  · rw [Nat.min_eq_left h, List.take_of_length_le (by rw [List.length_drop]; exact Nat.le_refl _)]
  · rw [Nat.min_eq_right (by omega), Nat.sub_self, List.take_zero, List.drop_of_length_le (by omega)]
theorem dp_ints {K : PySem.W.Frag} {H : Hp} : ∀ ns : List Int, DpAll K H (ns.map V.int) (ns.map PyData.int)
  | [] => .nil
  | n :: r => .cons (.int n) (dp_ints r)
theorem lay_all : ∀ ns : List Int, PyData.canLayAll0 (ns.map PyData.int) = true ∧ PyData.depthAll (ns.map PyData.int) = 0
  | [] => ⟨by simp only [List.map_nil, PyData.canLayAll0], by simp only [List.map_nil, PyData.depthAll]⟩
  | n :: r => by
    obtain ⟨h1, h2⟩ := lay_all r
    exact ⟨by simp only [List.map_cons, PyData.canLayAll0, PyData.canLay0, h1, Bool.and_self], by simp only [List.map_cons, PyData.depthAll, PyData.depth, h2, Nat.max_self]⟩
theorem lay_ints (ns : List Int) : PySem.SeqAt.shaped (.list (ns.map PyData.int)) = true := by
  obtain ⟨h1, h2⟩ := lay_all ns
  unfold PySem.SeqAt.shaped
  simp only [PyData.canLay0, PyData.depth, h1, h2]
  decide
theorem eqv_all : ∀ xs ys : List Int, PyData.eqvAll (xs.map PyData.int) (ys.map PyData.int) = decide (xs = ys)
  | [], [] => by simp [PyData.eqvAll]
  | [], y :: ys => by simp [PyData.eqvAll]
  | x :: xs, [] => by simp [PyData.eqvAll]
  | x :: xs, y :: ys => by
    have e := eqv_all xs ys
    simp only [List.map_cons, PyData.eqvAll, e, PyData.eqv]
    by_cases h : x = y <;> by_cases g : xs = ys <;> simp [h, g]
theorem eqv_ints (xs ys : List Int) : PyData.eqv (.list (xs.map PyData.int)) (.list (ys.map PyData.int)) = decide (xs = ys) := by
  simp only [PyData.eqv]
  exact eqv_all xs ys
/-- two lists of ints compared -/
theorem eqLL {K : PySem.W.Frag} {H : Hp} {Q : VK} {a b : Addr} {xs ys : List Int} (ha : SqL K H a (xs.map V.int)) (hb : SqL K H b (ys.map V.int)) (q : Q (.bl (decide (xs = ys))) H) : rEqD K (.ref a) (.ref b) H Q :=
  ⟨_, _, .lst ha (dp_ints xs), .lst hb (dp_ints ys), lay_ints xs, lay_ints ys, by rw [eqv_ints]; exact q⟩
theorem neLL {K : PySem.W.Frag} {H : Hp} {Q : VK} {a b : Addr} {xs ys : List Int} (ha : SqL K H a (xs.map V.int)) (hb : SqL K H b (ys.map V.int)) (q : Q (.bl (!decide (xs = ys))) H) : rNeD K (.ref a) (.ref b) H Q :=
  ⟨_, _, .lst ha (dp_ints xs), .lst hb (dp_ints ys), lay_ints xs, lay_ints ys, by rw [eqv_ints]; exact q⟩
/-- a comprehension over a list of ints, filtered, its items ints -/
theorem lc_ints {K : PySem.W.Frag} {a : Addr} {ns : List Int} {te tel : TE} {tt : TT} {σ : L2.St} {H : Hp} {Q : VK} {j : Nat} (p : Int → Bool) (f : Int → Int) (hte : ∀ R' : VK, R' (.ref a) H → te σ H R') (hS : SqL K H a (ns.map V.int)) (hz : ns.length < 100000)
    (ht : ∀ x ∈ ns, ∀ H', Same H H' → ∀ Qt : Bool → Hp → Prop, Qt (p x) H' → tt ((σ.set j none).set j (some (.int x))) H' Qt)
    (he : ∀ x ∈ ns, p x = true → ∀ H', Same H H' → ∀ Qe : VK, Qe (.int (f x)) H' → tel ((σ.set j none).set j (some (.int x))) H' Qe)
    (hd : ∀ D H', H D = none → Same H H' → H' D = some (.lst (((ns.filter p).map f).map V.int)) → Q (.ref D) H') : tLc (iList K te) (gName j) tt tel [j] σ H Q := by
  refine hte _ ⟨a, rfl, ⟨_, hS⟩, fun D hD => lc_list (K := K) (a := a) (xs := ns.map V.int) (fun i H' => H' D = some (.lst ((((ns.take i).filter p).map f).map V.int)) ∧ SameX D H H') ⟨upd_same, SameX.upd⟩ (fun i H' _ h => (Same.ofX hD h.2).seq hS) ?_ ?_⟩
  · rintro i x H' hi ⟨h1, h2⟩
    rw [List.getElem?_map] at hi
    cases e : ns[i]? with
    | none => rw [e] at hi; cases hi
    | some u =>
      rw [e] at hi
      cases hi
      have hil := getq_lt e
      have mem : u ∈ ns := List.mem_of_getElem? e
      refine ⟨?_, ?_⟩
      · show ((((σ.set j none).set j (some (.int u))).set j none) = σ.set j none)
        rw [List.set_set, List.set_set]
      have e2 : ns.take (i + 1) = ns.take i ++ [u] := by
        rw [List.take_succ, e]
        rfl
      refine ht u mem H' (Same.ofX hD h2) _ ?_
      cases hp : p u with
      | false =>
        rw [if_neg Bool.false_ne_true]
        refine ⟨?_, h2⟩
        rw [e2, List.filter_append]
        simp only [List.filter, hp, List.append_nil]
        exact h1
      | true =>
        rw [if_pos rfl]
        refine he u mem hp H' (Same.ofX hD h2) _ ⟨_, h1, ?_, ?_, h2.upd'⟩
        · rw [List.length_map, List.length_map]
          have := List.length_filter_le p (ns.take i)
          rw [List.length_take] at this
          exact Nat.lt_of_lt_of_le (show _ < 100000 by omega) (by decide)
        · rw [e2, List.filter_append]
          simp only [List.filter, hp, List.map_append, List.map_cons, List.map_nil]
          exact upd_same
  · rintro H' ⟨h1, h2⟩
    rw [List.length_map, List.take_length] at h1
    exact hd D H' hD (Same.ofX hD h2) h1
/-- a comprehension over a list, its items new -/
theorem lc_lstN {K : PySem.W.Frag} {a : Addr} {xs : List V} {te tel : TE} {σ : L2.St} {H : Hp} {Q : VK} {j : Nat} (P : Nat → List V → Hp → Prop) (hte : ∀ R' : VK, R' (.ref a) H → te σ H R') (hS : SqL K H a xs) (hz : xs.length < 100000) (h0 : ∀ H', Same H H' → P 0 [] H')
    (hm : ∀ i vs H1 H2, Same H1 H2 → P i vs H1 → P i vs H2) (hw : ∀ D H1 H2 i vs, H D = none → SameX D H1 H2 → Same H H1 → (∃ acc, H1 D = some (.lst acc)) → P i vs H1 → P i vs H2)
    (hs : ∀ D i x vs H', xs[i]? = some x → Same H H' → P i vs H' → vs.length = i → H D = none → (∃ o, H' D = some o) → ∀ Qe : VK, (∀ v H'', Same H' H'' → P (i + 1) (vs ++ [v]) H'' → Qe v H'') → tel ((σ.set j none).set j (some x)) H' Qe)
    (hd : ∀ D vs H', H D = none → vs.length = xs.length → P xs.length vs H' → H' D = some (.lst vs) → Same H H' → Q (.ref D) H') : tLc (iList K te) (gName j) tYes tel [j] σ H Q := by
  refine hte _ ⟨a, rfl, ⟨_, hS⟩, fun D hD => lc_list (K := K) (a := a) (xs := xs) (fun i H' => ∃ vs : List V, vs.length = i ∧ P i vs H' ∧ H' D = some (.lst vs) ∧ SameX D H H') ⟨[], rfl, h0 _ (Same.new hD), upd_same, SameX.upd⟩ (fun i H' _ ⟨_, _, _, _, h⟩ => (Same.ofX hD h).seq hS) ?_ ?_⟩
  · rintro i x H' hi ⟨vs, hl, hr, h1, h2⟩
    refine ⟨?_, ?_⟩
    · show ((((σ.set j none).set j (some x)).set j none) = σ.set j none)
      rw [List.set_set, List.set_set]
    dsimp only [tYes]
    rw [if_pos rfl]
    have S0 := Same.ofX hD h2
    refine hs D i x vs H' hi S0 hr hl hD ⟨_, h1⟩ _ fun v H'' s2 r => ⟨vs, s2 _ _ h1, ?_, vs ++ [v], ?_, hw D H'' _ _ _ hD SameX.upd (S0.trans s2) ⟨vs, s2 _ _ h1⟩ r, upd_same, (h2.trans (SameX.of s2)).upd'⟩
    · have := getq_lt hi
      exact Nat.lt_of_lt_of_le (show vs.length < 100000 by omega) (by decide)
    · rw [List.length_append, hl]; rfl
  · rintro H' ⟨vs, hl, hr, h1, h2⟩
    exact hd D vs H' hD hl hr h1 (Same.ofX hD h2)
theorem all_rep (n : Nat) : (List.replicate n true).all id = true := by simp
theorem Same.ofX2 {H H1 H2 : Hp} {l : Addr} (hl : H l = none) (s1 : Same H H1) (s2 : SameX l H1 H2) : Same H H2 := fun b o e => s2 b o (ne_of_none e hl) (s1 b o e)
/-! ### the bag -/
structure Bag (a : Addr) (F : List Addr) (H : Hp) : Prop where
  ex : ∃ (g c : Addr) (gs cs : List Int) (n z : Int), H a = some (.lst [.ref g, .ref c, .int n, .int z]) ∧ H g = some (.lst (gs.map V.int)) ∧ H c = some (.lst (cs.map V.int)) ∧ gs.length ≤ 63 ∧ cs.length ≤ 63 ∧ g ≠ a ∧ c ≠ a ∧ g ∉ F ∧ c ∉ F ∧ a ∉ F ∧ ∀ b ∈ F, ∃ o, H b = some o
theorem Bag.same {a : Addr} {F : List Addr} {H H' : Hp} (B : Bag a F H) (s : Same H H') : Bag a F H' := by
  obtain ⟨g, c, gs, cs, n, z, h1, h2, h3, l1, l2, n1, n2, n3, n4, n5, hF⟩ := B.ex
  exact ⟨g, c, gs, cs, n, z, s _ _ h1, s _ _ h2, s _ _ h3, l1, l2, n1, n2, n3, n4, n5, fun b hb => (hF b hb).elim fun o e => ⟨o, s _ _ e⟩⟩
/-- a new thing of one's own -/
theorem Bag.own {a b : Addr} {F : List Addr} {H H' : Hp} (B : Bag a F H) (hb : H b = none) (s : Same H H') (ho : ∃ o, H' b = some o) : Bag a (b :: F) H' := by
  obtain ⟨g, c, gs, cs, n, z, h1, h2, h3, l1, l2, n1, n2, n3, n4, n5, hF⟩ := B.ex
  refine ⟨g, c, gs, cs, n, z, s _ _ h1, s _ _ h2, s _ _ h3, l1, l2, n1, n2, fun h => ?_, fun h => ?_, fun h => ?_, fun x hx => ?_⟩
  · rcases List.mem_cons.mp h with e | e
    · exact ne_of_none h2 hb e
    · exact n3 e
  · rcases List.mem_cons.mp h with e | e
    · exact ne_of_none h3 hb e
    · exact n4 e
  · rcases List.mem_cons.mp h with e | e
    · exact ne_of_none h1 hb e
    · exact n5 e
  · rcases List.mem_cons.mp hx with e | e
    · rw [e]; exact ho
    · exact (hF x e).elim fun o e => ⟨o, s _ _ e⟩
/-- new things of one's own -/
theorem Bag.owns {a : Addr} {F G : List Addr} {H H' : Hp} (B : Bag a F H) (hG : ∀ b ∈ G, H b = none ∧ ∃ o, H' b = some o) (s : Same H H') : Bag a (G ++ F) H' := by
  obtain ⟨g, c, gs, cs, n, z, h1, h2, h3, l1, l2, n1, n2, n3, n4, n5, hF⟩ := B.ex
  refine ⟨g, c, gs, cs, n, z, s _ _ h1, s _ _ h2, s _ _ h3, l1, l2, n1, n2, fun h => ?_, fun h => ?_, fun h => ?_, fun x hx => ?_⟩
  · rcases List.mem_append.mp h with e | e
    · exact ne_of_none h2 (hG _ e).1 rfl
    · exact n3 e
  · rcases List.mem_append.mp h with e | e
    · exact ne_of_none h3 (hG _ e).1 rfl
    · exact n4 e
  · rcases List.mem_append.mp h with e | e
    · exact ne_of_none h1 (hG _ e).1 rfl
    · exact n5 e
  · rcases List.mem_append.mp hx with e | e
    · exact (hG _ e).2
    · exact (hF x e).elim fun o e => ⟨o, s _ _ e⟩
/-- a thing of one's own changes -/
theorem Bag.on {a b : Addr} {F : List Addr} {H H' : Hp} (B : Bag a F H) (hb : b ∈ F) (s : SameX b H H') (ho : ∃ o, H' b = some o) : Bag a F H' := by
  obtain ⟨g, c, gs, cs, n, z, h1, h2, h3, l1, l2, n1, n2, n3, n4, n5, hF⟩ := B.ex
  refine ⟨g, c, gs, cs, n, z, s _ _ (fun e => n5 (e ▸ hb)) h1, s _ _ (fun e => n3 (e ▸ hb)) h2, s _ _ (fun e => n4 (e ▸ hb)) h3, l1, l2, n1, n2, n3, n4, n5, fun x hx => ?_⟩
  by_cases e : x = b
  · rw [e]; exact ho
  · exact (hF x hx).elim fun o h => ⟨o, s _ _ e h⟩
theorem Bag.ne {a b : Addr} {F : List Addr} {H : Hp} (B : Bag a F H) (hb : b ∈ F) : b ≠ a := by
  obtain ⟨_, _, _, _, _, _, _, _, _, _, _, _, _, _, _, n5, _⟩ := B.ex
  exact fun e => n5 (e ▸ hb)
theorem Bag.new {a b : Addr} {F : List Addr} {H : Hp} (B : Bag a F H) (hb : H b = none) : b ≠ a := by
  obtain ⟨_, _, _, _, _, _, h1, _⟩ := B.ex
  exact fun e => by rw [e, h1] at hb; cases hb
theorem Bag.less {a : Addr} {F G : List Addr} {H : Hp} (B : Bag a F H) (h : ∀ b ∈ G, b ∈ F) : Bag a G H := by
  obtain ⟨g, c, gs, cs, n, z, h1, h2, h3, l1, l2, n1, n2, n3, n4, n5, hF⟩ := B.ex
  exact ⟨g, c, gs, cs, n, z, h1, h2, h3, l1, l2, n1, n2, fun e => n3 (h _ e), fun e => n4 (h _ e), fun e => n5 (h _ e), fun b hb => hF b (h _ hb)⟩
theorem Bag.drop {a l : Addr} {F : List Addr} {H : Hp} (B : Bag a (l :: F) H) : Bag a F H := B.less fun _ h => List.mem_cons_of_mem _ h
def sp__law_bag (K : PySem.W.Frag) : Sp := fun vs H Q _ => ∃ (a : Addr) (ns : List Int), vs = [.ref a] ∧ SqL K H a (ns.map V.int) ∧ ns.length ≤ 63 ∧ ∀ b H', H b = none → Same H H' → Bag b [] H' → Q (.ref b) H'
theorem ok__law_bag (T : Txt K mg) : FnOk P w K mg base CX0 1 T.a__law_bag T.fd__law_bag ["script"] (sp__law_bag K) := by
  have S := sc__law_bag
  refine T.F__law_bag.ok S (fun vs H Q E h => ?_) (fun cdv A outer s H vs Q E hr h => ?_)
  · obtain ⟨a, ns, rfl, _⟩ := h
    rfl
  · obtain ⟨a, ns, rfl, hS, hl, k⟩ := h
    refine ⟨_, (pss_cons (ps_setLc (i := 1) (own := [("cell", 3)]) (g := gName 3) rfl S.nd rfl rfl (sw_true rfl rfl rfl (by decide +kernel)) (pi_list (pv 0)) (blkOk_by (N := ["script", "great", "cells", "cell"]) (sc := defScope s__law_bag) (by decide +kernel)) (fun _ _ _ _ _ => pg_name (i := 3) S.nd rfl (Or.inl rfl)) (fun _ _ _ _ _ => pts_one (pt_cmpR op_ge (pe_callB (id := "abs") call_absK (by rfl) T.b_abs (by decide +kernel) (pa_cons (pv 3) pa_nil)) (pe_op op_pow pe_int pe_int) (nomark _))) (fun _ _ _ _ _ => (pe_callB (id := "abs") call_absK (by rfl) T.b_abs (by decide +kernel) (pa_cons (pv 3) pa_nil))))
      (pss_cons (ps_setLc (i := 2) (own := [("cell", 3)]) (g := gName 3) (tt := tYes) rfl S.nd rfl rfl (sw_true rfl rfl rfl (by decide +kernel)) (pi_list (pv 0)) (blkOk_by (N := ["script", "great", "cells", "cell"]) (sc := defScope s__law_bag) (by decide +kernel)) (fun _ _ _ _ _ => pg_name (i := 3) S.nd rfl (Or.inl rfl)) (fun _ _ _ _ _ => pts_nil) (fun _ _ _ _ _ => (pe_op op_mod (pe_callTy (T := "int") call_int1 (by rfl) T.b_int (by decide +kernel) (pa_cons (pv 3) pa_nil)) pe_int)))
      (pss_one (ps_ret (pe_lst (pa_cons (pv 1) (pa_cons (pv 2) (pa_cons pe_int (pa_cons (pe_op op_mod (pe_callTy (T := "int") call_int1 (by rfl) T.b_int (by decide +kernel) (pa_cons (pe_callB (id := "sum") (cr_sum rfl) (by rfl) T.b_sum (by decide +kernel) (pa_cons (pv 2) pa_nil)) pa_nil)) pe_int) pa_nil))))))))), ?_⟩
    refine st__law_bag ?_
    o_args
    refine lc_ints (K := K) (a := a) (ns := ns) (fun x => decide (1000000000000000000 ≤ (ab x))) (fun x => ab x) (fun R q => ⟨_, rfl, q⟩) hS (by omega) (fun x _ H' s Qt q => ?_) (fun x _ _ H' s Qe q => ?_) (fun g H1 hg s1 h1 => ?_)
    · o_args
      exact q
    · o_args
      exact q
    o_args
    refine lc_ints (K := K) (a := a) (ns := ns) (fun _ => true) (fun x => x % 2147483647) (fun R q => ⟨_, rfl, q⟩) (s1.seq hS) (by omega) (fun x _ H' s Qt q => q) (fun x _ _ H' s Qe q => ?_) (fun c H2 hc s2 h2 => ?_)
    · o_args
      exact q
    o_args
    refine ⟨_, _, rfl, SqL.of h2, ?_⟩
    o_args
    have h1' := s2 _ _ h1
    refine newList (by simp) fun b H3 hb s3 h3 => ?_
    o_args
    refine k b H3 (none_of (s1.trans s2) hb) ((s1.trans s2).trans s3) ⟨g, c, _, _, _, _, h3, s3 _ _ h1', s3 _ _ h2, ?_, ?_, ne_of_none h1' hb, ne_of_none h2 hb, List.not_mem_nil, List.not_mem_nil, List.not_mem_nil, fun x hx => absurd hx List.not_mem_nil⟩
    · rw [List.length_map]
      exact Nat.le_trans (List.length_filter_le _ _) hl
    · rw [List.length_map]
      exact Nat.le_trans (List.length_filter_le _ _) hl
/-- a draw below m -/
def sp__law_take : Sp := fun vs H Q _ => ∃ (a : Addr) (m : Int) (F : List Addr), vs = [.ref a, .int m] ∧ Bag a F H ∧ 0 < m ∧ m < 2 ^ 62 ∧ ∀ d H', 0 ≤ d → d < m → Bag a F H' → SameX a H H' → Q (.int d) H'
theorem ok__law_take (T : Txt K mg) : FnOk P w K mg base CX0 1 T.a__law_take T.fd__law_take ["bag", "many"] (sp__law_take) := by
  have S := sc__law_take
  refine T.F__law_take.ok S (fun vs H Q E h => ?_) (fun cdv A outer s H vs Q E hr h => ?_)
  · obtain ⟨a, m, F, rfl, _⟩ := h
    rfl
  · obtain ⟨a, m, F, rfl, ⟨g, c, gs, cs, n, z, hA, hG, hC, lg, lc, ga, ca, gF, cF, aF, hF⟩, m0, m1, k⟩ := h
    have m0' : m ≠ 0 := by omega
    refine ⟨_, (pss_cons (ps_asg (pe_op op_add (pe_ix ix_list (pv 0) pe_int (fun _ _ => rfl)) pe_int) (pg_sub (pv 0) pe_int set_list))
      (pss_cons (ps_if (pt_cmpR (op_neD hr.units) (pe_ix ix_list (pv 0) pe_int (fun _ _ => rfl)) (pe_lst pa_nil) (nomark _)) (pss_cons (ps_set (i := 2) S.nd rfl (Or.inl rfl) (pe_ix ix_list (pe_ix ix_list (pv 0) pe_int (fun _ _ => rfl)) pe_int (fun _ _ => rfl)))
      (pss_cons (ps_if (pt_cmpR op_ge (pv 2) (pv 1) (nomark _)) (pss_one (ps_asg (pe_op op_cat (pe_lst (pa_cons (pe_op op_fdivW (pv 2) (pv 1)) pa_nil)) (pe_slice sl_list (pe_ix ix_list (pv 0) pe_int (fun _ _ => rfl)) (po_some pe_int) po_none)) (pg_sub (pv 0) pe_int set_list))) (pss_one (ps_asg (pe_slice sl_list (pe_ix ix_list (pv 0) pe_int (fun _ _ => rfl)) (po_some pe_int) po_none) (pg_sub (pv 0) pe_int set_list))))
      (pss_one (ps_ret (pe_op op_mod (pe_callTy (T := "int") call_int1 (by rfl) T.b_int (by decide +kernel) (pa_cons (pv 2) pa_nil)) (pv 1)))))) pss_nil)
      (pss_cons (ps_if (pt_cmpR (op_eqD hr.units) (pe_ix ix_list (pv 0) pe_int (fun _ _ => rfl)) (pe_lst pa_nil) (nomark _)) (pss_one (ps_ret (pe_op op_mod (pe_callTy (T := "int") call_int1 (by rfl) T.b_int (by decide +kernel) (pa_cons (pe_ix ix_list (pv 0) pe_int (fun _ _ => rfl)) pa_nil)) (pv 1)))) pss_nil)
      (pss_cons (ps_set (i := 3) S.nd rfl (Or.inl rfl) (pe_ix ix_list (pe_ix ix_list (pv 0) pe_int (fun _ _ => rfl)) (pe_op op_mod (pe_callTy (T := "int") call_int1 (by rfl) T.b_int (by decide +kernel) (pa_cons (pe_ix ix_list (pv 0) pe_int (fun _ _ => rfl)) pa_nil)) (pe_callB (id := "len") (call_lenK (K := K) rfl) (by rfl) T.b_len (by decide +kernel) (pa_cons (pe_ix ix_list (pv 0) pe_int (fun _ _ => rfl)) pa_nil))) (fun _ _ => rfl)))
      (pss_cons (ps_set (i := 4) S.nd rfl (Or.inl rfl) (pe_op op_mod (pe_callTy (T := "int") call_int1 (by rfl) T.b_int (by decide +kernel) (pa_cons (pe_op op_add (pe_op op_add (pe_op op_add (pe_op op_mul (pv 3) pe_int) (pe_op op_mul (pe_ix ix_list (pv 0) pe_int (fun _ _ => rfl)) pe_int)) (pe_op op_mul (pe_ix ix_list (pv 0) pe_int (fun _ _ => rfl)) pe_int)) pe_int) pa_nil)) pe_int))
      (pss_cons (ps_set (i := 5) S.nd rfl (Or.inl rfl) (pe_op op_mod (pe_callTy (T := "int") call_int1 (by rfl) T.b_int (by decide +kernel) (pa_cons (pe_op op_add (pe_op op_add (pe_op op_fdiv (pe_op op_mul (pv 4) (pv 4)) pe_int) (pe_op op_mul (pv 4) pe_int)) (pe_op op_mul (pe_ix ix_list (pv 0) pe_int (fun _ _ => rfl)) pe_int)) pa_nil)) pe_int))
      (pss_one (ps_ret (pe_op op_mod (pe_callTy (T := "int") call_int1 (by rfl) T.b_int (by decide +kernel) (pa_cons (pe_op op_fdiv (pe_op op_add (pe_op op_mul (pv 4) pe_int) (pv 5)) pe_int) pa_nil)) (pv 1)))))))))), ?_⟩
    refine st__law_take ?_
    o_args
    refine setL (i := 2) hA (by simp) fun H1 s1 h1 => ?_
    have h1 : H1 a = some (.lst [.ref g, .ref c, .int (n + 1), .int z]) := h1
    have hG1 := s1 _ _ ga hG
    have hC1 := s1 _ _ ca hC
    have hF1 : ∀ b ∈ F, ∃ o, H1 b = some o := fun b hb => (hF b hb).elim fun o e => ⟨o, s1 _ _ (fun z => aF (z ▸ hb)) e⟩
    o_args
    refine newList (by simp) fun l H2 hl s2 hl2 => ?_
    have h2 := s2 _ _ h1
    have hG2 := s2 _ _ hG1
    have hC2 := s2 _ _ hC1
    have gh1 : SameX a H H2 := s1.trans (SameX.of s2)
    have hF2 : ∀ b ∈ F, ∃ o, H2 b = some o := fun b hb => (hF1 b hb).elim fun o e => ⟨o, s2 _ _ e⟩
    refine neLL (xs := gs) (ys := []) (SqL.of hG2) (SqL.of hl2) ?_
    o_args
    refine brD (fun q => ?_) (fun q => ?_)
    · subst q
      o_args
      refine newList (by simp) fun l' H3 hl' s3 hl3 => ?_
      have h3 := s3 _ _ h2
      have hC3 := s3 _ _ hC2
      refine eqLL (xs := cs) (ys := []) (SqL.of hC3) (SqL.of hl3) ?_
      o_args
      have gh3 : SameX a H H3 := gh1.trans (SameX.of s3)
      have B3 : Bag a F H3 := ⟨g, c, [], cs, _, _, h3, s3 _ _ hG2, hC3, lg, lc, ga, ca, gF, cF, aF, fun b hb => (hF2 b hb).elim fun o e => ⟨o, s3 _ _ e⟩⟩
      refine brD (fun q => ?_) (fun q => ?_)
      · o_args
        refine ⟨_, _, rfl, rfl, m0, ?_⟩
        o_args
        exact k _ _ (Int.emod_nonneg _ m0') (Int.emod_lt_of_pos _ m0) B3 gh3
      o_args
      refine lenA (SeqA.lst hC3) ?_
      rw [List.length_map]
      have cl : 0 < cs.length := List.length_pos_iff.mpr q
      refine ⟨_, _, rfl, rfl, by omega, ?_⟩
      dsimp only
      have i0 : 0 ≤ (n + 1) % (cs.length : Int) := Int.emod_nonneg _ (by omega)
      have i1 : (n + 1) % (cs.length : Int) < (cs.length : Int) := Int.emod_lt_of_pos _ (by omega)
      generalize (n + 1) % (cs.length : Int) = i at i0 i1
      obtain ⟨i, rfl⟩ : ∃ j : Nat, i = j := ⟨i.toNat, by omega⟩
      have hx : (cs.map V.int)[i]? = some (.int (cs[i]'(by omega))) := by rw [List.getElem?_map, List.getElem?_eq_getElem]; rfl
      refine ixL hC3 hx ?_
      o_args
      refine x_mulL ?_ ?_
      · have a0 := Int.emod_nonneg (cs[i] * 48271 + z * 16807 + (n + 1) * 69621 + 11) (show (2147483647 : Int) ≠ 0 by decide)
        have a1 := Int.emod_lt_of_pos (cs[i] * 48271 + z * 16807 + (n + 1) * 69621 + 11) (show (0 : Int) < 2147483647 by decide)
        constructor <;> omega
      o_args
      refine ⟨_, _, rfl, rfl, m0, ?_⟩
      o_args
      exact k _ _ (Int.emod_nonneg _ m0') (Int.emod_lt_of_pos _ m0) B3 gh3
    · o_args
      obtain ⟨x, gs, rfl⟩ : ∃ x r, gs = x :: r := by
        cases gs with
        | nil => exact absurd rfl q
        | cons x r => exact ⟨x, r, rfl⟩
      refine ixL (i := 0) hG2 rfl ?_
      o_args
      have fin : ∀ (g' : Addr) (gs' : List Int) (H' : Hp), SameX a H2 H' → H' a = some (.lst [.ref g', .ref c, .int (n + 1), .int z]) → H' g' = some (.lst (gs'.map V.int)) → gs'.length ≤ 63 → H2 g' = none → Q (.int (x % m)) H' := fun g' gs' H' s e1 e2 e3 e4 =>
        k _ _ (Int.emod_nonneg _ m0') (Int.emod_lt_of_pos _ m0) ⟨g', c, gs', cs, _, _, e1, e2, s _ _ ca hC2, e3, lc, (fun e => by rw [e, h2] at e4; cases e4), ca, (fun hm => by obtain ⟨o, eo⟩ := hF2 _ hm; rw [eo] at e4; cases e4), cF, aF, fun b hb => (hF2 b hb).elim fun o e => ⟨o, s _ _ (fun z => aF (z ▸ hb)) e⟩⟩ (gh1.trans s)
      have lg' : gs.length + 1 ≤ 63 := lg
      refine brD (fun q => ?_) (fun q => ?_)
      · o_args
        refine x_divW m0 m1 ?_
        o_args
        refine newList (by simp) fun l1 H3 hl1 s3 hl3 => ?_
        have h3 := s3 _ _ h2
        o_args
        refine sliceL (SqL.of (s3 _ _ hG2)) fun l2 H4 hl2 s4 hl4 => ?_
        have hl4 : H4 l2 = some (.lst (cutV ((x :: gs).map V.int) (some ((1 : Nat) : Int)) none)) := hl4
        rw [cut_from] at hl4
        o_args
        refine catList (s4 _ _ hl3) hl4 (by simp; omega) fun l3 H5 hl5 s5 h5 => ?_
        have h5a := s5 _ _ (s4 _ _ h3)
        o_args
        refine setL (i := 0) h5a (by simp) fun H6 s6 h6 => ?_
        o_args
        refine ⟨_, _, rfl, rfl, m0, ?_⟩
        have e3 : H2 l3 = none := none_of (s3.trans s4) hl5
        have n3 : l3 ≠ a := fun e => by rw [e, h2] at e3; cases e3
        exact fin l3 (x / m :: gs) H6 ((SameX.of ((s3.trans s4).trans s5)).trans s6) h6 (s6 _ _ n3 h5) (by simp; omega) e3
      · o_args
        refine sliceL (SqL.of hG2) fun l2 H4 hl2 s4 hl4 => ?_
        have hl4 : H4 l2 = some (.lst (cutV ((x :: gs).map V.int) (some ((1 : Nat) : Int)) none)) := hl4
        rw [cut_from] at hl4
        have h5a := s4 _ _ h2
        o_args
        refine setL (i := 0) h5a (by simp) fun H6 s6 h6 => ?_
        o_args
        refine ⟨_, _, rfl, rfl, m0, ?_⟩
        have n3 : l2 ≠ a := fun e => by rw [e, h2] at hl2; cases hl2
        exact fin l2 gs H6 ((SameX.of s4).trans s6) h6 (s6 _ _ n3 hl4) (by omega) hl2
/-! ### small defs over the bag -/
def sp__law_whole (K : PySem.W.Frag) : Sp := fun vs H Q _ => ∃ (x : V) (r : Bool), vs = [x] ∧ IntK K H x r ∧ Q (.bl r) H
theorem ok__law_whole (T : Txt K mg) : FnOk P w K mg base CX0 1 T.a__law_whole T.fd__law_whole ["value"] (sp__law_whole K) := by
  have S := sc__law_whole
  refine T.F__law_whole.ok S (fun vs H Q E h => ?_) (fun cdv A outer s H vs Q E hr h => ?_)
  · obtain ⟨x, r, rfl, _⟩ := h
    rfl
  · obtain ⟨x, r, rfl, ⟨t, i, b, ty, hi, hb, rfl⟩, k⟩ := h
    refine ⟨_, (pss_one (ps_ret (pe_and (pe_callB (id := "isinstance") call_isi (by rfl) T.b_isinstance (by decide +kernel) (pa_cons (pv 0) (pa_cons (pe_bltn (v := .ty "int") (u := .type "int") (by rfl) T.b_int (by decide +kernel) rfl) pa_nil))) (pe_one (pe_not (pe_callB (id := "isinstance") call_isi (by rfl) T.b_isinstance (by decide +kernel) (pa_cons (pv 0) (pa_cons (pe_bltn (v := .ty "bool") (u := .type "bool") (by rfl) T.b_bool (by decide +kernel) rfl) pa_nil)))))))), ?_⟩
    refine ⟨_, rfl, _, _, _, _, i, rfl, .ty _, ty, hi, i, rfl, ?_⟩
    cases i with
    | false => exact iteF k
    | true => exact iteT ⟨_, rfl, _, _, _, _, b, rfl, .ty _, ty, hb, b, rfl, k⟩
def sp__law_lesser : Sp := fun vs H Q _ => ∃ (a b : Int), vs = [.int a, .int b] ∧ Q (.int (min a b)) H
theorem ok__law_lesser (T : Txt K mg) : FnOk P w K mg base CX0 1 T.a__law_lesser T.fd__law_lesser ["one", "two"] (sp__law_lesser) := by
  have S := sc__law_lesser
  refine T.F__law_lesser.ok S (fun vs H Q E h => ?_) (fun cdv A outer s H vs Q E hr h => ?_)
  · obtain ⟨a, b, rfl, _⟩ := h
    rfl
  · obtain ⟨a, b, rfl, k⟩ := h
    refine ⟨_, (pss_cons (ps_if (pt_cmpR op_lt (pv 0) (pv 1) (nomark _)) (pss_one (ps_ret (pv 0))) pss_nil)
      (pss_one (ps_ret (pv 1)))), ?_⟩
    refine st__law_lesser ?_
    o_args
    refine brD (fun q => ?_) (fun q => ?_)
    · o_args
      rw [show min a b = a by omega] at k
      exact k
    · o_args
      rw [show min a b = b by omega] at k
      exact k
def sp__law_greater : Sp := fun vs H Q _ => ∃ (a b : Int), vs = [.int a, .int b] ∧ Q (.int (max a b)) H
theorem ok__law_greater (T : Txt K mg) : FnOk P w K mg base CX0 1 T.a__law_greater T.fd__law_greater ["one", "two"] (sp__law_greater) := by
  have S := sc__law_greater
  refine T.F__law_greater.ok S (fun vs H Q E h => ?_) (fun cdv A outer s H vs Q E hr h => ?_)
  · obtain ⟨a, b, rfl, _⟩ := h
    rfl
  · obtain ⟨a, b, rfl, k⟩ := h
    refine ⟨_, (pss_cons (ps_if (pt_cmpR op_gt (pv 0) (pv 1) (nomark _)) (pss_one (ps_ret (pv 0))) pss_nil)
      (pss_one (ps_ret (pv 1)))), ?_⟩
    refine st__law_greater ?_
    o_args
    refine brD (fun q => ?_) (fun q => ?_)
    · o_args
      rw [show max a b = a by omega] at k
      exact k
    · o_args
      rw [show max a b = b by omega] at k
      exact k
/-! ### the bounds -/
def sp__law_bounds : Sp := fun vs H Q _ => ∃ (a : Addr) (F : List Addr), vs = [.ref a] ∧ Bag a F H ∧ ∀ l H' lo hi, H l = none → l ≠ a → H' l = some (.lst [.int lo, .int hi]) → 1 ≤ lo → lo ≤ hi → hi ≤ 1400 → Bag a (l :: F) H' → SameX a H H' → Q (.ref l) H'
theorem ok__law_bounds (T : Txt K mg) : FnOk P w K mg base CX0 2 T.a__law_bounds T.fd__law_bounds ["bag"] (sp__law_bounds) := by
  have S := sc__law_bounds
  refine T.F__law_bounds.ok S (fun vs H Q E h => ?_) (fun cdv A outer s H vs Q E hr h => ?_)
  · obtain ⟨a, F, rfl, _⟩ := h
    rfl
  · obtain ⟨a, F, rfl, B0, k⟩ := h
    refine ⟨_, (pss_cons (ps_set (i := 1) S.nd rfl (Or.inl rfl) (pe_op op_add pe_int (pe_call (ok__law_take T) (hr.mono (by decide)) rfl T.g__law_take T.F__law_take.kp T.B__law_take .nil pass0 (pa_cons (pv 0) (pa_cons pe_int pa_nil)))))
      (C8.pss_cut (ps_if (pt_cmpR op_eq (pe_call (ok__law_take T) (hr.mono (by decide)) rfl T.g__law_take T.F__law_take.kp T.B__law_take .nil pass0 (pa_cons (pv 0) (pa_cons pe_int pa_nil))) pe_int (nomark _)) (pss_one (ps_set (i := 1) S.nd rfl (Or.inl rfl) (pe_op op_add pe_int (pe_call (ok__law_take T) (hr.mono (by decide)) rfl T.g__law_take T.F__law_take.kp T.B__law_take .nil pass0 (pa_cons (pv 0) (pa_cons pe_int pa_nil)))))) pss_nil)
      (pss_cons (ps_set (i := 2) S.nd rfl (Or.inl rfl) (pe_call (ok__law_take T) (hr.mono (by decide)) rfl T.g__law_take T.F__law_take.kp T.B__law_take .nil pass0 (pa_cons (pv 0) (pa_cons pe_int pa_nil))))
      (pss_cons (ps_set (i := 3) S.nd rfl (Or.inl rfl) (pv 1))
      (C8.pss_cut (ps_if (pt_cmpR op_eq (pv 2) pe_int (nomark _)) (pss_one (ps_set (i := 3) S.nd rfl (Or.inl rfl) (pe_call (ok__law_lesser T) (hr.mono (by decide)) rfl T.g__law_lesser T.F__law_lesser.kp T.B__law_lesser .nil pass0 (pa_cons pe_int (pa_cons (pe_op op_add (pe_op op_add (pv 1) pe_int) (pe_call (ok__law_take T) (hr.mono (by decide)) rfl T.g__law_take T.F__law_take.kp T.B__law_take .nil pass0 (pa_cons (pv 0) (pa_cons pe_int pa_nil)))) pa_nil))))) (pss_one (ps_if (pt_cmpR op_eq (pv 2) pe_int (nomark _)) (pss_one (ps_set (i := 3) S.nd rfl (Or.inl rfl) pe_int)) (pss_one (ps_if (pt_cmpR op_eq (pv 2) pe_int (nomark _)) (pss_one (ps_set (i := 3) S.nd rfl (Or.inl rfl) (pe_op op_add (pv 1) (pe_call (ok__law_take T) (hr.mono (by decide)) rfl T.g__law_take T.F__law_take.kp T.B__law_take .nil pass0 (pa_cons (pv 0) (pa_cons (pe_op op_sub pe_int (pv 1)) pa_nil)))))) pss_nil)))))
      (pss_one (ps_ret (pe_lst (pa_cons (pv 1) (pa_cons (pv 3) pa_nil)))))))))), ?_⟩
    refine st__law_bounds ?_
    o_args
    refine ⟨a, 20, F, rfl, B0, by decide, by decide, fun d H1 a1 b1 B1 s1 => ?_⟩
    o_args
    refine ⟨fun σ H' => ∃ f : Int, σ = [some (.ref a), some (.int f), none, none] ∧ 1 ≤ f ∧ f ≤ 1400 ∧ Bag a F H' ∧ SameX a H H', ?_, ?_⟩
    · o_args
      refine ⟨a, 2, F, rfl, B1, by decide, by decide, fun e H2 a2 b2 B2 s2 => ?_⟩
      o_args
      refine brD (fun q => ?_) (fun q => ?_)
      · o_args
        refine ⟨a, _, F, rfl, B2, by decide, by decide, fun f H3 a3 b3 B3 s3 => ?_⟩
        o_args
        exact ⟨_, rfl, by omega, by omega, B3, (s1.trans s2).trans s3⟩
      · o_args
        exact ⟨_, rfl, by omega, by omega, B2, s1.trans s2⟩
    rintro σ H3 ⟨f, rfl, f1, f2, B3, s3⟩
    o_args
    refine ⟨a, 4, F, rfl, B3, by decide, by decide, fun way H4 a4 b4 B4 s4 => ?_⟩
    o_args
    refine ⟨fun σ H' => ∃ r : Int, σ = [some (.ref a), some (.int f), some (.int way), some (.int r)] ∧ f ≤ r ∧ r ≤ 1400 ∧ Bag a F H' ∧ SameX a H H', ?_, ?_⟩
    · o_args
      refine brD (fun q => ?_) (fun q => ?_)
      · o_args
        refine ⟨a, _, F, rfl, B4, by decide, by decide, fun e H5 a5 b5 B5 s5 => ?_⟩
        o_args
        refine ⟨_, _, rfl, ?_⟩
        o_args
        exact ⟨_, rfl, by omega, by omega, B5, (s3.trans s4).trans s5⟩
      · o_args
        refine brD (fun q => ?_) (fun q => ?_)
        · o_args
          exact ⟨_, rfl, by omega, by omega, B4, s3.trans s4⟩
        · o_args
          refine brD (fun q => ?_) (fun q => ?_)
          · o_args
            refine ⟨a, _, F, rfl, B4, by omega, by omega, fun e H5 a5 b5 B5 s5 => ?_⟩
            o_args
            exact ⟨_, rfl, by omega, by omega, B5, (s3.trans s4).trans s5⟩
          · o_args
            exact ⟨_, rfl, by omega, by omega, B4, s3.trans s4⟩
    rintro σ H5 ⟨r, rfl, r1, r2, B5, s5⟩
    o_args
    refine newList (by simp) fun l H6 hl s6 h6 => ?_
    o_args
    have na := B5.new hl
    exact k l H6 f r (none_back s5 na hl) na h6 f1 r1 r2 (B5.own hl s6 ⟨_, h6⟩) (s5.trans (SameX.of s6))
/-! ### values that are no numbers, by themselves -/
/-- a value that can be told and compared -/
structure Vl (K : PySem.W.Frag) (H : Hp) (x : V) : Prop where
  ex : ∃ (t : Value) (b : Bool) (d : PyData), TyX K H x t ∧ PySem.W.kitOne K t (.type "bool") = some b ∧ Dp K H x d ∧ PySem.SeqAt.shaped d = true
theorem Vl.int {K : PySem.W.Frag} {H : Hp} (n : Int) : Vl K H (.int n) := ⟨.type "int", false, .int n, .base (.int n), kit_ty (by decide +kernel), .int n, by
  unfold PySem.SeqAt.shaped
  simp only [PyData.canLay0, PyData.depth]
  rfl⟩
theorem str_ok : ∀ n : Nat, n < 1500 → PySem.SeqAt.shaped (.str (toString (n : Int))) = true := by decide +kernel
mutual
theorem Dp.sm {K : PySem.W.Frag} {H H' : Hp} (s : Same H H') : ∀ (d : PyData) (x : V), Dp K H x d → Dp K H' x d
  | _, _, .non => .non
  | _, _, .bl b => .bl b
  | _, _, .int i => .int i
  | _, _, .str x => .str x
  | _, _, .lst h hs => .lst (s.seq h) (DpAll.sm s _ _ hs)
  | _, _, .tup h hs => .tup (sqT_sm h s) (DpAll.sm s _ _ hs)
theorem DpAll.sm {K : PySem.W.Frag} {H H' : Hp} (s : Same H H') : ∀ (ds : List PyData) (xs : List V), DpAll K H xs ds → DpAll K H' xs ds
  | _, _, .nil => .nil
  | _, _, .cons h hs => .cons (Dp.sm s _ _ h) (DpAll.sm s _ _ hs)
end
theorem Vl.sm {K : PySem.W.Frag} {H H' : Hp} {x : V} (h : Vl K H x) (s : Same H H') : Vl K H' x := by
  obtain ⟨t, b, d, h1, h2, h3, h4⟩ := h.ex
  exact ⟨t, b, d, tyX_same h1 s, h2, Dp.sm s _ _ h3, h4⟩
/-- a value that is no number -/
def Odd (K : PySem.W.Frag) (H : Hp) (x : V) : Prop := IntK K H x false ∧ Vl K H x
theorem Odd.mk' {K : PySem.W.Frag} {H : Hp} {x : V} {n : String} {i b : Bool} {d : PyData} (t : TyX K H x (.type n)) (h1 : kitB n "int" = some i) (h2 : kitB n "bool" = some b) (h : (i && !b) = false) (hd : Dp K H x d) (sh : PySem.SeqAt.shaped d = true) : Odd K H x :=
  ⟨intK_no t h1 h2 h, _, b, d, t, kit_ty h2, hd, sh⟩
theorem lay_tups (ns : List Int) : PySem.SeqAt.shaped (.tuple (ns.map PyData.int)) = true := by
  obtain ⟨h1, h2⟩ := lay_all ns
  unfold PySem.SeqAt.shaped
  simp only [PyData.canLay0, PyData.depth, h1, h2]
  decide
theorem Odd.tup {K : PySem.W.Frag} {H : Hp} {t : Addr} {ns : List Int} (h : H t = some (.tup (ns.map V.int))) : Odd K H (.ref t) :=
  .mk' (.base (.tup h)) (i := false) (b := false) (by decide +kernel) (by decide +kernel) rfl (.tup (SqT.of h) (dp_ints ns)) (lay_tups ns)
theorem Odd.lst {K : PySem.W.Frag} {H : Hp} {t : Addr} {ns : List Int} (h : H t = some (.lst (ns.map V.int))) : Odd K H (.ref t) :=
  .mk' (.base (.lst h)) (i := false) (b := false) (by decide +kernel) (by decide +kernel) rfl (.lst (SqL.of h) (dp_ints ns)) (lay_ints ns)
theorem odd_str {K : PySem.W.Frag} {H : Hp} {n : Int} (h0 : 0 ≤ n) (h : n < 1500) : n.natAbs.log2 < 1920 ∧ Odd K H (.str (toString n)) := by
  obtain ⟨m, rfl⟩ : ∃ m : Nat, n = m := ⟨n.toNat, by omega⟩
  refine ⟨Nat.lt_trans (PySem.Flt.log2_lt_of (k := 62) (by decide) (by omega)) (by decide), ?_⟩
  exact .mk' (.base (.str _)) (i := false) (b := false) (by decide +kernel) (by decide +kernel) rfl (.str _) (str_ok m (by omega))
/-! ### values that are no numbers -/
theorem Typ.bag {a : Addr} {F : List Addr} {H H' : Hp} (B : Bag a F H) (B' : Bag a F H') (s : SameX a H H') : Typ H H' := fun b o hb => by
  by_cases q : b = a
  · subst q
    obtain ⟨_, _, _, _, _, _, h, _⟩ := B.ex
    obtain ⟨_, _, _, _, _, _, h', _⟩ := B'.ex
    rw [h] at hb
    cases hb
    exact .inr ⟨⟨_, rfl⟩, _, h'⟩
  · exact .inl (s b o q hb)
theorem Typ.ofX {H H' : Hp} {b : Addr} {xs ys : List V} (h : H b = some (.lst xs)) (h' : H' b = some (.lst ys)) (s : SameX b H H') : Typ H H' := fun c o hc => by
  by_cases q : c = b
  · subst q
    rw [h] at hc
    cases hc
    exact .inr ⟨⟨_, rfl⟩, _, h'⟩
  · exact .inl (s c o q hc)
def sp__law_far : Sp := fun vs H Q _ => ∃ (a : Addr) (F : List Addr), vs = [.ref a] ∧ Bag a F H ∧ ∀ n H', 0 ≤ n → Bag a F H' → SameX a H H' → Q (.int n) H'
theorem ok__law_far (T : Txt K mg) : FnOk P w K mg base CX0 2 T.a__law_far T.fd__law_far ["bag"] (sp__law_far) := by
  have S := sc__law_far
  refine T.F__law_far.ok S (fun vs H Q E h => ?_) (fun cdv A outer s H vs Q E hr h => ?_)
  · obtain ⟨a, F, rfl, _⟩ := h
    rfl
  · obtain ⟨a, F, rfl, B0, k⟩ := h
    refine ⟨_, (pss_cons (ps_set (i := 1) S.nd rfl (Or.inl rfl) (pe_call (ok__law_take T) (hr.mono (by decide)) rfl T.g__law_take T.F__law_take.kp T.B__law_take .nil pass0 (pa_cons (pv 0) (pa_cons pe_int pa_nil))))
      (pss_one (ps_ret (pe_op op_mul (pv 1) (pe_call (ok__law_take T) (hr.mono (by decide)) rfl T.g__law_take T.F__law_take.kp T.B__law_take .nil pass0 (pa_cons (pv 0) (pa_cons (pe_op op_pow pe_int pe_int) pa_nil))))))), ?_⟩
    refine st__law_far ?_
    o_args
    refine ⟨a, 3, F, rfl, B0, by decide, by decide, fun d H1 a1 b1 B1 s1 => ?_⟩
    o_args
    refine ⟨a, _, F, rfl, B1, by decide, by decide, fun e H2 a2 b2 B2 s2 => ?_⟩
    refine x_mulL ⟨by omega, by omega⟩ ?_
    o_args
    exact k _ _ (Int.mul_nonneg a1 a2) B2 (s1.trans s2)
def sp__law_odd (K : PySem.W.Frag) : Sp := fun vs H Q _ => ∃ (a : Addr) (F : List Addr), vs = [.ref a] ∧ Bag a F H ∧ ∀ v H', Odd K H' v → Bag a F H' → SameX a H H' → Q v H'
theorem ok__law_odd (T : Txt K mg) : FnOk P w K mg base CX0 2 T.a__law_odd T.fd__law_odd ["bag"] (sp__law_odd K) := by
  have S := sc__law_odd
  refine T.F__law_odd.ok S (fun vs H Q E h => ?_) (fun cdv A outer s H vs Q E hr h => ?_)
  · obtain ⟨a, F, rfl, _⟩ := h
    rfl
  · obtain ⟨a, F, rfl, B0, k⟩ := h
    refine ⟨_, (pss_cons (ps_set (i := 1) S.nd rfl (Or.inl rfl) (pe_call (ok__law_take T) (hr.mono (by decide)) rfl T.g__law_take T.F__law_take.kp T.B__law_take .nil pass0 (pa_cons (pv 0) (pa_cons pe_int pa_nil))))
      (pss_cons (ps_if (pt_cmpR op_eq (pv 1) pe_int (nomark _)) (pss_one (ps_ret pe_non)) pss_nil)
      (pss_cons (ps_if (pt_cmpR op_eq (pv 1) pe_int (nomark _)) (pss_one (ps_ret pe_bl)) pss_nil)
      (pss_cons (ps_if (pt_cmpR op_eq (pv 1) pe_int (nomark _)) (pss_one (ps_ret pe_bl)) pss_nil)
      (pss_cons (ps_if (pt_cmpR op_eq (pv 1) pe_int (nomark _)) (pss_one (ps_ret pe_str)) pss_nil)
      (pss_cons (ps_if (pt_cmpR op_eq (pv 1) pe_int (nomark _)) (pss_one (ps_ret (pe_callTy (T := "str") call_str_int (by rfl) T.b_str (by decide +kernel) (pa_cons (pe_call (ok__law_take T) (hr.mono (by decide)) rfl T.g__law_take T.F__law_take.kp T.B__law_take .nil pass0 (pa_cons (pv 0) (pa_cons pe_int pa_nil))) pa_nil)))) pss_nil)
      (pss_cons (ps_if (pt_cmpR op_eq (pv 1) pe_int (nomark _)) (pss_one (ps_ret (pe_tup (pa_cons (pe_call (ok__law_take T) (hr.mono (by decide)) rfl T.g__law_take T.F__law_take.kp T.B__law_take .nil pass0 (pa_cons (pv 0) (pa_cons pe_int pa_nil))) pa_nil)))) pss_nil)
      (pss_cons (ps_if (pt_cmpR op_eq (pv 1) pe_int (nomark _)) (pss_one (ps_ret (pe_tup pa_nil))) pss_nil)
      (pss_one (ps_ret (pe_lst (pa_cons (pe_call (ok__law_take T) (hr.mono (by decide)) rfl T.g__law_take T.F__law_take.kp T.B__law_take .nil pass0 (pa_cons (pv 0) (pa_cons pe_int pa_nil))) pa_nil)))))))))))), ?_⟩
    refine st__law_odd ?_
    o_args
    refine ⟨a, 8, F, rfl, B0, by decide, by decide, fun way H1 a1 b1 B1 s1 => ?_⟩
    o_args
    refine brD (fun q => ?_) (fun q => ?_)
    · o_args
      exact k _ _ (.mk' (.base .non) (i := false) (b := false) (by decide +kernel) (by decide +kernel) rfl .non (by decide +kernel)) B1 s1
    o_args
    refine brD (fun q => ?_) (fun q => ?_)
    · o_args
      exact k _ _ (.mk' (.base (.bl true)) (i := true) (b := true) (by decide +kernel) (by decide +kernel) rfl (.bl true) (by decide +kernel)) B1 s1
    o_args
    refine brD (fun q => ?_) (fun q => ?_)
    · o_args
      exact k _ _ (.mk' (.base (.bl false)) (i := true) (b := true) (by decide +kernel) (by decide +kernel) rfl (.bl false) (by decide +kernel)) B1 s1
    o_args
    refine brD (fun q => ?_) (fun q => ?_)
    · o_args
      exact k _ _ (.mk' (.base (.str _)) (i := false) (b := false) (by decide +kernel) (by decide +kernel) rfl (.str _) (by decide +kernel)) B1 s1
    o_args
    refine brD (fun q => ?_) (fun q => ?_)
    · o_args
      refine ⟨a, _, F, rfl, B1, by decide, by decide, fun d H2 a2 b2 B2 s2 => ?_⟩
      obtain ⟨h1, h2⟩ := odd_str (K := K) (H := H2) a2 (by omega)
      o_args
      exact ⟨h1, k _ _ h2 B2 (s1.trans s2)⟩
    o_args
    refine brD (fun q => ?_) (fun q => ?_)
    · o_args
      refine ⟨a, _, F, rfl, B1, by decide, by decide, fun d H2 a2 b2 B2 s2 => ?_⟩
      o_args
      refine newTup (by simp) fun t H3 ht s3 h3 => ?_
      o_args
      exact k _ _ (Odd.tup (ns := [d]) h3) (B2.same s3) ((s1.trans s2).trans (SameX.of s3))
    o_args
    refine brD (fun q => ?_) (fun q => ?_)
    · o_args
      refine newTup (by simp) fun t H3 ht s3 h3 => ?_
      o_args
      exact k _ _ (Odd.tup (ns := []) h3) (B1.same s3) (s1.trans (SameX.of s3))
    o_args
    refine ⟨a, _, F, rfl, B1, by decide, by decide, fun d H2 a2 b2 B2 s2 => ?_⟩
    o_args
    refine newList (by simp) fun t H3 ht s3 h3 => ?_
    o_args
    exact k _ _ (Odd.lst (ns := [d]) h3) (B2.same s3) ((s1.trans s2).trans (SameX.of s3))
def sp__law_same (K : PySem.W.Frag) : Sp := fun vs H Q _ => ∃ (x : V), vs = [x, x] ∧ Vl K H x ∧ Q (.bl true) H
theorem ok__law_same (T : Txt K mg) : FnOk P w K mg base CX0 1 T.a__law_same T.fd__law_same ["told", "due"] (sp__law_same K) := by
  have S := sc__law_same
  refine T.F__law_same.ok S (fun vs H Q E h => ?_) (fun cdv A outer s H vs Q E hr h => ?_)
  · obtain ⟨x, rfl, _⟩ := h
    rfl
  · obtain ⟨x, rfl, ⟨t, b, d, h1, h2, h3, h4⟩, k⟩ := h
    have eqq := PySem.SeqAt.eqv_refl _ (PySem.SeqAt.canLay_of_shaped h4)
    refine ⟨_, (pss_cons (ps_if (PW.pt (pw_or (pt_val (pe_callB (id := "isinstance") call_isi (by rfl) T.b_isinstance (by decide +kernel) (pa_cons (pv 0) (pa_cons (pe_bltn (v := .ty "bool") (u := .type "bool") (by rfl) T.b_bool (by decide +kernel) rfl) pa_nil)))) (pw_or1 (pt_val (pe_callB (id := "isinstance") call_isi (by rfl) T.b_isinstance (by decide +kernel) (pa_cons (pv 1) (pa_cons (pe_bltn (v := .ty "bool") (u := .type "bool") (by rfl) T.b_bool (by decide +kernel) rfl) pa_nil))))))) (pss_one (ps_ret (pe_and (pe_callB (id := "isinstance") call_isi (by rfl) T.b_isinstance (by decide +kernel) (pa_cons (pv 0) (pa_cons (pe_bltn (v := .ty "bool") (u := .type "bool") (by rfl) T.b_bool (by decide +kernel) rfl) pa_nil))) (pe_and (pe_callB (id := "isinstance") call_isi (by rfl) T.b_isinstance (by decide +kernel) (pa_cons (pv 1) (pa_cons (pe_bltn (v := .ty "bool") (u := .type "bool") (by rfl) T.b_bool (by decide +kernel) rfl) pa_nil))) (pe_one (pe_cmpR (op_eqD hr.units) (pv 0) (pv 1) (nomark _))))))) pss_nil)
      (pss_one (ps_ret (pe_cmpR (op_eqD hr.units) (pv 0) (pv 1) (nomark _))))), ?_⟩
    refine st__law_same ?_
    o_args
    refine ⟨_, _, _, _, b, rfl, .ty _, h1, h2, ?_⟩
    o_args
    refine br2 (fun q => ?_) (fun q => ?_)
    · subst q
      o_args
      refine ⟨_, _, _, _, true, rfl, .ty _, h1, h2, ?_⟩
      o_args
      refine ⟨_, _, _, _, true, rfl, .ty _, h1, h2, ?_⟩
      o_args
      refine ⟨d, d, h3, h3, h4, h4, ?_⟩
      rw [eqq]
      exact k
    · subst q
      o_args
      refine ⟨_, _, _, _, false, rfl, .ty _, h1, h2, ?_⟩
      o_args
      refine ⟨d, d, h3, h3, h4, h4, ?_⟩
      rw [eqq]
      exact k
/-! ### own errors -/
abbrev sp_InvalidNumber_init_ (K : PySem.W.Frag) : Sp := sp_xinit K "number"
theorem ok_InvalidNumber_init_ (T : Txt K mg) : FnOk P w K mg base CX0 1 T.a_InvalidNumber_init_ T.fd_InvalidNumber_init_ ["self", "number"] (sp_InvalidNumber_init_ K) := by
  have S := sc_InvalidNumber_init_
  refine T.F_InvalidNumber_init_.ok S (fun vs H Q E h => ?_) (fun cdv A outer s H vs Q E hr h => ?_)
  · obtain ⟨a, C, v, rfl, _⟩ := h
    rfl
  · obtain ⟨a, C, v, rfl, O, hn, ha, k⟩ := h
    refine ⟨_, (pss_one (ps_ost (pv 0) (pv 1))), ?_⟩
    exact ⟨_, rfl, _, rfl, a, C, rfl, O, hn, .inl ⟨ha, k⟩⟩
abbrev sp_InvalidSetting_init_ (K : PySem.W.Frag) : Sp := sp_xinit K "setting"
theorem ok_InvalidSetting_init_ (T : Txt K mg) : FnOk P w K mg base CX0 1 T.a_InvalidSetting_init_ T.fd_InvalidSetting_init_ ["self", "setting"] (sp_InvalidSetting_init_ K) := by
  have S := sc_InvalidSetting_init_
  refine T.F_InvalidSetting_init_.ok S (fun vs H Q E h => ?_) (fun cdv A outer s H vs Q E hr h => ?_)
  · obtain ⟨a, C, v, rfl, _⟩ := h
    rfl
  · obtain ⟨a, C, v, rfl, O, hn, ha, k⟩ := h
    refine ⟨_, (pss_one (ps_ost (pv 0) (pv 1))), ?_⟩
    exact ⟨_, rfl, _, rfl, a, C, rfl, O, hn, .inl ⟨ha, k⟩⟩
/-- an error of the class at C with the one field f -/
def Err (C : Addr) (f : Str) (v : V) (H : Hp) (E : XK) : Prop := ∀ d H', Same H H' → H' d = some (.xd [(f, v)]) → E (.ref C) (some d) H'
/-- x lies not in lo .. hi -/
def Out (K : PySem.W.Frag) (H : Hp) (x : V) (lo hi : Int) : Prop := ∃ o, Kd K H x o ∧ inR lo hi o = false
theorem Out.same {K : PySem.W.Frag} {H H' : Hp} {x : V} {lo hi : Int} (h : Out K H x lo hi) (s : Same H H') : Out K H' x lo hi := h.elim fun o h => ⟨o, h.1.same s, h.2⟩
theorem Out.typ {K : PySem.W.Frag} {H H' : Hp} {x : V} {lo hi : Int} (h : Out K H x lo hi) (s : Typ H H') : Out K H' x lo hi := h.elim fun o h => ⟨o, h.1.typ s, h.2⟩
theorem Out.int {K : PySem.W.Frag} {H : Hp} {n lo hi : Int} (h : n < lo ∨ hi < n) : Out K H (.int n) lo hi := ⟨some n, rfl, by
  show (decide (lo ≤ n) && decide (n ≤ hi)) = false
  rcases h with h | h
  · rw [decide_eq_false (show ¬ lo ≤ n by omega)]; rfl
  · rw [decide_eq_false (show ¬ n ≤ hi by omega), Bool.and_false]⟩
theorem Out.odd {K : PySem.W.Frag} {H : Hp} {x : V} {lo hi : Int} (h : IntK K H x false) : Out K H x lo hi := ⟨none, h, rfl⟩
theorem out_between {K : PySem.W.Frag} {H : Hp} {Q : VK} {x : V} {lo hi : Int} {E : XK} (h : Out K H x lo hi) (q : Q (.bl false) H) : sp_is_between K [x, .int lo, .int hi] H Q E := by
  obtain ⟨o, h1, h2⟩ := h
  cases o with
  | none => exact ⟨x, lo, hi, rfl, .inr ⟨h1, q⟩⟩
  | some n => exact ⟨x, lo, hi, rfl, .inl ⟨n, h1, by rw [show (decide (lo ≤ n) && decide (n ≤ hi)) = false from h2]; exact q⟩⟩
theorem in_between {K : PySem.W.Frag} {H : Hp} {Q : VK} {n lo hi : Int} {E : XK} (h1 : lo ≤ n) (h2 : n ≤ hi) (q : Q (.bl true) H) : sp_is_between K [.int n, .int lo, .int hi] H Q E :=
  ⟨.int n, lo, hi, rfl, .inl ⟨n, rfl, by rw [decide_eq_true h1, decide_eq_true h2]; exact q⟩⟩
/-- x is no count -/
def Less (K : PySem.W.Frag) (H : Hp) (x : V) (lo : Int) : Prop := (∃ n, x = .int n ∧ n < lo) ∨ IntK K H x false
theorem Less.same {K : PySem.W.Frag} {H H' : Hp} {x : V} {lo : Int} (h : Less K H x lo) (s : Same H H') : Less K H' x lo := h.elim .inl fun h => .inr (h.same s)
/-- menus of a try: what is caught, and what e is -/
theorem errX {K : PySem.W.Frag} {a D dd : Addr} {fs : List (Str × V)} {c : V} {cv : Value} {b : Bool} {H : Hp} {Q : VK} (hcv : ∀ u, RelV c u → u = cv) (ec : ExcC K D) (hd : H dd = some (.xd fs)) (hk : PySem.W.kitOne K (.ref D) cv = some b) (q : Q (.bl b) H) : rIsX K a (.ref D) (some dd) [.ref a, c] H Q := ⟨c, cv, b, D, dd, fs, rfl, hcv, rfl, ec, rfl, hd, hk, q⟩
theorem errF {K : PySem.W.Frag} {a C dd : Addr} {f : Str} {fs : List (Str × V)} {v : V} {H : Hp} {P : V → Prop} (T : XfC K C) (hn : PySem.W.findIn K (.ref C) f = some none) (hd : H dd = some (.xd fs)) (e : fs.lookup f = some v) (q : P v) :
    V.ref a = V.ref a ∧ ∃ (C' dd' : Addr) (fs : List (Str × V)) (v : V), Value.ref C = .ref C' ∧ XfC K C' ∧ PySem.W.findIn K (.ref C') f = some none ∧ some dd = some dd' ∧ H dd' = some (.xd fs) ∧ fs.lookup f = some v ∧ P v := ⟨rfl, C, dd, fs, v, rfl, T, hn, rfl, hd, e, q⟩
section
variable {K : PySem.W.Frag} {σ : L2.St} {H : Hp} {Q : VK} {v : V} {te : TE} {D : Ends} {i : Nat}
theorem x_xg {a : Addr} {cls : Value} {d : Option Addr} {f : Str} (q : te σ H fun x H1 => x = .ref a ∧ ∃ (C dd : Addr) (fs : List (Str × V)) (v : V), cls = .ref C ∧ XfC K C ∧ PySem.W.findIn K (.ref C) f = some none ∧ d = some dd ∧ H1 dd = some (.xd fs) ∧ fs.lookup f = some v ∧ Q v H1) : tXg K a cls d f te σ H Q := q
theorem x_clgo {a : Addr} {ts : TS} (q : ts (unN D i) (σ.set i (some (.ref a))) H) : clGo D (some i) ts a σ H := q
theorem x_methX {C : Addr} {m : Str} {sp : Sp} {E : L2.St → XK} {ta : TE} {t : TA} (q : ta σ H fun x H1 => ∃ a dx fs, x = .ref a ∧ H1 a = some (.ins C dx fs) ∧ fs.lookup m = none ∧ t σ H1 fun vs H2 => sp (x :: vs) H2 Q (E σ)) : tMethX C m sp E ta t σ H Q := q
theorem x_unrt (q : D.rt v H) : (unN D i).rt v H := q
theorem x_unnx (q : D.nx (σ.set i none) H) : (unN D i).nx σ H := q
end
theorem len2 {α : Type} {l : List α} (h : l.length = 2) : ∃ a b, l = [a, b] := by
  match l, h with
  | [a, b], _ => exact ⟨a, b, rfl⟩
theorem len4 {α : Type} {l : List α} (h : l.length = 4) : ∃ a b c d, l = [a, b, c, d] := by
  match l, h with
  | [a, b, c, d], _ => exact ⟨a, b, c, d, rfl⟩
def sp_is_at_least (K : PySem.W.Frag) : Sp := fun vs H Q _ => ∃ (x : V) (lo : Int), vs = [x, .int lo] ∧ ((∃ n, x = .int n ∧ lo ≤ n ∧ Q (.bl true) H) ∨ (Less K H x lo ∧ Q (.bl false) H))
theorem ok_is_at_least (T : Txt K mg) : FnOk P w K mg base CX0 2 T.a_is_at_least T.fd_is_at_least ["value", "low"] (sp_is_at_least K) := by
  have S := sc_is_at_least
  refine T.F_is_at_least.ok S (fun vs H Q E h => ?_) (fun cdv A outer s H vs Q E hr h => ?_)
  · obtain ⟨x, lo, rfl, _⟩ := h
    rfl
  · obtain ⟨x, lo, rfl, h⟩ := h
    refine ⟨_, (pss_one (ps_ret (pe_and (pe_call (ok_is_integer T) (hr.mono (by decide)) rfl T.g_is_integer T.F_is_integer.kp T.B_is_integer .nil pass0 (pa_cons (pv 0) pa_nil)) (pe_one (pe_cmpR op_le (pv 1) (pv 0) (nomark _)))))), ?_⟩
    refine st_is_at_least ?_
    o_args
    rcases h with ⟨n, rfl, hn, k⟩ | ⟨⟨n, rfl, hn⟩ | hk, k⟩
    · refine ⟨_, true, rfl, intK_int n, ?_⟩
      o_args
      rw [decide_eq_true hn]
      exact k
    · refine ⟨_, true, rfl, intK_int n, ?_⟩
      o_args
      rw [decide_eq_false (show ¬ lo ≤ n by omega)]
      exact k
    · refine ⟨_, false, rfl, hk, ?_⟩
      o_args
      exact k
local macro_rules
  | `(tactic| w_up) => `(tactic| first | with_reducible refine x_clgo ?_ | with_reducible refine x_methX ?_ | with_reducible refine x_xg ?_ | with_reducible refine x_unrt ?_ | with_reducible refine x_unnx ?_)
/-! ### rows and objects beside each other -/
theorem nd_inj {l : List Addr} (h : l.Nodup) : ∀ {i j : Nat} {x : Addr}, l[i]? = some x → l[j]? = some x → i = j := by
  induction l with
  | nil => intro i j x h1; cases h1
  | cons b l ih =>
    intro i j x h1 h2
    have hb := (List.nodup_cons.mp h).1
    have hn := (List.nodup_cons.mp h).2
    cases i with
    | zero => cases j with
      | zero => rfl
      | succ j => cases h1; exact absurd (List.mem_of_getElem? (show l[j]? = some b from h2)) hb
    | succ i => cases j with
      | zero => cases h2; exact absurd (List.mem_of_getElem? (show l[i]? = some b from h1)) hb
      | succ j => rw [ih hn h1 h2]
theorem set_at {α : Type} {l : List α} {i j : Nat} {x y : α} (h : (l.set i x)[j]? = some y) : (j = i ∧ y = x) ∨ (j ≠ i ∧ l[j]? = some y) := by
  by_cases q : i = j
  · subst q
    rw [List.getElem?_set] at h
    split at h
    · split at h
      · exact .inl ⟨rfl, (Option.some.inj h).symm⟩
      · cases h
    · exact absurd rfl ‹_›
  · rw [List.getElem?_set_ne q] at h
    exact .inr ⟨fun e => q e.symm, h⟩
theorem ref_at {l : List Addr} {i : Nat} {x : Addr} (h : l[i]? = some x) : (l.map V.ref)[i]? = some (V.ref x) := by rw [List.getElem?_map, h]; rfl
theorem some_at {α : Type} {l : List α} {i : Nat} (h : i < l.length) : ∃ x, l[i]? = some x := ⟨l[i], List.getElem?_eq_getElem h⟩
theorem SameX.fresh {a l : Addr} {H H1 H2 : Hp} (x : SameX a H H1) (hl : H l = none) (y : SameX l H1 H2) : SameX a H H2 := fun b o nb e => y b o (ne_of_none e hl) (x b o nb e)
theorem same_made {H H' : Hp} {x dx C : Addr} (hx : H x = none) (hdx : H dx = none) (s : SameX x (upd (upd H dx (.own x)) x (.ins C dx [])) H') : Same H H' := fun b o eb => s b o (ne_of_none eb hx) (by rw [upd_ne (ne_of_none eb hx), upd_ne (ne_of_none eb hdx)]; exact eb)
theorem same_made0 {H : Hp} {x dx C : Addr} (hx : H x = none) (hdx : H dx = none) : Same H (upd (upd H dx (.own x)) x (.ins C dx [])) := fun b o eb => by rw [upd_ne (ne_of_none eb hx), upd_ne (ne_of_none eb hdx)]; exact eb
/-- objects of one kind, by what they hold -/
structure AtOk {α : Type} (At : Hp → Addr → α → Prop) : Prop where
  same : ∀ {H H' : Hp} {e : Addr} {x : α}, At H e x → Same H H' → At H' e x
  on : ∀ {H H' : Hp} {e b : Addr} {x : α}, At H e x → SameX b H H' → e ≠ b → At H' e x
  ins : ∀ {H : Hp} {e : Addr} {x : α}, At H e x → ∃ C dx fs, H e = some (.ins C dx fs)
structure Wd {α : Type} (rw : α → List V) (At : Hp → Addr → α → Prop) (n : Nat) (a R L : Addr) (rs es : List Addr) (xs ys : List α) (H : Hp) : Prop where
  ok : AtOk At
  hR : H R = some (.lst (rs.map V.ref))
  hL : H L = some (.lst (es.map V.ref))
  rows : ∀ (i : Nat) r y, rs[i]? = some r → ys[i]? = some y → H r = some (.lst (rw y))
  ests : ∀ (i : Nat) e x, es[i]? = some e → xs[i]? = some x → At H e x
  bag : Bag a (R :: L :: (rs ++ es)) H
  nd : (R :: L :: (rs ++ es)).Nodup
  len : rs.length = n ∧ es.length = n ∧ xs.length = n ∧ ys.length = n
section
variable {α : Type} {rw : α → List V} {At : Hp → Addr → α → Prop} {n : Nat} {a R L : Addr} {rs es : List Addr} {xs ys : List α} {H H' : Hp}
theorem Wd.apart (W : Wd rw At n a R L rs es xs ys H) : R ≠ L ∧ R ∉ rs ∧ R ∉ es ∧ L ∉ rs ∧ L ∉ es ∧ rs.Nodup ∧ es.Nodup ∧ ∀ r ∈ rs, ∀ e ∈ es, r ≠ e := by
  have h1 := List.nodup_cons.mp W.nd
  have h2 := List.nodup_cons.mp h1.2
  have h3 := List.nodup_append.mp h2.2
  refine ⟨fun e => h1.1 (by rw [e]; exact List.mem_cons_self ..), fun h => h1.1 (List.mem_cons_of_mem _ (List.mem_append_left _ h)), fun h => h1.1 (List.mem_cons_of_mem _ (List.mem_append_right _ h)), fun h => h2.1 (List.mem_append_left _ h), fun h => h2.1 (List.mem_append_right _ h), h3.1, h3.2.1, fun r hr e he => h3.2.2 r hr e he⟩
theorem Wd.inF {i : Nat} {r : Addr} (h : rs[i]? = some r) : r ∈ R :: L :: (rs ++ es) := List.mem_cons_of_mem _ (List.mem_cons_of_mem _ (List.mem_append_left _ (List.mem_of_getElem? h)))
theorem Wd.inF' {i : Nat} {e : Addr} (h : es[i]? = some e) : e ∈ R :: L :: (rs ++ es) := List.mem_cons_of_mem _ (List.mem_cons_of_mem _ (List.mem_append_right _ (List.mem_of_getElem? h)))
theorem Wd.take (W : Wd rw At n a R L rs es xs ys H) (B : Bag a (R :: L :: (rs ++ es)) H') (s : SameX a H H') : Wd rw At n a R L rs es xs ys H' :=
  ⟨W.ok, s _ _ (B.ne (List.mem_cons_self ..)) W.hR, s _ _ (B.ne (List.mem_cons_of_mem _ (List.mem_cons_self ..))) W.hL, fun i r y h1 h2 => s _ _ (B.ne (Wd.inF h1)) (W.rows i r y h1 h2), fun i e x h1 h2 => W.ok.on (W.ests i e x h1 h2) s (B.ne (Wd.inF' h1)), B, W.nd, W.len⟩
theorem Wd.same (W : Wd rw At n a R L rs es xs ys H) (s : Same H H') : Wd rw At n a R L rs es xs ys H' :=
  ⟨W.ok, s _ _ W.hR, s _ _ W.hL, fun i r y h1 h2 => s _ _ (W.rows i r y h1 h2), fun i e x h1 h2 => W.ok.same (W.ests i e x h1 h2) s, W.bag.same s, W.nd, W.len⟩
theorem Wd.setE {i : Nat} {e : Addr} {x' : α} (W : Wd rw At n a R L rs es xs ys H) (hi : es[i]? = some e) (s : SameX e H H') (h : At H' e x') : Wd rw At n a R L rs es (xs.set i x') ys H' := by
  obtain ⟨_, _, n3, _, n5, _, n7, n8⟩ := W.apart
  have me := List.mem_of_getElem? hi
  refine ⟨W.ok, s _ _ (fun z => n3 (z ▸ me)) W.hR, s _ _ (fun z => n5 (z ▸ me)) W.hL, fun j r y h1 h2 => s _ _ (n8 r (List.mem_of_getElem? h1) e me) (W.rows j r y h1 h2), fun j f x h1 h2 => ?_, W.bag.on (Wd.inF' hi) s ((W.ok.ins h).elim fun C h => h.elim fun dx h => h.elim fun fs h => ⟨_, h⟩), W.nd, ?_⟩
  · rcases set_at h2 with ⟨rfl, rfl⟩ | ⟨q, h2⟩
    · rw [hi] at h1
      cases h1
      exact h
    · exact W.ok.on (W.ests j f x h1 h2) s fun z => q (nd_inj n7 (z ▸ h1) hi)
  · obtain ⟨l1, l2, l3, l4⟩ := W.len
    exact ⟨l1, l2, by rw [List.length_set]; exact l3, l4⟩
theorem Wd.setR {i : Nat} {r : Addr} {y' : α} (W : Wd rw At n a R L rs es xs ys H) (hi : rs[i]? = some r) (s : SameX r H H') (h : H' r = some (.lst (rw y'))) : Wd rw At n a R L rs es xs (ys.set i y') H' := by
  obtain ⟨_, n2, _, n4, _, n6, _, n8⟩ := W.apart
  have me := List.mem_of_getElem? hi
  refine ⟨W.ok, s _ _ (fun z => n2 (z ▸ me)) W.hR, s _ _ (fun z => n4 (z ▸ me)) W.hL, fun j f y h1 h2 => ?_, fun j f x h1 h2 => W.ok.on (W.ests j f x h1 h2) s (fun z => n8 r me f (List.mem_of_getElem? h1) z.symm), W.bag.on (Wd.inF hi) s ⟨_, h⟩, W.nd, ?_⟩
  · rcases set_at h2 with ⟨rfl, rfl⟩ | ⟨q, h2⟩
    · rw [hi] at h1
      cases h1
      exact h
    · exact s _ _ (fun z => q (nd_inj n6 (z ▸ h1) hi)) (W.rows j f y h1 h2)
  · obtain ⟨l1, l2, l3, l4⟩ := W.len
    exact ⟨l1, l2, l3, by rw [List.length_set]; exact l4⟩
/-- a comprehension that makes an object for each row -/
theorem lc_world {K : PySem.W.Frag} {te tel : TE} {σ : L2.St} {Q : VK} {j : Nat} (ok : AtOk At) (hn : n < 100000) (hte : ∀ R' : VK, R' (.ref R) H → te σ H R') (hR : H R = some (.lst (rs.map V.ref)))
    (rows : ∀ (i : Nat) r x, rs[i]? = some r → xs[i]? = some x → H r = some (.lst (rw x))) (l1 : rs.length = n) (l2 : xs.length = n) (B : Bag a (R :: rs) H) (nd : (R :: rs).Nodup)
    (hs : ∀ (i : Nat) r x H' (Qe : VK), rs[i]? = some r → xs[i]? = some x → H' r = some (.lst (rw x)) → (∀ e H'', H' e = none → Same H' H'' → At H'' e x → Qe (.ref e) H'') → tel ((σ.set j none).set j (some (.ref r))) H' Qe)
    (hd : ∀ L es H', Wd rw At n a R L rs es xs xs H' → Same H H' → Q (.ref L) H') : tLc (iList K te) (gName j) tYes tel [j] σ H Q := by
  refine lc_lstN (K := K) (fun i vs H' => ∃ es : List Addr, vs = es.map V.ref ∧ es.length = i ∧ es.Nodup ∧ (∀ e ∈ es, H e = none) ∧ ∀ (j : Nat) e x, es[j]? = some e → xs[j]? = some x → At H' e x) hte (SqL.of hR) (by rw [List.length_map]; omega)
    (fun H' _ => ⟨[], rfl, rfl, List.nodup_nil, fun e he => absurd he List.not_mem_nil, fun j e x he => by cases he⟩)
    (fun i vs H1 H2 s ⟨es, e1, e2, e3, e4, e5⟩ => ⟨es, e1, e2, e3, e4, fun j e x h1 h2 => ok.same (e5 j e x h1 h2) s⟩)
    (fun D H1 H2 i vs hD s _ ⟨acc, hacc⟩ ⟨es, e1, e2, e3, e4, e5⟩ => ⟨es, e1, e2, e3, e4, fun j e x h1 h2 => ok.on (e5 j e x h1 h2) s fun z => by
      obtain ⟨C, dx, fs, h⟩ := ok.ins (e5 j e x h1 h2)
      rw [z, hacc] at h
      cases h⟩)
    (fun D i x vs H' hi s hv hvl hD _ Qe q => ?_) (fun L vs H1 nL hl hv hL s1 => ?_)
  · rw [List.getElem?_map] at hi
    cases er : rs[i]? with
    | none => rw [er] at hi; cases hi
    | some r =>
      rw [er] at hi
      cases hi
      have hi := getq_lt er
      obtain ⟨y, hy⟩ := some_at (l := xs) (i := i) (by omega)
      obtain ⟨es, rfl, e2, e3, e4, e5⟩ := hv
      refine hs i r y H' Qe er hy (s _ _ (rows i r y er hy)) fun e H2 he S2 h2 => q _ _ S2 ⟨es ++ [e], by simp, by simp [e2], ?_, ?_, ?_⟩
      · refine List.nodup_append.mpr ⟨e3, by simp, fun f hf g hg => ?_⟩
        rw [List.mem_singleton.mp hg]
        obtain ⟨k, hk⟩ := List.mem_iff_getElem?.mp hf
        obtain ⟨z, hz⟩ := some_at (l := xs) (i := k) (by have := getq_lt hk; omega)
        obtain ⟨C, dx, fs, h⟩ := ok.ins (e5 k f z hk hz)
        exact ne_of_none h he
      · intro f hf
        rcases List.mem_append.mp hf with h | h
        · exact e4 f h
        · rw [List.mem_singleton.mp h]
          exact none_of s he
      · intro k f z h1 h3
        rcases getq_app h1 with ⟨_, h⟩ | ⟨rfl, rfl⟩
        · exact ok.same (e5 k f z h h3) S2
        · rw [e2, hy] at h3
          cases h3
          exact h2
  obtain ⟨es, rfl, e2, e3, e4, e5⟩ := hv
  rw [List.length_map] at e2
  have me : ∀ e ∈ es, ∃ C dx fs, H1 e = some (.ins C dx fs) := fun e he => by
    obtain ⟨k, hk⟩ := List.mem_iff_getElem?.mp he
    obtain ⟨z, hz⟩ := some_at (l := xs) (i := k) (by have := getq_lt hk; omega)
    exact ok.ins (e5 k e z hk hz)
  have mr : ∀ r ∈ rs, ∃ o, H r = some o := fun r h => by
    obtain ⟨k, hk⟩ := List.mem_iff_getElem?.mp h
    obtain ⟨z, hz⟩ := some_at (l := xs) (i := k) (by have := getq_lt hk; omega)
    exact ⟨_, rows k r z hk hz⟩
  refine hd L es H1 ⟨ok, s1 _ _ hR, hL, fun i r y h1 h2 => s1 _ _ (rows i r y h1 h2), e5, ?_, ?_, l1, e2.trans l1, l2, l2⟩ s1
  · refine (B.owns (G := L :: es) (fun c hc => ?_) s1).less fun c hc => ?_
    · rcases List.mem_cons.mp hc with h | h
      · rw [h]; exact ⟨nL, _, hL⟩
      · obtain ⟨C, dx, fs, h'⟩ := me c h
        exact ⟨e4 c h, _, h'⟩
    · simp only [List.mem_cons, List.mem_append] at hc ⊢
      rcases hc with h | h | h | h <;> simp [h]
  · have xR : R ∉ es := fun he => absurd rfl (ne_of_none hR (e4 R he))
    have xL : L ∉ es := fun he => by
      obtain ⟨C, dx, fs, h'⟩ := me L he
      rw [hL] at h'
      cases h'
    have lR : R ≠ L := ne_of_none hR nL
    have lr : L ∉ rs := fun h => by
      obtain ⟨o, ho⟩ := mr L h
      rw [nL] at ho
      cases ho
    have n2 := List.nodup_cons.mp nd
    refine List.nodup_cons.mpr ⟨fun h => ?_, List.nodup_cons.mpr ⟨fun h => ?_, List.nodup_append.mpr ⟨n2.2, e3, fun r h1 e h2 z => ?_⟩⟩⟩
    · rcases List.mem_cons.mp h with h | h
      · exact lR h
      rcases List.mem_append.mp h with h | h
      · exact n2.1 h
      · exact xR h
    · rcases List.mem_append.mp h with h | h
      · exact lr h
      · exact xL h
    · obtain ⟨o, ho⟩ := mr r h1
      rw [z, e4 e h2] at ho
      cases ho
end
/-! ### the finder -/
def sp_require_count (K : PySem.W.Frag) (Ce : Addr) : Sp := fun vs H Q E => ∃ (x : V), vs = [x] ∧ ((∃ n, x = .int n ∧ 0 ≤ n ∧ Q .non H) ∨ (Less K H x 0 ∧ Err Ce "number" x H E))
theorem ok_require_count (T : Txt K mg) : FnOk P w K mg base (L2.CX P w) 3 T.a_require_count T.fd_require_count ["count"] (sp_require_count K T.c_InvalidNumber) := by
  have S := sc_require_count
  refine T.F_require_count.okX S (fun vs H Q E h => ?_) (fun cdv A outer s H vs Q E hr h => ?_)
  · obtain ⟨x, rfl, _⟩ := h
    rfl
  · obtain ⟨x, rfl, h⟩ := h
    refine ⟨_, (pss_one (ps_if (pt_not (pt_val (pe_call (ok_is_at_least T) (hr.mono (by decide)) rfl T.g_is_at_least T.F_is_at_least.kp T.B_is_at_least .nil pass0 (pa_cons (pv 0) (pa_cons pe_int pa_nil))))) (pss_one (ps_raise rfl (takes_of rfl rfl rfl rfl) (pmk_oex T.X_InvalidNumber.o T.X_InvalidNumber.i T.X_InvalidNumber.t (ok_InvalidNumber_init_ T) (hr.mono (by decide)) T.B_InvalidNumber_init_ .nil pass0 rfl T.X_InvalidNumber.g (pa_cons (pv 0) pa_nil)))) pss_nil)), ?_⟩
    refine st_require_count ?_
    o_args
    rcases h with ⟨n, rfl, h0, k⟩ | ⟨hk, hE⟩
    · refine ⟨_, 0, rfl, .inl ⟨n, rfl, h0, ?_⟩⟩
      o_args
      exact k
    · refine ⟨_, 0, rfl, .inr ⟨hk, ?_⟩⟩
      o_args
      exact ⟨_, rfl, mkO_of T.X_InvalidNumber.o T.nX_InvalidNumber fun d H1 nd ss hx => hE d H1 ss hx⟩
structure Fs where
  sz : Int
  ce : Int
  st : Int
def Fs.row (f : Fs) : List V := [.int f.sz, .int f.ce, .int f.st]
def FinAt (C : Addr) (H : Hp) (e : Addr) (f : Fs) : Prop := ∃ dx, H e = some (.ins C dx [("size", .int f.sz), ("ceiling", .int f.ce), ("strikes", .int f.st)])
theorem FinAt.same {C : Addr} {H H' : Hp} {e : Addr} {x : Fs} (h : FinAt C H e x) (s : Same H H') : FinAt C H' e x := h.elim fun dx h => ⟨dx, s _ _ h⟩
theorem FinAt.on {C : Addr} {H H' : Hp} {e b : Addr} {x : Fs} (h : FinAt C H e x) (s : SameX b H H') (n : e ≠ b) : FinAt C H' e x := h.elim fun dx h => ⟨dx, s _ _ n h⟩
def Fs.aim (f : Fs) : Int := if f.sz < f.ce then (f.sz + f.ce + 1) / 2 else 0
def Fs.pass (f : Fs) (n : Int) : Fs := if f.sz < n then ⟨min n f.ce, f.ce, 0⟩ else f
def Fs.fail (f : Fs) (n : Int) : Fs := if n ≠ 0 ∧ n = f.aim then (if f.st + 1 = 2 then ⟨f.sz, n - 1, 0⟩ else ⟨f.sz, f.ce, f.st + 1⟩) else f
def sp_Finder_init_ (K : PySem.W.Frag) (C Ce : Addr) : Sp := fun vs H Q E => ∃ (p : Addr) (v w : V), vs = [.ref p, v, w] ∧
  ((∃ dx lo hi, v = .int lo ∧ w = .int hi ∧ H p = some (.ins C dx []) ∧ 1 ≤ lo ∧ lo ≤ hi ∧ hi ≤ 1400 ∧ ∀ H', SameX p H H' → FinAt C H' p ⟨lo, hi, 0⟩ → Q .non H') ∨
   (Out K H v 1 1400 ∧ Err Ce "setting" (.str "low") H E) ∨ (∃ lo, v = .int lo ∧ 1 ≤ lo ∧ lo ≤ 1400 ∧ Out K H w lo 1400 ∧ Err Ce "setting" (.str "high") H E))
theorem ok_Finder_init_ (T : Txt K mg) : FnOk P w K mg base (L2.CX P w) 3 T.a_Finder_init_ T.fd_Finder_init_ ["self", "low", "high"] (sp_Finder_init_ K T.c_Finder T.c_InvalidSetting) := by
  have S := sc_Finder_init_
  refine T.F_Finder_init_.okX S (fun vs H Q E h => ?_) (fun cdv A outer s H vs Q E hr h => ?_)
  · obtain ⟨p, v, w, rfl, _⟩ := h
    rfl
  · obtain ⟨p, v, w, rfl, h⟩ := h
    refine ⟨_, (pss_cons (ps_if (pt_not (pt_val (pe_call (ok_is_between T) (hr.mono (by decide)) rfl T.g_is_between T.F_is_between.kp T.B_is_between .nil pass0 (pa_cons (pv 1) (pa_cons pe_int (pa_cons (pe_glob rfl T.g_MOST_BYTES T.r_MOST_BYTES) pa_nil)))))) (pss_one (ps_raise rfl (takes_of rfl rfl rfl rfl) (pmk_oex T.X_InvalidSetting.o T.X_InvalidSetting.i T.X_InvalidSetting.t (ok_InvalidSetting_init_ T) (hr.mono (by decide)) T.B_InvalidSetting_init_ .nil pass0 rfl T.X_InvalidSetting.g (pa_cons pe_str pa_nil)))) pss_nil)
      (pss_cons (ps_if (pt_not (pt_val (pe_call (ok_is_between T) (hr.mono (by decide)) rfl T.g_is_between T.F_is_between.kp T.B_is_between .nil pass0 (pa_cons (pv 2) (pa_cons (pv 1) (pa_cons (pe_glob rfl T.g_MOST_BYTES T.r_MOST_BYTES) pa_nil)))))) (pss_one (ps_raise rfl (takes_of rfl rfl rfl rfl) (pmk_oex T.X_InvalidSetting.o T.X_InvalidSetting.i T.X_InvalidSetting.t (ok_InvalidSetting_init_ T) (hr.mono (by decide)) T.B_InvalidSetting_init_ .nil pass0 rfl T.X_InvalidSetting.g (pa_cons pe_str pa_nil)))) pss_nil)
      (pss_cons (ps_fld (pv 0) (pv 1) rfl)
      (pss_cons (ps_fld (pv 0) (pv 2) rfl)
      (pss_one (ps_fld (pv 0) pe_int rfl)))))), ?_⟩
    refine st_Finder_init_ ?_
    o_args
    rcases h with ⟨dx, lo, hi, rfl, rfl, hp, h1, h2, h3, k⟩ | ⟨ho, hE⟩ | ⟨lo, rfl, h1, h2, ho, hE⟩
    · refine in_between h1 (by omega) ?_
      o_args
      refine in_between h2 h3 ?_
      o_args
      refine fstore hp T.cl_Finder T.n_Finder_size (Nat.le_of_ble_eq_true rfl) rfl fun H1 s1 h1 => ?_
      o_args
      refine fstore h1 T.cl_Finder T.n_Finder_ceiling (Nat.le_of_ble_eq_true rfl) rfl fun H2 s2 h2 => ?_
      o_args
      refine fstore h2 T.cl_Finder T.n_Finder_strikes (Nat.le_of_ble_eq_true rfl) rfl fun H3 s3 h3 => ?_
      o_args
      exact k H3 ((s1.trans s2).trans s3) ⟨dx, h3⟩
    · refine out_between ho ?_
      o_args
      exact mkO_of T.X_InvalidSetting.o T.nX_InvalidSetting fun d H1 nd ss hx => hE d H1 ss hx
    · refine in_between h1 h2 ?_
      o_args
      refine out_between ho ?_
      o_args
      exact mkO_of T.X_InvalidSetting.o T.nX_InvalidSetting fun d H1 nd ss hx => hE d H1 ss hx
def sp_Finder_trial (C : Addr) : Sp := fun vs H Q _ => ∃ (e : Addr) (f : Fs), vs = [.ref e] ∧ FinAt C H e f ∧ Q (.int f.aim) H
theorem ok_Finder_trial (T : Txt K mg) : FnOk P w K mg base CX0 1 T.a_Finder_trial T.fd_Finder_trial ["self"] (sp_Finder_trial T.c_Finder) := by
  have S := sc_Finder_trial
  refine T.F_Finder_trial.ok S (fun vs H Q E h => ?_) (fun cdv A outer s H vs Q E hr h => ?_)
  · obtain ⟨e, f, rfl, _⟩ := h
    rfl
  · obtain ⟨e, f, rfl, ⟨dx, he⟩, k⟩ := h
    refine ⟨_, (pss_one (ps_ret (pe_ifExp (pt_cmpR op_lt (pe_fld (pv 0) rfl) (pe_fld (pv 0) rfl) (nomark _)) (pe_op op_fdiv (pe_op op_add (pe_op op_add (pe_fld (pv 0) rfl) (pe_fld (pv 0) rfl)) pe_int) pe_int) pe_int))), ?_⟩
    refine st_Finder_trial ?_
    o_args
    unfold Fs.aim at k
    refine fget he T.cl_Finder T.n_Finder_size rfl ?_
    o_args
    refine fget he T.cl_Finder T.n_Finder_ceiling rfl ?_
    o_args
    refine brD (fun q => ?_) (fun q => ?_)
    · rw [if_pos q] at k
      o_args
      refine fget he T.cl_Finder T.n_Finder_size rfl ?_
      o_args
      refine fget he T.cl_Finder T.n_Finder_ceiling rfl ?_
      o_args
      exact k
    · rw [if_neg q] at k
      o_args
      exact k
def sp_Finder_passed (K : PySem.W.Frag) (C Ce : Addr) : Sp := fun vs H Q E => ∃ (e : Addr) (x : V) (f : Fs), vs = [.ref e, x] ∧ FinAt C H e f ∧ ((∃ n, x = .int n ∧ 0 ≤ n ∧ ∀ H', SameX e H H' → FinAt C H' e (f.pass n) → Q .non H') ∨ (Less K H x 0 ∧ Err Ce "number" x H E))
theorem ok_Finder_passed (T : Txt K mg) : FnOk P w K mg base (L2.CX P w) 4 T.a_Finder_passed T.fd_Finder_passed ["self", "count"] (sp_Finder_passed K T.c_Finder T.c_InvalidNumber) := by
  have S := sc_Finder_passed
  refine T.F_Finder_passed.okX S (fun vs H Q E h => ?_) (fun cdv A outer s H vs Q E hr h => ?_)
  · obtain ⟨e, x, f, rfl, _⟩ := h
    rfl
  · obtain ⟨e, x, f, rfl, ⟨dx, he⟩, h⟩ := h
    refine ⟨_, (pss_cons (ps_expr (pe_call (ok_require_count T) (hr.mono (by decide)) rfl T.g_require_count T.F_require_count.kp T.B_require_count .nil (passes_call (takes_of rfl rfl rfl rfl) (fun _ _ _ _ h => h)) (pa_cons (pv 1) pa_nil)))
      (pss_one (ps_if (pt_cmpR op_gt (pv 1) (pe_fld (pv 0) rfl) (nomark _)) (pss_cons (ps_fld (pv 0) (pe_callB (id := "min") (call_min2K rfl) (by rfl) T.b_min (by decide +kernel) (pa_cons (pv 1) (pa_cons (pe_fld (pv 0) rfl) pa_nil))) rfl)
      (pss_one (ps_fld (pv 0) pe_int rfl))) pss_nil))), ?_⟩
    refine st_Finder_passed ?_
    o_args
    rcases h with ⟨n, rfl, h0, k⟩ | ⟨hk, hE⟩
    · unfold Fs.pass at k
      refine ⟨_, rfl, .inl ⟨n, rfl, h0, ?_⟩⟩
      o_args
      refine fget he T.cl_Finder T.n_Finder_size rfl ?_
      o_args
      refine brD (fun q => ?_) (fun q => ?_)
      · rw [if_pos q] at k
        o_args
        refine fget he T.cl_Finder T.n_Finder_ceiling rfl ?_
        o_args
        refine fstore he T.cl_Finder T.n_Finder_size (Nat.le_of_ble_eq_true rfl) rfl fun H1 s1 h1 => ?_
        o_args
        refine fstore h1 T.cl_Finder T.n_Finder_strikes (Nat.le_of_ble_eq_true rfl) rfl fun H2 s2 h2 => ?_
        o_args
        exact k H2 (s1.trans s2) ⟨dx, h2⟩
      · rw [if_neg q] at k
        o_args
        exact k H SameX.refl ⟨dx, he⟩
    · exact ⟨_, rfl, .inr ⟨hk, hE⟩⟩
def sp_Finder_failed (K : PySem.W.Frag) (C Ce : Addr) : Sp := fun vs H Q E => ∃ (e : Addr) (x : V) (f : Fs), vs = [.ref e, x] ∧ FinAt C H e f ∧ ((∃ n, x = .int n ∧ 0 ≤ n ∧ ∀ H', SameX e H H' → FinAt C H' e (f.fail n) → Q .non H') ∨ (Less K H x 0 ∧ Err Ce "number" x H E))
theorem ok_Finder_failed (T : Txt K mg) : FnOk P w K mg base (L2.CX P w) 4 T.a_Finder_failed T.fd_Finder_failed ["self", "count"] (sp_Finder_failed K T.c_Finder T.c_InvalidNumber) := by
  have S := sc_Finder_failed
  refine T.F_Finder_failed.okX S (fun vs H Q E h => ?_) (fun cdv A outer s H vs Q E hr h => ?_)
  · obtain ⟨e, x, f, rfl, _⟩ := h
    rfl
  · obtain ⟨e, x, f, rfl, ⟨dx, he⟩, h⟩ := h
    refine ⟨_, (pss_cons (ps_expr (pe_call (ok_require_count T) (hr.mono (by decide)) rfl T.g_require_count T.F_require_count.kp T.B_require_count .nil (passes_call (takes_of rfl rfl rfl rfl) (fun _ _ _ _ h => h)) (pa_cons (pv 1) pa_nil)))
      (pss_cons (ps_if (PW.pt (pw_or (pt_cmpR op_eq (pv 1) pe_int (nomark _)) (pw_or1 (pt_cmpR op_ne (pv 1) (pe_meth0 (pv 0) T.cl_Finder T.m_Finder_trial (ok_Finder_trial T) (hr.mono (by decide)) T.B_Finder_trial .nil pass0) (nomark _))))) (pss_one ps_retN) pss_nil)
      (pss_cons (ps_fldaug (pv 0) pe_int ip_add)
      (pss_one (ps_if (pt_cmpR op_eq (pe_fld (pv 0) rfl) (pe_glob rfl T.g_MOST_STRIKES T.r_MOST_STRIKES) (nomark _)) (pss_cons (ps_fld (pv 0) (pe_op op_sub (pv 1) pe_int) rfl)
      (pss_one (ps_fld (pv 0) pe_int rfl))) pss_nil))))), ?_⟩
    refine st_Finder_failed ?_
    o_args
    rcases h with ⟨n, rfl, h0, k⟩ | ⟨hk, hE⟩
    · unfold Fs.fail at k
      refine ⟨_, rfl, .inl ⟨n, rfl, h0, ?_⟩⟩
      o_args
      refine brD (fun q => ?_) (fun q => ?_)
      · rw [if_neg (fun z => z.1 q)] at k
        o_args
        exact k H SameX.refl ⟨dx, he⟩
      o_args
      refine ⟨e, dx, _, rfl, he, rfl, e, f, rfl, ⟨dx, he⟩, ?_⟩
      o_args
      refine brD (fun q' => ?_) (fun q' => ?_)
      · rw [if_pos ⟨q, q'⟩] at k
        o_args
        refine fraise he T.cl_Finder T.n_Finder_strikes (Nat.le_of_ble_eq_true rfl) rfl ?_
        o_args
        refine fput he (Nat.le_of_ble_eq_true rfl) rfl fun H1 s1 h1 => ?_
        o_args
        refine fget h1 T.cl_Finder T.n_Finder_strikes rfl ?_
        o_args
        refine brD (fun p => ?_) (fun p => ?_)
        · rw [if_pos p] at k
          o_args
          refine fstore h1 T.cl_Finder T.n_Finder_ceiling (Nat.le_of_ble_eq_true rfl) rfl fun H2 s2 h2 => ?_
          o_args
          refine fstore h2 T.cl_Finder T.n_Finder_strikes (Nat.le_of_ble_eq_true rfl) rfl fun H3 s3 h3 => ?_
          o_args
          exact k H3 ((s1.trans s2).trans s3) ⟨dx, h3⟩
        · rw [if_neg p] at k
          o_args
          exact k H1 s1 ⟨dx, h1⟩
      · rw [if_neg (fun z => q' z.2)] at k
        o_args
        exact k H SameX.refl ⟨dx, he⟩
    · exact ⟨_, rfl, .inr ⟨hk, hE⟩⟩
/-! ### the law's calls -/
def sp__law_made (K : PySem.W.Frag) : Sp := fun vs H Q _ => ∃ (v w : V), vs = [v, w] ∧
  ((∃ lo hi, v = .int lo ∧ w = .int hi ∧ 1 ≤ lo ∧ lo ≤ hi ∧ hi ≤ 1400 ∧ ∀ p L H', Same H H' → H' p = some (.tup [.str "made", .ref L]) → H' L = some (.lst [.int lo, .int hi, .int 0]) → Q (.ref p) H') ∨
   (Out K H v 1 1400 ∧ ∀ p H', Same H H' → H' p = some (.tup [.str "setting", .str "low"]) → Q (.ref p) H') ∨
   (∃ lo, v = .int lo ∧ 1 ≤ lo ∧ lo ≤ 1400 ∧ Out K H w lo 1400 ∧ ∀ p H', Same H H' → H' p = some (.tup [.str "setting", .str "high"]) → Q (.ref p) H'))
theorem ok__law_made (T : Txt K mg) : FnOk P w K mg base CX0 5 T.a__law_made T.fd__law_made ["low_bound", "high_bound"] (sp__law_made K) := by
  have S := sc__law_made
  refine T.F__law_made.ok S (fun vs H Q E h => ?_) (fun cdv A outer s H vs Q E hr h => ?_)
  · obtain ⟨v, w, rfl, _⟩ := h
    rfl
  · obtain ⟨v, w, rfl, h⟩ := h
    refine ⟨_, (pss_cons (ps_try_cl rfl rfl takes0 (fun W pn xe tk po => (pss_cons (ps_set (i := 2) S.nd rfl (Or.inl rfl) (pe_make T.M_Finder (ok_Finder_init_ T) (hr.mono (by decide)) rfl T.g_Finder T.B_Finder_init_ .nil (passes_any 4 tk) (pa_cons (pv 0) (pa_cons (pv 1) pa_nil))))
      (pss_one (ps_ret (pe_tup (pa_cons pe_str (pa_cons (pe_lst (pa_cons (pe_fldK (K := K) rfl (pv 2) rfl) (pa_cons (pe_fldK (K := K) rfl (pv 2) rfl) (pa_cons (pe_fldK (K := K) rfl (pv 2) rfl) pa_nil)))) pa_nil)))))))
      (ClOk.named (i := 3) S.nd rfl rfl ⟨rfl, by decide, .inl T.X_LossError.g⟩ (fun a oe cls d pn hz hf => (pss_one (ps_if (PW.pt (pw_and (pt_val (pe_callB (id := "isinstance") (call_isX hz hf) (by rfl) T.b_isinstance (by decide +kernel) (pa_cons (pv 3) (pa_cons (pe_glob (v := .ref T.c_InvalidSetting) rfl T.X_InvalidSetting.g rfl) pa_nil)))) (pw_and (pt_val (pe_callB (id := "isinstance") (call_isX hz hf) (by rfl) T.b_isinstance (by decide +kernel) (pa_cons (pv 3) (pa_cons (pe_bltn (v := .ty "ValueError") (u := .type "ValueError") (by rfl) T.b_ValueError (by decide +kernel) rfl) pa_nil)))) (pw_and1 (pt_not (pt_val (pe_callB (id := "isinstance") (call_isX hz hf) (by rfl) T.b_isinstance (by decide +kernel) (pa_cons (pv 3) (pa_cons (pe_glob (v := .ref T.c_InvalidNumber) rfl T.X_InvalidNumber.g rfl) pa_nil))))))))) (pss_one (ps_ret (pe_tup (pa_cons pe_str (pa_cons (pe_xg hz hf (pv 3)) pa_nil))))) pss_nil)))
      ClOk.nil))
      (pss_one (ps_ret (pe_tup (pa_cons pe_str (pa_cons pe_non pa_nil)))))), ?_⟩
    refine st__law_made ?_
    o_args
    intro x dx hx hdx nd
    have s0 := same_made0 (C := T.c_Finder) hx hdx
    rcases h with ⟨lo, hi, rfl, rfl, h1, h2, h3, k⟩ | ⟨ho, k⟩ | ⟨lo, rfl, h1, h2, ho, k⟩
    · refine ⟨x, _, _, rfl, .inl ⟨dx, lo, hi, rfl, rfl, upd_same, h1, h2, h3, fun H1 s1 ⟨dy, g1⟩ => ⟨rfl, ?_⟩⟩⟩
      have S1 := same_made hx hdx s1
      o_args
      refine fget g1 T.cl_Finder T.n_Finder_size rfl ?_
      o_args
      refine fget g1 T.cl_Finder T.n_Finder_ceiling rfl ?_
      o_args
      refine fget g1 T.cl_Finder T.n_Finder_strikes rfl ?_
      o_args
      refine newList (by simp) fun L H2 hL s2 h2 => ?_
      o_args
      refine newTup (by simp) fun p H3 hp s3 h3 => ?_
      o_args
      exact k p L H3 ((S1.trans s2).trans s3) h3 (s3 _ _ h2)
    · refine ⟨x, _, _, rfl, .inr (.inl ⟨ho.same s0, fun d H1 s1 hx σ hσ => ?_⟩)⟩
      obtain ⟨a0, a1, a2, a3, rfl⟩ := len4 hσ
      refine ⟨true, T.Me_InvalidSetting_LossError, fun _ a ha => ?_, fun z => nomatch z⟩
      o_args
      refine errX (fun u r => r) T.X_InvalidSetting.e hx T.Kt_InvalidSetting_InvalidSetting ?_
      o_args
      refine errX (fun u r => r) T.X_InvalidSetting.e hx T.Kv_InvalidSetting ?_
      o_args
      refine errX (fun u r => r) T.X_InvalidSetting.e hx T.Kt_InvalidSetting_InvalidNumber ?_
      o_args
      refine errF T.X_InvalidSetting.x T.nX_InvalidSetting hx rfl ?_
      o_args
      refine newTup (by simp) fun p H3 hp s3 h3 => ?_
      o_args
      exact k p H3 ((s0.trans s1).trans s3) h3
    · refine ⟨x, _, _, rfl, .inr (.inr ⟨lo, rfl, h1, h2, ho.same s0, fun d H1 s1 hx σ hσ => ?_⟩)⟩
      obtain ⟨a0, a1, a2, a3, rfl⟩ := len4 hσ
      refine ⟨true, T.Me_InvalidSetting_LossError, fun _ a ha => ?_, fun z => nomatch z⟩
      o_args
      refine errX (fun u r => r) T.X_InvalidSetting.e hx T.Kt_InvalidSetting_InvalidSetting ?_
      o_args
      refine errX (fun u r => r) T.X_InvalidSetting.e hx T.Kv_InvalidSetting ?_
      o_args
      refine errX (fun u r => r) T.X_InvalidSetting.e hx T.Kt_InvalidSetting_InvalidNumber ?_
      o_args
      refine errF T.X_InvalidSetting.x T.nX_InvalidSetting hx rfl ?_
      o_args
      refine newTup (by simp) fun p H3 hp s3 h3 => ?_
      o_args
      exact k p H3 ((s0.trans s1).trans s3) h3
def Fs.step (f : Fs) (deed n : Int) : Fs := if deed = 0 then f.pass n else f.fail n
def sp__law_call (K : PySem.W.Frag) (C : Addr) : Sp := fun vs H Q _ => ∃ (e : Addr) (deed : Int) (x : V) (f : Fs), vs = [.ref e, .int deed, x] ∧ FinAt C H e f ∧
  ((∃ n, x = .int n ∧ 0 ≤ n ∧ ∀ p H', SameX e H H' → FinAt C H' e (f.step deed n) → H' p = some (.tup [.str "told", .non]) → Q (.ref p) H') ∨
   (Less K H x 0 ∧ ∀ p H', Same H H' → H' p = some (.tup [.str "number", x]) → Q (.ref p) H'))
theorem ok__law_call (T : Txt K mg) : FnOk P w K mg base CX0 5 T.a__law_call T.fd__law_call ["finder", "deed", "value"] (sp__law_call K T.c_Finder) := by
  have S := sc__law_call
  refine T.F__law_call.ok S (fun vs H Q E h => ?_) (fun cdv A outer s H vs Q E hr h => ?_)
  · obtain ⟨e, deed, x, f, rfl, _⟩ := h
    rfl
  · obtain ⟨e, deed, x, f, rfl, hE, h⟩ := h
    obtain ⟨dx, he⟩ := id hE
    refine ⟨_, (pss_cons (ps_try_cl rfl rfl takes0 (fun W pn xe tk po => (pss_cons (ps_if (pt_cmpR op_eq (pv 1) pe_int (nomark _)) (pss_one (ps_ret (pe_tup (pa_cons pe_str (pa_cons (pe_methX (pv 0) T.cl_Finder T.m_Finder_passed (ok_Finder_passed T) (hr.mono (by decide)) T.B_Finder_passed (fun σ => passAt tk σ) (pa_cons (pv 2) pa_nil)) pa_nil))))) pss_nil)
      (pss_one (ps_ret (pe_tup (pa_cons pe_str (pa_cons (pe_methX (pv 0) T.cl_Finder T.m_Finder_failed (ok_Finder_failed T) (hr.mono (by decide)) T.B_Finder_failed (fun σ => passAt tk σ) (pa_cons (pv 2) pa_nil)) pa_nil)))))))
      (ClOk.named (i := 3) S.nd rfl rfl ⟨rfl, by decide, .inl T.X_LossError.g⟩ (fun a oe cls d pn hz hf => (pss_one (ps_if (PW.pt (pw_and (pt_val (pe_callB (id := "isinstance") (call_isX hz hf) (by rfl) T.b_isinstance (by decide +kernel) (pa_cons (pv 3) (pa_cons (pe_glob (v := .ref T.c_InvalidNumber) rfl T.X_InvalidNumber.g rfl) pa_nil)))) (pw_and (pt_val (pe_callB (id := "isinstance") (call_isX hz hf) (by rfl) T.b_isinstance (by decide +kernel) (pa_cons (pv 3) (pa_cons (pe_bltn (v := .ty "ValueError") (u := .type "ValueError") (by rfl) T.b_ValueError (by decide +kernel) rfl) pa_nil)))) (pw_and1 (pt_not (pt_val (pe_callB (id := "isinstance") (call_isX hz hf) (by rfl) T.b_isinstance (by decide +kernel) (pa_cons (pv 3) (pa_cons (pe_glob (v := .ref T.c_InvalidSetting) rfl T.X_InvalidSetting.g rfl) pa_nil))))))))) (pss_one (ps_ret (pe_tup (pa_cons pe_str (pa_cons (pe_xg hz hf (pv 3)) pa_nil))))) pss_nil)))
      ClOk.nil))
      (pss_one (ps_ret (pe_tup (pa_cons pe_str (pa_cons pe_non pa_nil)))))), ?_⟩
    refine st__law_call ?_
    o_args
    unfold Fs.step at h
    refine brD (fun q => ?_) (fun q => ?_)
    · simp only [q, if_pos] at h
      o_args
      refine ⟨e, dx, _, rfl, he, rfl, ?_⟩
      o_args
      rcases h with ⟨n, rfl, h0, k⟩ | ⟨hk, k⟩
      · refine ⟨e, _, f, rfl, hE, .inl ⟨n, rfl, h0, fun H1 s1 h1 => ?_⟩⟩
        o_args
        refine newTup (by simp) fun p H3 hp s3 h3 => ?_
        o_args
        exact k p H3 (s1.trans (SameX.of s3)) (h1.same s3) h3
      · refine ⟨e, _, f, rfl, hE, .inr ⟨hk, fun d H1 s1 hx => ?_⟩⟩
        refine ⟨true, T.Me_InvalidNumber_LossError, fun _ a ha => ?_, fun z => nomatch z⟩
        o_args
        refine errX (fun u r => r) T.X_InvalidNumber.e hx T.Kt_InvalidNumber_InvalidNumber ?_
        o_args
        refine errX (fun u r => r) T.X_InvalidNumber.e hx T.Kv_InvalidNumber ?_
        o_args
        refine errX (fun u r => r) T.X_InvalidNumber.e hx T.Kt_InvalidNumber_InvalidSetting ?_
        o_args
        refine errF T.X_InvalidNumber.x T.nX_InvalidNumber hx rfl ?_
        o_args
        refine newTup (by simp) fun p H3 hp s3 h3 => ?_
        o_args
        exact k p H3 (s1.trans s3) h3
    · simp only [q, if_false] at h
      o_args
      refine ⟨e, dx, _, rfl, he, rfl, ?_⟩
      o_args
      rcases h with ⟨n, rfl, h0, k⟩ | ⟨hk, k⟩
      · refine ⟨e, _, f, rfl, hE, .inl ⟨n, rfl, h0, fun H1 s1 h1 => ?_⟩⟩
        o_args
        refine newTup (by simp) fun p H3 hp s3 h3 => ?_
        o_args
        exact k p H3 (s1.trans (SameX.of s3)) (h1.same s3) h3
      · refine ⟨e, _, f, rfl, hE, .inr ⟨hk, fun d H1 s1 hx => ?_⟩⟩
        refine ⟨true, T.Me_InvalidNumber_LossError, fun _ a ha => ?_, fun z => nomatch z⟩
        o_args
        refine errX (fun u r => r) T.X_InvalidNumber.e hx T.Kt_InvalidNumber_InvalidNumber ?_
        o_args
        refine errX (fun u r => r) T.X_InvalidNumber.e hx T.Kv_InvalidNumber ?_
        o_args
        refine errX (fun u r => r) T.X_InvalidNumber.e hx T.Kt_InvalidNumber_InvalidSetting ?_
        o_args
        refine errF T.X_InvalidNumber.x T.nX_InvalidNumber hx rfl ?_
        o_args
        refine newTup (by simp) fun p H3 hp s3 h3 => ?_
        o_args
        exact k p H3 (s1.trans s3) h3
/-! ### invalid pairs -/
def sp__law_bent (K : PySem.W.Frag) : Sp := fun vs H Q _ => ∃ (a : Addr) (F : List Addr) (way : Int), vs = [.ref a, .int way] ∧ Bag a F H ∧ 0 ≤ way ∧ way < 8 ∧
  ∀ l v w H', H' l = some (.lst [v, w]) → (way < 3 ∨ 5 < way → Out K H' v 1 1400) → (3 ≤ way ∧ way ≤ 5 → ∃ lo, v = .int lo ∧ 1 ≤ lo ∧ lo ≤ 1400 ∧ Out K H' w lo 1400) → Bag a F H' → SameX a H H' → Q (.ref l) H'
theorem ok__law_bent (T : Txt K mg) : FnOk P w K mg base CX0 3 T.a__law_bent T.fd__law_bent ["bag", "way"] (sp__law_bent K) := by
  have S := sc__law_bent
  refine T.F__law_bent.ok S (fun vs H Q E h => ?_) (fun cdv A outer s H vs Q E hr h => ?_)
  · obtain ⟨a, F, way, rfl, _⟩ := h
    rfl
  · obtain ⟨a, F, way, rfl, B0, w0, w1, k⟩ := h
    refine ⟨_, (pss_cons (ps_set (i := 2) S.nd rfl (Or.inl rfl) (pe_call (ok__law_bounds T) (hr.mono (by decide)) rfl T.g__law_bounds T.F__law_bounds.kp T.B__law_bounds .nil pass0 (pa_cons (pv 0) pa_nil)))
      (C8.pss_cut (ps_if (PW.pt (pw_or (pt_cmpR op_eq (pv 1) pe_int (nomark _)) (pw_or1 (pt_cmpR op_eq (pv 1) pe_int (nomark _))))) (pss_one (ps_asg (pe_op op_sub pe_int (pe_call (ok__law_far T) (hr.mono (by decide)) rfl T.g__law_far T.F__law_far.kp T.B__law_far .nil pass0 (pa_cons (pv 0) pa_nil))) (pg_sub (pv 2) pe_int set_list))) (pss_one (ps_if (pt_cmpR op_eq (pv 1) pe_int (nomark _)) (pss_one (ps_asg (pe_op op_add pe_int (pe_call (ok__law_far T) (hr.mono (by decide)) rfl T.g__law_far T.F__law_far.kp T.B__law_far .nil pass0 (pa_cons (pv 0) pa_nil))) (pg_sub (pv 2) pe_int set_list))) (pss_one (ps_if (PW.pt (pw_or (pt_cmpR op_eq (pv 1) pe_int (nomark _)) (pw_or1 (pt_cmpR op_eq (pv 1) pe_int (nomark _))))) (pss_one (ps_asg (pe_call (ok__law_odd T) (hr.mono (by decide)) rfl T.g__law_odd T.F__law_odd.kp T.B__law_odd .nil pass0 (pa_cons (pv 0) pa_nil)) (pg_sub (pv 2) pe_int set_list))) (pss_one (ps_if (pt_cmpR op_eq (pv 1) pe_int (nomark _)) (pss_one (ps_asg (pe_op op_sub (pe_op op_sub (pe_ix ix_list (pv 2) pe_int (fun _ _ => rfl)) pe_int) (pe_call (ok__law_take T) (hr.mono (by decide)) rfl T.g__law_take T.F__law_take.kp T.B__law_take .nil pass0 (pa_cons (pv 0) (pa_cons (pe_op op_add (pe_ix ix_list (pv 2) pe_int (fun _ _ => rfl)) pe_int) pa_nil)))) (pg_sub (pv 2) pe_int set_list))) pss_nil)))))))
      (pss_cons (ps_if (PW.pt (pw_or (pt_cmpR op_eq (pv 1) pe_int (nomark _)) (pw_or1 (pt_cmpR op_eq (pv 1) pe_int (nomark _))))) (pss_one (ps_asg (pe_op op_add pe_int (pe_call (ok__law_far T) (hr.mono (by decide)) rfl T.g__law_far T.F__law_far.kp T.B__law_far .nil pass0 (pa_cons (pv 0) pa_nil))) (pg_sub (pv 2) pe_int set_list))) (pss_one (ps_if (PW.pt (pw_or (pt_cmpR op_eq (pv 1) pe_int (nomark _)) (pw_or1 (pt_cmpR op_eq (pv 1) pe_int (nomark _))))) (pss_one (ps_asg (pe_call (ok__law_odd T) (hr.mono (by decide)) rfl T.g__law_odd T.F__law_odd.kp T.B__law_odd .nil pass0 (pa_cons (pv 0) pa_nil)) (pg_sub (pv 2) pe_int set_list))) pss_nil)))
      (pss_one (ps_ret (pv 2)))))), ?_⟩
    refine st__law_bent ?_
    o_args
    refine ⟨a, F, rfl, B0, fun l H1 lo hi n1 nla h1 c1 c2 c3 B1 s1 => ?_⟩
    have lF : l ∈ l :: F := List.mem_cons_self ..
    o_args
    refine ⟨fun σ H' => ∃ v w, σ = [some (.ref a), some (.int way), some (.ref l)] ∧ H' l = some (.lst [v, w]) ∧ Bag a (l :: F) H' ∧ SameX a H H' ∧ (way < 3 ∨ 5 < way → Out K H' v 1 1400) ∧ (3 ≤ way ∧ way ≤ 5 → ∃ lo, v = .int lo ∧ 1 ≤ lo ∧ lo ≤ 1400 ∧ (way = 3 → Out K H' w lo 1400)), ?_, ?_⟩
    · have : way = 0 ∨ way = 1 ∨ way = 2 ∨ way = 3 ∨ way = 4 ∨ way = 5 ∨ way = 6 ∨ way = 7 := by omega
      rcases this with rfl | rfl | rfl | rfl | rfl | rfl | rfl | rfl
      · o_args
        refine ⟨a, l :: F, rfl, B1, fun n H2 n0 B2 s2 => ?_⟩
        have h2 := s2 _ _ nla h1
        o_args
        refine setL (i := 0) h2 (by simp) fun H3 s3 h3 => ?_
        o_args
        exact ⟨_, _, rfl, h3, B2.on lF s3 ⟨_, h3⟩, (s1.trans s2).fresh n1 s3, fun _ => Out.int (.inl (by omega)), fun z => by omega⟩
      · o_args
        refine ⟨a, l :: F, rfl, B1, fun n H2 n0 B2 s2 => ?_⟩
        have h2 := s2 _ _ nla h1
        o_args
        refine setL (i := 0) h2 (by simp) fun H3 s3 h3 => ?_
        o_args
        exact ⟨_, _, rfl, h3, B2.on lF s3 ⟨_, h3⟩, (s1.trans s2).fresh n1 s3, fun _ => Out.int (.inr (by omega)), fun z => by omega⟩
      · o_args
        refine ⟨a, l :: F, rfl, B1, fun x H2 hx B2 s2 => ?_⟩
        have h2 := s2 _ _ nla h1
        o_args
        refine setL (i := 0) h2 (by simp) fun H3 s3 h3 => ?_
        o_args
        exact ⟨_, _, rfl, h3, B2.on lF s3 ⟨_, h3⟩, (s1.trans s2).fresh n1 s3, fun _ => (Out.odd hx.1).typ (Typ.ofX h2 h3 s3), fun z => by omega⟩
      · o_args
        refine ⟨a, _, l :: F, rfl, B1, by omega, by omega, fun n H2 n0 n1' B2 s2 => ?_⟩
        have h2 := s2 _ _ nla h1
        o_args
        refine setL (i := 1) h2 (by simp) fun H3 s3 h3 => ?_
        o_args
        exact ⟨_, _, rfl, h3, B2.on lF s3 ⟨_, h3⟩, (s1.trans s2).fresh n1 s3, fun z => by omega, fun _ => ⟨lo, rfl, c1, by omega, fun _ => Out.int (.inl (by omega))⟩⟩
      · o_args
        exact ⟨_, _, rfl, h1, B1, s1, fun z => by omega, fun _ => ⟨lo, rfl, c1, by omega, fun z => by omega⟩⟩
      · o_args
        exact ⟨_, _, rfl, h1, B1, s1, fun z => by omega, fun _ => ⟨lo, rfl, c1, by omega, fun z => by omega⟩⟩
      · o_args
        refine ⟨a, l :: F, rfl, B1, fun n H2 n0 B2 s2 => ?_⟩
        have h2 := s2 _ _ nla h1
        o_args
        refine setL (i := 0) h2 (by simp) fun H3 s3 h3 => ?_
        o_args
        exact ⟨_, _, rfl, h3, B2.on lF s3 ⟨_, h3⟩, (s1.trans s2).fresh n1 s3, fun _ => Out.int (.inl (by omega)), fun z => by omega⟩
      · o_args
        refine ⟨a, l :: F, rfl, B1, fun x H2 hx B2 s2 => ?_⟩
        have h2 := s2 _ _ nla h1
        o_args
        refine setL (i := 0) h2 (by simp) fun H3 s3 h3 => ?_
        o_args
        exact ⟨_, _, rfl, h3, B2.on lF s3 ⟨_, h3⟩, (s1.trans s2).fresh n1 s3, fun _ => (Out.odd hx.1).typ (Typ.ofX h2 h3 s3), fun z => by omega⟩
    rintro σ H2 ⟨v, w, rfl, h2, B2, s2, hA, hB⟩
    o_args
    have : way = 0 ∨ way = 1 ∨ way = 2 ∨ way = 3 ∨ way = 4 ∨ way = 5 ∨ way = 6 ∨ way = 7 := by omega
    rcases this with rfl | rfl | rfl | rfl | rfl | rfl | rfl | rfl
    · o_args
      exact k l v w H2 h2 hA (fun z => by omega) B2.drop s2
    · o_args
      exact k l v w H2 h2 hA (fun z => by omega) B2.drop s2
    · o_args
      exact k l v w H2 h2 hA (fun z => by omega) B2.drop s2
    · o_args
      refine k l v w H2 h2 (fun z => by omega) (fun z => ?_) B2.drop s2
      obtain ⟨lo, e, g1, g2, g3⟩ := hB z
      exact ⟨lo, e, g1, g2, g3 rfl⟩
    · o_args
      refine ⟨a, l :: F, rfl, B2, fun n H3 n0 B3 s3 => ?_⟩
      have h3 := s3 _ _ nla h2
      o_args
      refine setL (i := 1) h3 (by simp) fun H4 s4 h4 => ?_
      o_args
      refine k l _ _ H4 h4 (fun z => ?_) (fun z => ?_) (B3.on lF s4 ⟨_, h4⟩).drop ((s2.trans s3).fresh n1 s4)
      · omega
      · obtain ⟨lo', e, g1, g2, _⟩ := hB z
        exact ⟨lo', e, g1, g2, Out.int (.inr (by omega))⟩
    · o_args
      refine ⟨a, l :: F, rfl, B2, fun x H3 hx B3 s3 => ?_⟩
      have h3 := s3 _ _ nla h2
      o_args
      refine setL (i := 1) h3 (by simp) fun H4 s4 h4 => ?_
      o_args
      refine k l _ _ H4 h4 (fun z => ?_) (fun z => ?_) (B3.on lF s4 ⟨_, h4⟩).drop ((s2.trans s3).fresh n1 s4)
      · omega
      · obtain ⟨lo', e, g1, g2, _⟩ := hB z
        exact ⟨lo', e, g1, g2, (Out.odd hx.1).typ (Typ.ofX h3 h4 s4)⟩
    · o_args
      refine ⟨a, l :: F, rfl, B2, fun n H3 n0 B3 s3 => ?_⟩
      have h3 := s3 _ _ nla h2
      o_args
      refine setL (i := 1) h3 (by simp) fun H4 s4 h4 => ?_
      o_args
      exact k l _ _ H4 h4 (fun z => ((hA z).typ (Typ.bag B2 B3 s3)).typ (Typ.ofX h3 h4 s4)) (fun z => by omega) (B3.on lF s4 ⟨_, h4⟩).drop ((s2.trans s3).fresh n1 s4)
    · o_args
      refine ⟨a, l :: F, rfl, B2, fun x H3 hx B3 s3 => ?_⟩
      have h3 := s3 _ _ nla h2
      o_args
      refine setL (i := 1) h3 (by simp) fun H4 s4 h4 => ?_
      o_args
      exact k l _ _ H4 h4 (fun z => ((hA z).typ (Typ.bag B2 B3 s3)).typ (Typ.ofX h3 h4 s4)) (fun z => by omega) (B3.on lF s4 ⟨_, h4⟩).drop ((s2.trans s3).fresh n1 s4)
/-! ### the law's defs -/
theorem sh_set (x y : Str) (hx : PyData.strOk x = true) (hy : PyData.strOk y = true) : PySem.SeqAt.shaped (.tuple [.str x, .str y]) = true := by
  unfold PySem.SeqAt.shaped
  simp only [PyData.canLay0, PyData.canLayAll0, PyData.depth, PyData.depthAll, hx, hy]
  rfl
theorem set_dp {K : PySem.W.Frag} {H : Hp} {p : Addr} {x y : Str} (h : H p = some (.tup [.str x, .str y])) : Dp K H (.ref p) (.tuple [.str x, .str y]) := .tup (SqT.of h) (.cons (.str _) (.cons (.str _) .nil))
/-- two pairs of texts compared -/
theorem neSS {K : PySem.W.Frag} {H : Hp} {Q : VK} {p q : Addr} {x y : Str} (hx : PyData.strOk x = true) (hy : PyData.strOk y = true) (h1 : H p = some (.tup [.str x, .str y])) (h2 : H q = some (.tup [.str x, .str y])) (k : Q (.bl false) H) : rNeD K (.ref p) (.ref q) H Q :=
  ⟨_, _, set_dp h1, set_dp h2, sh_set x y hx hy, sh_set x y hx hy, by rw [PySem.SeqAt.eqv_refl _ (PySem.SeqAt.canLay_of_shaped (sh_set x y hx hy))]; exact k⟩
def sp__law_new : Sp := fun vs H Q _ => ∃ (a : Addr) (F : List Addr) (way : Int), vs = [.ref a, .int way] ∧ Bag a F H ∧ 0 ≤ way ∧ way < 8 ∧ ∀ H', Bag a F H' → SameX a H H' → Q (.bl true) H'
theorem ok__law_new (T : Txt K mg) : FnOk P w K mg base CX0 6 T.a__law_new T.fd__law_new ["bag", "way"] (sp__law_new) := by
  have S := sc__law_new
  refine T.F__law_new.ok S (fun vs H Q E h => ?_) (fun cdv A outer s H vs Q E hr h => ?_)
  · obtain ⟨a, F, way, rfl, _⟩ := h
    rfl
  · obtain ⟨a, F, way, rfl, B0, w0, w1, k⟩ := h
    refine ⟨_, (pss_cons (ps_set (i := 2) S.nd rfl (Or.inl rfl) (pe_call (ok__law_bent T) (hr.mono (by decide)) rfl T.g__law_bent T.F__law_bent.kp T.B__law_bent .nil pass0 (pa_cons (pv 0) (pa_cons (pv 1) pa_nil))))
      (pss_cons (ps_set (i := 3) S.nd rfl (Or.inl rfl) pe_str)
      (C8.pss_cut (ps_if (pt_chain op_le op_le pe_int (pv 1) pe_int) (pss_one (ps_set (i := 3) S.nd rfl (Or.inl rfl) pe_str)) pss_nil)
      (pss_cons (ps_if (pt_cmpR (op_neD hr.units) (pe_call (ok__law_made T) (hr.mono (by decide)) rfl T.g__law_made T.F__law_made.kp T.B__law_made .nil pass0 (pa_cons (pe_ix ix_list (pv 2) pe_int (fun _ _ => rfl)) (pa_cons (pe_ix ix_list (pv 2) pe_int (fun _ _ => rfl)) pa_nil))) (pe_tup (pa_cons pe_str (pa_cons (pv 3) pa_nil))) (nomark _)) (pss_one (ps_ret pe_bl)) pss_nil)
      (pss_cons (ps_set (i := 4) S.nd rfl (Or.inl rfl) (pe_call (ok__law_bounds T) (hr.mono (by decide)) rfl T.g__law_bounds T.F__law_bounds.kp T.B__law_bounds .nil pass0 (pa_cons (pv 0) pa_nil)))
      (pss_cons (ps_set (i := 5) S.nd rfl (Or.inl rfl) (pe_call (ok__law_made T) (hr.mono (by decide)) rfl T.g__law_made T.F__law_made.kp T.B__law_made .nil pass0 (pa_cons (pe_ix ix_list (pv 4) pe_int (fun _ _ => rfl)) (pa_cons (pe_ix ix_list (pv 4) pe_int (fun _ _ => rfl)) pa_nil))))
      (pss_cons (ps_if (PW.pt (pw_or (pt_cmpR op_ne (pe_ix ix_tup (pv 5) pe_int (fun _ _ => rfl)) pe_str (nomark _)) (pw_or1 (pt_not (pt_val (pe_callB (id := "all") (cr_all rfl) (by rfl) T.b_all (by decide +kernel) (pa_cons (pe_lc (own := [("one", 6)]) (g := gName 6) (tt := tYes) rfl S.nd (pi_list (pe_ix ix_tup (pv 5) pe_int (fun _ _ => rfl))) (blkOk_by (N := ["bag", "way", "pair", "due", "good", "told", "one"]) (sc := defScope s__law_new) (by decide +kernel)) (fun _ _ _ _ _ => pg_name (i := 6) S.nd rfl (Or.inl rfl)) (fun _ _ _ _ _ => pts_nil) (fun _ _ _ _ _ => (pe_call (ok__law_whole T) (hr.mono (by decide)) rfl T.g__law_whole T.F__law_whole.kp T.B__law_whole .nil pass0 (pa_cons (pv 6) pa_nil)))) pa_nil))))))) (pss_one (ps_ret pe_bl)) pss_nil)
      (pss_one (ps_ret (pe_cmpR (op_eqD hr.units) (pe_ix ix_tup (pv 5) pe_int (fun _ _ => rfl)) (pe_lst (pa_cons (pe_ix ix_list (pv 4) pe_int (fun _ _ => rfl)) (pa_cons (pe_ix ix_list (pv 4) pe_int (fun _ _ => rfl)) (pa_cons pe_int pa_nil)))) (nomark _))))))))))), ?_⟩
    refine st__law_new ?_
    o_args
    refine ⟨a, F, way, rfl, B0, w0, w1, fun l v w H1 h1 hA hB B1 s1 => ?_⟩
    o_args
    refine ⟨fun σ H' => ∃ due : Str, σ = [some (.ref a), some (.int way), some (.ref l), some (.str due), none, none, none] ∧ H' = H1 ∧ (way < 3 ∨ 5 < way → due = "low") ∧ (3 ≤ way ∧ way ≤ 5 → due = "high"), ?_, ?_⟩
    · o_args
      refine brD (fun q => ?_) (fun q => ?_)
      · o_args
        refine brD (fun q' => ?_) (fun q' => ?_)
        · o_args
          exact ⟨_, rfl, rfl, fun z => by omega, fun _ => rfl⟩
        · o_args
          exact ⟨_, rfl, rfl, fun _ => rfl, fun z => by omega⟩
      · o_args
        exact ⟨_, rfl, rfl, fun _ => rfl, fun z => by omega⟩
    rintro σ H1' ⟨due, rfl, rfl, d1, d2⟩
    o_args
    have step : ∀ (R : VK), (∀ p H', Same H1' H' → H' p = some (.tup [.str "setting", .str due]) → R (.ref p) H') → sp__law_made K [v, w] H1' R (fun _ _ _ => False) := fun R q => by
      by_cases z : 3 ≤ way ∧ way ≤ 5
      · rw [d2 z] at q
        obtain ⟨lo, e, g1, g2, g3⟩ := hB z
        exact ⟨v, w, rfl, .inr (.inr ⟨lo, e, g1, g2, g3, q⟩)⟩
      · rw [d1 (by omega)] at q
        exact ⟨v, w, rfl, .inr (.inl ⟨hA (by omega), q⟩)⟩
    have dok : PyData.strOk due = true := by
      by_cases z : 3 ≤ way ∧ way ≤ 5
      · rw [d2 z]; decide +kernel
      · rw [d1 (by omega)]; decide +kernel
    refine step _ fun p H2 s2 h2 => ?_
    o_args
    refine newTup (by simp) fun t H3 ht s3 h3 => ?_
    refine neSS (by decide +kernel) dok (s3 _ _ h2) h3 ?_
    have B3 := (B1.same s2).same s3
    o_args
    refine ⟨a, F, rfl, B3, fun g H4 lo hi n4 nga h4 c1 c2 c3 B4 s4 => ?_⟩
    have B4 := B4.drop
    o_args
    refine ⟨_, _, rfl, .inl ⟨lo, hi, rfl, rfl, c1, c2, c3, fun p L H5 s5 h5 g5 => ?_⟩⟩
    have S5 : SameX a H H5 := (((s1.trans (SameX.of s2)).trans (SameX.of s3)).trans s4).trans (SameX.of s5)
    o_args
    refine lc_lstN (K := K) (fun i vs _ => vs = List.replicate i (.bl true)) (fun R q => by o_args; exact q) (SqL.of g5) (by simp) (fun _ _ => rfl) (fun _ _ _ _ _ h => h) (fun _ _ _ _ _ _ _ _ _ h => h) (fun B i v vs H' hi s hv _ _ _ Qe q => ?_) (fun B vs H6 hB hl hv h6 s6 => ?_)
    · have : ∃ z, v = V.int z := by
        have hm := List.mem_of_getElem? hi
        simp only [List.mem_cons, List.not_mem_nil, or_false] at hm
        rcases hm with h | h | h <;> exact ⟨_, h⟩
      obtain ⟨z, rfl⟩ := this
      o_args
      refine ⟨_, true, rfl, intK_int z, q _ _ (Same.refl _) ?_⟩
      rw [hv]
      exact (List.replicate_succ' ..).symm
    subst hv
    o_args
    refine ⟨B, List.replicate 3 true, rfl, SqL.of (by rw [h6]; rfl), ?_⟩
    rw [all_rep]
    have h56 := s6 _ _ h5
    have h46 := s6 _ _ (s5 _ _ h4)
    o_args
    refine newList (by simp) fun M H7 hM s7 h7 => ?_
    refine eqLL (K := K) (xs := [lo, hi, 0]) (ys := [lo, hi, 0]) (SqL.of (s7 _ _ (s6 _ _ g5))) (SqL.of h7) ?_
    rw [decide_eq_true rfl]
    exact k H7 (((B4.same s5).same s6).same s7) ((S5.trans (SameX.of s6)).trans (SameX.of s7))
def sp__law_aim : Sp := fun vs H Q _ => ∃ (r : Addr) (f : Fs), vs = [.ref r] ∧ H r = some (.lst f.row) ∧ Q (.int f.aim) H
theorem ok__law_aim (T : Txt K mg) : FnOk P w K mg base CX0 1 T.a__law_aim T.fd__law_aim ["row"] (sp__law_aim) := by
  have S := sc__law_aim
  refine T.F__law_aim.ok S (fun vs H Q E h => ?_) (fun cdv A outer s H vs Q E hr h => ?_)
  · obtain ⟨r, f, rfl, _⟩ := h
    rfl
  · obtain ⟨r, f, rfl, hw, k⟩ := h
    refine ⟨_, (pss_cons (ps_if (pt_cmpR op_lt (pe_ix ix_list (pv 0) pe_int (fun _ _ => rfl)) (pe_ix ix_list (pv 0) pe_int (fun _ _ => rfl)) (nomark _)) (pss_one (ps_ret (pe_op op_fdiv (pe_op op_add (pe_op op_add (pe_ix ix_list (pv 0) pe_int (fun _ _ => rfl)) (pe_ix ix_list (pv 0) pe_int (fun _ _ => rfl))) pe_int) pe_int))) pss_nil)
      (pss_one (ps_ret pe_int))), ?_⟩
    refine st__law_aim ?_
    o_args
    unfold Fs.aim at k
    refine brD (fun q => ?_) (fun q => ?_)
    · rw [if_pos q] at k
      o_args
      exact k
    · rw [if_neg q] at k
      o_args
      exact k
def sp__law_enter : Sp := fun vs H Q _ => ∃ (r : Addr) (deed n : Int) (f : Fs), vs = [.ref r, .int deed, .int n] ∧ H r = some (.lst f.row) ∧ (deed = 0 ∨ deed = 1) ∧ ∀ H', SameX r H H' → H' r = some (.lst (f.step deed n).row) → Q .non H'
theorem ok__law_enter (T : Txt K mg) : FnOk P w K mg base CX0 2 T.a__law_enter T.fd__law_enter ["row", "deed", "value"] (sp__law_enter) := by
  have S := sc__law_enter
  refine T.F__law_enter.ok S (fun vs H Q E h => ?_) (fun cdv A outer s H vs Q E hr h => ?_)
  · obtain ⟨r, deed, n, f, rfl, _⟩ := h
    rfl
  · obtain ⟨r, deed, n, f, rfl, hw, hd, k⟩ := h
    refine ⟨_, (pss_cons (ps_if (PW.pt (pw_and (pt_cmpR op_eq (pv 1) pe_int (nomark _)) (pw_and1 (pt_cmpR op_gt (pv 2) (pe_ix ix_list (pv 0) pe_int (fun _ _ => rfl)) (nomark _))))) (pss_cons (ps_asg (pe_call (ok__law_lesser T) (hr.mono (by decide)) rfl T.g__law_lesser T.F__law_lesser.kp T.B__law_lesser .nil pass0 (pa_cons (pv 2) (pa_cons (pe_ix ix_list (pv 0) pe_int (fun _ _ => rfl)) pa_nil))) (pg_sub (pv 0) pe_int set_list))
      (pss_one (ps_asg pe_int (pg_sub (pv 0) pe_int set_list)))) pss_nil)
      (pss_one (ps_if (PW.pt (pw_and (pt_cmpR op_eq (pv 1) pe_int (nomark _)) (pw_and (pt_cmpR op_ne (pv 2) pe_int (nomark _)) (pw_and1 (pt_cmpR op_eq (pv 2) (pe_call (ok__law_aim T) (hr.mono (by decide)) rfl T.g__law_aim T.F__law_aim.kp T.B__law_aim .nil pass0 (pa_cons (pv 0) pa_nil)) (nomark _)))))) (pss_cons (ps_asg (pe_op op_add (pe_ix ix_list (pv 0) pe_int (fun _ _ => rfl)) pe_int) (pg_sub (pv 0) pe_int set_list))
      (pss_one (ps_if (pt_cmpR op_eq (pe_ix ix_list (pv 0) pe_int (fun _ _ => rfl)) pe_int (nomark _)) (pss_cons (ps_asg (pe_op op_sub (pv 2) pe_int) (pg_sub (pv 0) pe_int set_list))
      (pss_one (ps_asg pe_int (pg_sub (pv 0) pe_int set_list)))) pss_nil))) pss_nil))), ?_⟩
    refine st__law_enter ?_
    o_args
    rcases hd with rfl | rfl
    · have k : ∀ H', SameX r H H' → H' r = some (.lst (f.pass n).row) → Q .non H' := k
      unfold Fs.pass at k
      o_args
      refine brD (fun q => ?_) (fun q => ?_)
      · rw [if_pos q] at k
        o_args
        refine ⟨_, _, rfl, ?_⟩
        o_args
        refine setL (i := 0) hw (by show 0 < 3; decide) fun H1 s1 h1 => ?_
        o_args
        refine setL (i := 2) h1 (by show 2 < 3; decide) fun H2 s2 h2 => ?_
        o_args
        exact k H2 (s1.trans s2) h2
      · rw [if_neg q] at k
        o_args
        exact k H SameX.refl hw
    · have k : ∀ H', SameX r H H' → H' r = some (.lst (f.fail n).row) → Q .non H' := k
      unfold Fs.fail at k
      o_args
      refine brD (fun q => ?_) (fun q => ?_)
      · rw [if_neg (fun z => z.1 q)] at k
        o_args
        exact k H SameX.refl hw
      o_args
      refine ⟨r, f, rfl, hw, ?_⟩
      o_args
      refine brD (fun q' => ?_) (fun q' => ?_)
      · rw [if_pos ⟨q, q'⟩] at k
        o_args
        refine setL (i := 2) hw (by show 2 < 3; decide) fun H1 s1 h1 => ?_
        have h1 : H1 r = some (.lst [.int f.sz, .int f.ce, .int (f.st + 1)]) := h1
        o_args
        refine brD (fun p => ?_) (fun p => ?_)
        · rw [if_pos p] at k
          o_args
          refine setL (i := 1) h1 (by show 1 < 3; decide) fun H2 s2 h2 => ?_
          o_args
          refine setL (i := 2) h2 (by show 2 < 3; decide) fun H3 s3 h3 => ?_
          o_args
          exact k H3 ((s1.trans s2).trans s3) h3
        · rw [if_neg p] at k
          o_args
          exact k H1 s1 h1
      · rw [if_neg (fun z => q' z.2)] at k
        o_args
        exact k H SameX.refl hw
def Fs.ok (f : Fs) : Prop := 0 ≤ f.sz ∧ 0 ≤ f.ce
theorem Fs.aim_nn {f : Fs} (h : f.ok) : 0 ≤ f.aim := by
  obtain ⟨h1, h2⟩ := h
  unfold Fs.aim
  split <;> omega
theorem Fs.step_ok {f : Fs} {d n : Int} (h : f.ok) (h0 : 0 ≤ n) : (f.step d n).ok := by
  obtain ⟨h1, h2⟩ := h
  unfold Fs.step Fs.pass Fs.fail Fs.ok
  split
  · split
    · exact ⟨by show 0 ≤ min n f.ce; omega, h2⟩
    · exact ⟨h1, h2⟩
  · split
    · split
      · exact ⟨h1, by show 0 ≤ n - 1; omega⟩
      · exact ⟨h1, h2⟩
    · exact ⟨h1, h2⟩
def sp__law_value : Sp := fun vs H Q _ => ∃ (a r : Addr) (F : List Addr) (f : Fs), vs = [.ref a, .ref r] ∧ Bag a F H ∧ r ≠ a ∧ H r = some (.lst f.row) ∧ f.ok ∧ ∀ n H', 0 ≤ n → Bag a F H' → SameX a H H' → Q (.int n) H'
theorem ok__law_value (T : Txt K mg) : FnOk P w K mg base CX0 2 T.a__law_value T.fd__law_value ["bag", "row"] (sp__law_value) := by
  have S := sc__law_value
  refine T.F__law_value.ok S (fun vs H Q E h => ?_) (fun cdv A outer s H vs Q E hr h => ?_)
  · obtain ⟨a, r, F, f, rfl, _⟩ := h
    rfl
  · obtain ⟨a, r, F, f, rfl, B0, nra, hw, ok, k⟩ := h
    have an := Fs.aim_nn ok
    obtain ⟨z1, z2⟩ := ok
    refine ⟨_, (pss_cons (ps_set (i := 2) S.nd rfl (Or.inl rfl) (pe_call (ok__law_take T) (hr.mono (by decide)) rfl T.g__law_take T.F__law_take.kp T.B__law_take .nil pass0 (pa_cons (pv 0) (pa_cons pe_int pa_nil))))
      (pss_cons (ps_if (pt_cmpR op_lt (pv 2) pe_int (nomark _)) (pss_one (ps_ret (pe_call (ok__law_aim T) (hr.mono (by decide)) rfl T.g__law_aim T.F__law_aim.kp T.B__law_aim .nil pass0 (pa_cons (pv 1) pa_nil)))) pss_nil)
      (pss_cons (ps_if (pt_cmpR op_eq (pv 2) pe_int (nomark _)) (pss_one (ps_ret (pe_call (ok__law_greater T) (hr.mono (by decide)) rfl T.g__law_greater T.F__law_greater.kp T.B__law_greater .nil pass0 (pa_cons pe_int (pa_cons (pe_op op_sub (pe_op op_add (pe_call (ok__law_aim T) (hr.mono (by decide)) rfl T.g__law_aim T.F__law_aim.kp T.B__law_aim .nil pass0 (pa_cons (pv 1) pa_nil)) (pe_call (ok__law_take T) (hr.mono (by decide)) rfl T.g__law_take T.F__law_take.kp T.B__law_take .nil pass0 (pa_cons (pv 0) (pa_cons pe_int pa_nil)))) pe_int) pa_nil))))) pss_nil)
      (pss_cons (ps_if (pt_cmpR op_eq (pv 2) pe_int (nomark _)) (pss_one (ps_ret (pe_op op_add (pe_ix ix_list (pv 1) pe_int (fun _ _ => rfl)) (pe_call (ok__law_take T) (hr.mono (by decide)) rfl T.g__law_take T.F__law_take.kp T.B__law_take .nil pass0 (pa_cons (pv 0) (pa_cons pe_int pa_nil)))))) pss_nil)
      (pss_cons (ps_if (pt_cmpR op_eq (pv 2) pe_int (nomark _)) (pss_one (ps_ret (pe_op op_add (pe_ix ix_list (pv 1) pe_int (fun _ _ => rfl)) (pe_call (ok__law_take T) (hr.mono (by decide)) rfl T.g__law_take T.F__law_take.kp T.B__law_take .nil pass0 (pa_cons (pv 0) (pa_cons pe_int pa_nil)))))) pss_nil)
      (pss_cons (ps_if (pt_cmpR op_eq (pv 2) pe_int (nomark _)) (pss_one (ps_ret (pe_call (ok__law_take T) (hr.mono (by decide)) rfl T.g__law_take T.F__law_take.kp T.B__law_take .nil pass0 (pa_cons (pv 0) (pa_cons pe_int pa_nil))))) pss_nil)
      (pss_one (ps_ret (pe_call (ok__law_take T) (hr.mono (by decide)) rfl T.g__law_take T.F__law_take.kp T.B__law_take .nil pass0 (pa_cons (pv 0) (pa_cons (pe_op op_pow pe_int pe_int) pa_nil))))))))))), ?_⟩
    refine st__law_value ?_
    o_args
    refine ⟨a, 7, F, rfl, B0, by decide, by decide, fun way H1 a1 b1 B1 s1 => ?_⟩
    have hw1 := s1 _ _ nra hw
    o_args
    refine brD (fun q => ?_) (fun q => ?_)
    · o_args
      exact ⟨r, f, rfl, hw1, k _ _ an B1 s1⟩
    o_args
    refine brD (fun q => ?_) (fun q => ?_)
    · o_args
      refine ⟨r, f, rfl, hw1, ?_⟩
      o_args
      refine ⟨a, 3, F, rfl, B1, by decide, by decide, fun t H2 a2 b2 B2 s2 => ?_⟩
      o_args
      exact ⟨_, _, rfl, k _ _ (by omega) B2 (s1.trans s2)⟩
    o_args
    refine brD (fun q => ?_) (fun q => ?_)
    · o_args
      refine ⟨a, 2, F, rfl, B1, by decide, by decide, fun t H2 a2 b2 B2 s2 => ?_⟩
      o_args
      exact k _ _ (by omega) B2 (s1.trans s2)
    o_args
    refine brD (fun q => ?_) (fun q => ?_)
    · o_args
      refine ⟨a, 2, F, rfl, B1, by decide, by decide, fun t H2 a2 b2 B2 s2 => ?_⟩
      o_args
      exact k _ _ (by omega) B2 (s1.trans s2)
    o_args
    refine brD (fun q => ?_) (fun q => ?_)
    · o_args
      exact ⟨a, _, F, rfl, B1, by decide, by decide, fun t H2 a2 b2 B2 s2 => k t H2 a2 B2 (s1.trans s2)⟩
    o_args
    exact ⟨a, _, F, rfl, B1, by decide, by decide, fun t H2 a2 b2 B2 s2 => k t H2 a2 B2 (s1.trans s2)⟩
def sp__law_refuses (C : Addr) : Sp := fun vs H Q _ => ∃ (a e : Addr) (F : List Addr) (f : Fs), vs = [.ref a, .ref e] ∧ Bag a F H ∧ e ≠ a ∧ FinAt C H e f ∧ ∀ H', Bag a F H' → SameX a H H' → Q (.bl true) H'
theorem ok__law_refuses (T : Txt K mg) : FnOk P w K mg base CX0 6 T.a__law_refuses T.fd__law_refuses ["bag", "finder"] (sp__law_refuses T.c_Finder) := by
  have S := sc__law_refuses
  refine T.F__law_refuses.ok S (fun vs H Q E h => ?_) (fun cdv A outer s H vs Q E hr h => ?_)
  · obtain ⟨a, e, F, f, rfl, _⟩ := h
    rfl
  · obtain ⟨a, e, F, f, rfl, B0, nea, hE, k⟩ := h
    refine ⟨_, (pss_cons (ps_for PassesOwn.never rfl (pi_range1 (by rfl) T.b_range (pa_cons pe_int pa_nil)) (pg_name (i := 2) S.nd rfl (Or.inl rfl)) (C8.pss_cut (ps_if (pt_cmpR op_lt (pv 2) pe_int (nomark _)) (pss_one (ps_set (i := 3) S.nd rfl (Or.inl rfl) (pe_op op_sub (pe_op op_sub pe_int pe_int) (pe_call (ok__law_far T) (hr.mono (by decide)) rfl T.g__law_far T.F__law_far.kp T.B__law_far .nil pass0 (pa_cons (pv 0) pa_nil))))) (pss_one (ps_set (i := 3) S.nd rfl (Or.inl rfl) (pe_call (ok__law_odd T) (hr.mono (by decide)) rfl T.g__law_odd T.F__law_odd.kp T.B__law_odd .nil pass0 (pa_cons (pv 0) pa_nil)))))
      (pss_cons (ps_set (i := 4) S.nd rfl (Or.inl rfl) (pe_call (ok__law_call T) (hr.mono (by decide)) rfl T.g__law_call T.F__law_call.kp T.B__law_call .nil pass0 (pa_cons (pv 1) (pa_cons (pe_op op_mod (pe_callTy (T := "int") call_int1 (by rfl) T.b_int (by decide +kernel) (pa_cons (pv 2) pa_nil)) pe_int) (pa_cons (pv 3) pa_nil)))))
      (pss_one (ps_if (PW.pt (pw_or (pt_cmpR op_ne (pe_ix ix_tup (pv 4) pe_int (fun _ _ => rfl)) pe_str (nomark _)) (pw_or1 (pt_not (pt_val (pe_call (ok__law_same T) (hr.mono (by decide)) rfl T.g__law_same T.F__law_same.kp T.B__law_same .nil pass0 (pa_cons (pe_ix ix_tup (pv 4) pe_int (fun _ _ => rfl)) (pa_cons (pv 3) pa_nil)))))))) (pss_one (ps_ret pe_bl)) pss_nil)))))
      (pss_one (ps_ret pe_bl))), ?_⟩
    refine st__law_refuses ?_
    o_args
    refine rngF (n := 4) (by decide) (by decide) (for_range (lo := 0) (n := (4 : Int).toNat) (fun i σ H' => ∃ v w x, σ = [some (.ref a), some (.ref e), v, w, x] ∧ Bag a F H' ∧ SameX a H H') ⟨none, none, none, rfl, B0, SameX.refl⟩ ?_ ?_)
    · rintro i σ H1 hi ⟨v, w, x, rfl, B1, s1⟩
      have hi : i < 4 := hi
      rw [show (0 : Int) + (i : Int) = i from Int.zero_add _]
      o_args
      refine ⟨fun σ H' => ∃ y, σ = [some (.ref a), some (.ref e), some (.int (i : Int)), some y, x] ∧ Bag a F H' ∧ SameX a H H' ∧ Less K H' y 0 ∧ Vl K H' y, ?_, ?_⟩
      · o_args
        refine brD (fun q => ?_) (fun q => ?_)
        · o_args
          refine ⟨a, F, rfl, B1, fun n H2 n0 B2 s2 => ?_⟩
          o_args
          exact ⟨_, rfl, B2, s1.trans s2, .inl ⟨_, rfl, by omega⟩, Vl.int _⟩
        · o_args
          refine ⟨a, F, rfl, B1, fun y H2 hy B2 s2 => ?_⟩
          o_args
          exact ⟨_, rfl, B2, s1.trans s2, .inr hy.1, hy.2⟩
      rintro σ H2 ⟨y, rfl, B2, s2, hy1, hy2⟩
      o_args
      refine ⟨e, _, y, f, rfl, hE.on s2 nea, .inr ⟨hy1, fun p H3 s3 h3 => ?_⟩⟩
      o_args
      refine ⟨y, rfl, hy2.sm s3, ?_⟩
      o_args
      exact ⟨_, _, _, rfl, B2.same s3, s2.trans (SameX.of s3)⟩
    · rintro σ H1 ⟨v, w, x, rfl, B1, s1⟩
      o_args
      exact k H1 B1 s1
def sp__law_agrees (K : PySem.W.Frag) (C : Addr) : Sp := fun vs H Q _ => ∃ (e r : Addr) (f : Fs), vs = [.ref e, .ref r] ∧ FinAt C H e f ∧ H r = some (.lst f.row) ∧ ∀ H', Same H H' → Q (.bl true) H'
theorem ok__law_agrees (T : Txt K mg) : FnOk P w K mg base CX0 2 T.a__law_agrees T.fd__law_agrees ["finder", "row"] (sp__law_agrees K T.c_Finder) := by
  have S := sc__law_agrees
  refine T.F__law_agrees.ok S (fun vs H Q E h => ?_) (fun cdv A outer s H vs Q E hr h => ?_)
  · obtain ⟨e, r, f, rfl, _⟩ := h
    rfl
  · obtain ⟨e, r, f, rfl, hE, hw, k⟩ := h
    obtain ⟨dx, he⟩ := id hE
    refine ⟨_, (pss_cons (ps_set (i := 2) S.nd rfl (Or.inl rfl) (pe_lst (pa_cons (pe_fld (pv 0) rfl) (pa_cons (pe_fld (pv 0) rfl) (pa_cons (pe_fld (pv 0) rfl) (pa_cons (pe_meth0 (pv 0) T.cl_Finder T.m_Finder_trial (ok_Finder_trial T) (hr.mono (by decide)) T.B_Finder_trial .nil pass0) (pa_cons (pe_meth0 (pv 0) T.cl_Finder T.m_Finder_trial (ok_Finder_trial T) (hr.mono (by decide)) T.B_Finder_trial .nil pass0) pa_nil)))))))
      (pss_cons (ps_if (pt_not (pt_val (pe_callB (id := "all") (cr_all rfl) (by rfl) T.b_all (by decide +kernel) (pa_cons (pe_lc (own := [("one", 3)]) (g := gName 3) (tt := tYes) rfl S.nd (pi_list (pv 2)) (blkOk_by (N := ["finder", "row", "told", "one"]) (sc := defScope s__law_agrees) (by decide +kernel)) (fun _ _ _ _ _ => pg_name (i := 3) S.nd rfl (Or.inl rfl)) (fun _ _ _ _ _ => pts_nil) (fun _ _ _ _ _ => (pe_call (ok__law_whole T) (hr.mono (by decide)) rfl T.g__law_whole T.F__law_whole.kp T.B__law_whole .nil pass0 (pa_cons (pv 3) pa_nil)))) pa_nil)))) (pss_one (ps_ret pe_bl)) pss_nil)
      (pss_one (ps_ret (pe_cmpR (op_eqD hr.units) (pv 2) (pe_op op_cat (pv 1) (pe_lst (pa_cons (pe_call (ok__law_aim T) (hr.mono (by decide)) rfl T.g__law_aim T.F__law_aim.kp T.B__law_aim .nil pass0 (pa_cons (pv 1) pa_nil)) (pa_cons (pe_call (ok__law_aim T) (hr.mono (by decide)) rfl T.g__law_aim T.F__law_aim.kp T.B__law_aim .nil pass0 (pa_cons (pv 1) pa_nil)) pa_nil)))) (nomark _)))))), ?_⟩
    refine st__law_agrees ?_
    o_args
    refine fget he T.cl_Finder T.n_Finder_size rfl ?_
    o_args
    refine fget he T.cl_Finder T.n_Finder_ceiling rfl ?_
    o_args
    refine fget he T.cl_Finder T.n_Finder_strikes rfl ?_
    o_args
    refine ⟨e, dx, _, rfl, he, rfl, e, f, rfl, hE, ?_⟩
    o_args
    refine ⟨e, dx, _, rfl, he, rfl, e, f, rfl, hE, ?_⟩
    o_args
    refine newList (by simp) fun D H1 hD s1 h1 => ?_
    have hw1 := s1 _ _ hw
    o_args
    refine lc_lstN (K := K) (fun i vs _ => vs = List.replicate i (.bl true)) (fun R q => ⟨_, rfl, q⟩) (SqL.of h1) (by simp) (fun _ _ => rfl) (fun _ _ _ _ _ h => h) (fun _ _ _ _ _ _ _ _ _ h => h) (fun B i v vs H' hi s hv _ _ _ Qe q => ?_) (fun B vs H2 hB hl hv h2 s2 => ?_)
    · have : ∃ z, v = V.int z := by
        have hm := List.mem_of_getElem? hi
        simp only [List.mem_cons, List.not_mem_nil, or_false] at hm
        rcases hm with h | h | h | h | h <;> exact ⟨_, h⟩
      obtain ⟨z, rfl⟩ := this
      o_args
      refine ⟨_, true, rfl, intK_int z, q _ _ (Same.refl _) ?_⟩
      rw [hv]
      exact (List.replicate_succ' ..).symm
    subst hv
    o_args
    refine ⟨B, List.replicate 5 true, rfl, SqL.of (by rw [h2]; rfl), ?_⟩
    rw [all_rep]
    have hw2 := s2 _ _ hw1
    o_args
    refine ⟨r, f, rfl, hw2, ?_⟩
    o_args
    refine ⟨r, f, rfl, hw2, ?_⟩
    o_args
    refine newList (by simp) fun N H3 hN s3 h3 => ?_
    o_args
    refine catList (s3 _ _ hw2) h3 (by simp [Fs.row]) fun M H4 hM s4 h4 => ?_
    have S4 : Same H1 H4 := (s2.trans s3).trans s4
    refine eqLL (K := K) (xs := [f.sz, f.ce, f.st, f.aim, f.aim]) (ys := [f.sz, f.ce, f.st, f.aim, f.aim]) (SqL.of (by rw [S4 _ _ h1]; rfl)) (SqL.of (by rw [h4]; rfl)) ?_
    rw [decide_eq_true rfl]
    exact k H4 (s1.trans S4)
/-! ### the law -/
theorem finOk {C : Addr} : AtOk (FinAt C) := ⟨fun h s => h.same s, fun h s n => h.on s n, fun ⟨dx, h⟩ => ⟨_, _, _, h⟩⟩
def sp_law (K : PySem.W.Frag) : Sp := fun vs H Q _ => ∃ (a : Addr) (ns : List Int), vs = [.ref a] ∧ SqL K H a (ns.map V.int) ∧ ns.length ≤ 63 ∧ ∀ H', Q (.bl true) H'
theorem ok_law (T : Txt K mg) : FnOk P w K mg base CX0 7 T.a_law T.fd_law ["script"] (sp_law K) := by
  have S := sc_law
  refine T.F_law.ok S (fun vs H Q E h => ?_) (fun cdv A outer s H vs Q E hr h => ?_)
  · obtain ⟨a, ns, rfl, _⟩ := h
    rfl
  · obtain ⟨a, ns, rfl, hS, hl, k⟩ := h
    refine ⟨_, (pss_cons (ps_set (i := 1) S.nd rfl (Or.inl rfl) (pe_call (ok__law_bag T) (hr.mono (by decide)) rfl T.g__law_bag T.F__law_bag.kp T.B__law_bag .nil pass0 (pa_cons (pv 0) pa_nil)))
      (pss_cons (ps_set (i := 2) S.nd rfl (Or.inl rfl) (pe_op op_add pe_int (pe_call (ok__law_take T) (hr.mono (by decide)) rfl T.g__law_take T.F__law_take.kp T.B__law_take .nil pass0 (pa_cons (pv 1) (pa_cons pe_int pa_nil)))))
      (pss_cons (ps_for PassesOwn.never rfl (pi_range1 (by rfl) T.b_range (pa_cons pe_int pa_nil)) (pg_name (i := 3) S.nd rfl (Or.inl rfl)) (pss_one (ps_if (pt_not (pt_val (pe_call (ok__law_new T) (hr.mono (by decide)) rfl T.g__law_new T.F__law_new.kp T.B__law_new .nil pass0 (pa_cons (pv 1) (pa_cons (pv 3) pa_nil))))) (pss_one (ps_ret pe_bl)) pss_nil)))
      (pss_cons (ps_set (i := 4) S.nd rfl (Or.inl rfl) (pe_lst (pa_cons (pe_call (ok__law_bounds T) (hr.mono (by decide)) rfl T.g__law_bounds T.F__law_bounds.kp T.B__law_bounds .nil pass0 (pa_cons (pv 1) pa_nil)) (pa_cons (pe_call (ok__law_bounds T) (hr.mono (by decide)) rfl T.g__law_bounds T.F__law_bounds.kp T.B__law_bounds .nil pass0 (pa_cons (pv 1) pa_nil)) pa_nil))))
      (pss_cons (ps_set (i := 5) S.nd rfl (Or.inl rfl) (pe_lst (pa_cons (pe_op op_cat (pe_ix ix_list (pv 4) pe_int (fun _ _ => rfl)) (pe_lst (pa_cons pe_int pa_nil))) (pa_cons (pe_op op_cat (pe_ix ix_list (pv 4) pe_int (fun _ _ => rfl)) (pe_lst (pa_cons pe_int pa_nil))) pa_nil))))
      (pss_cons (ps_setLc (i := 6) (own := [("row", 11)]) (g := gName 11) (tt := tYes) rfl S.nd rfl rfl (sw_true rfl rfl rfl (by decide +kernel)) (pi_list (pv 5)) (blkOk_by (N := ["script", "bag", "turns", "way", "bounds", "rows", "pair", "turn", "side", "deed", "value", "row"]) (sc := defScope s_law) (by decide +kernel)) (fun _ _ _ _ _ => pg_name (i := 11) S.nd rfl (Or.inl rfl)) (fun _ _ _ _ _ => pts_nil) (fun _ _ _ _ _ => (pe_make T.M_Finder (ok_Finder_init_ T) (hr.mono (by decide)) rfl T.g_Finder T.B_Finder_init_ .nil passL (pa_cons (pe_ix (show IxR _ (rIxL K) from ix_list) (pv 11) pe_int (fun _ _ => rfl)) (pa_cons (pe_ix (show IxR _ (rIxL K) from ix_list) (pv 11) pe_int (fun _ _ => rfl)) pa_nil)))))
      (pss_cons (ps_for PassesOwn.never rfl (pi_range1 (by rfl) T.b_range (pa_cons (pv 2) pa_nil)) (pg_name (i := 7) S.nd rfl (Or.inl rfl)) (C8.pss_cut (ps_if (PW.pt (pw_or (pt_cmpR op_eq (pv 7) pe_int (nomark _)) (pw_or1 (pt_cmpR op_gt (pe_call (ok__law_take T) (hr.mono (by decide)) rfl T.g__law_take T.F__law_take.kp T.B__law_take .nil pass0 (pa_cons (pv 1) (pa_cons pe_int pa_nil))) pe_int (nomark _))))) (pss_one (ps_if (PW.pt (pw_or (pt_not (pt_val (pe_call (ok__law_agrees T) (hr.mono (by decide)) rfl T.g__law_agrees T.F__law_agrees.kp T.B__law_agrees .nil pass0 (pa_cons (pe_ix ix_list (pv 6) pe_int (fun _ _ => rfl)) (pa_cons (pe_ix ix_list (pv 5) pe_int (fun _ _ => rfl)) pa_nil))))) (pw_or1 (pt_not (pt_val (pe_call (ok__law_agrees T) (hr.mono (by decide)) rfl T.g__law_agrees T.F__law_agrees.kp T.B__law_agrees .nil pass0 (pa_cons (pe_ix ix_list (pv 6) pe_int (fun _ _ => rfl)) (pa_cons (pe_ix ix_list (pv 5) pe_int (fun _ _ => rfl)) pa_nil)))))))) (pss_one (ps_ret pe_bl)) pss_nil)) pss_nil)
      (pss_cons (ps_set (i := 8) S.nd rfl (Or.inl rfl) (pe_call (ok__law_take T) (hr.mono (by decide)) rfl T.g__law_take T.F__law_take.kp T.B__law_take .nil pass0 (pa_cons (pv 1) (pa_cons pe_int pa_nil))))
      (C8.pss_cut (ps_if (PW.pt (pw_and (pt_cmpR op_eq (pe_call (ok__law_take T) (hr.mono (by decide)) rfl T.g__law_take T.F__law_take.kp T.B__law_take .nil pass0 (pa_cons (pv 1) (pa_cons pe_int pa_nil))) pe_int (nomark _)) (pw_and1 (pt_not (pt_val (pe_call (ok__law_refuses T) (hr.mono (by decide)) rfl T.g__law_refuses T.F__law_refuses.kp T.B__law_refuses .nil pass0 (pa_cons (pv 1) (pa_cons (pe_ix ix_list (pv 6) (pv 8) (fun _ _ => rfl)) pa_nil)))))))) (pss_one (ps_ret pe_bl)) pss_nil)
      (pss_cons (ps_set (i := 9) S.nd rfl (Or.inl rfl) pe_int)
      (C8.pss_cut (ps_if (pt_cmpR op_gt (pe_call (ok__law_take T) (hr.mono (by decide)) rfl T.g__law_take T.F__law_take.kp T.B__law_take .nil pass0 (pa_cons (pv 1) (pa_cons pe_int pa_nil))) pe_int (nomark _)) (pss_one (ps_set (i := 9) S.nd rfl (Or.inl rfl) pe_int)) pss_nil)
      (pss_cons (ps_set (i := 10) S.nd rfl (Or.inl rfl) (pe_call (ok__law_value T) (hr.mono (by decide)) rfl T.g__law_value T.F__law_value.kp T.B__law_value .nil pass0 (pa_cons (pv 1) (pa_cons (pe_ix ix_list (pv 5) (pv 8) (fun _ _ => rfl)) pa_nil))))
      (pss_cons (ps_if (pt_cmpR (op_neD hr.units) (pe_call (ok__law_call T) (hr.mono (by decide)) rfl T.g__law_call T.F__law_call.kp T.B__law_call .nil pass0 (pa_cons (pe_ix ix_list (pv 6) (pv 8) (fun _ _ => rfl)) (pa_cons (pv 9) (pa_cons (pv 10) pa_nil)))) (pe_tup (pa_cons pe_str (pa_cons pe_non pa_nil))) (nomark _)) (pss_one (ps_ret pe_bl)) pss_nil)
      (pss_one (ps_expr (pe_call (ok__law_enter T) (hr.mono (by decide)) rfl T.g__law_enter T.F__law_enter.kp T.B__law_enter .nil pass0 (pa_cons (pe_ix ix_list (pv 5) (pv 8) (fun _ _ => rfl)) (pa_cons (pv 9) (pa_cons (pv 10) pa_nil))))))))))))))
      (pss_one (ps_ret (pe_and (pe_call (ok__law_agrees T) (hr.mono (by decide)) rfl T.g__law_agrees T.F__law_agrees.kp T.B__law_agrees .nil pass0 (pa_cons (pe_ix ix_list (pv 6) pe_int (fun _ _ => rfl)) (pa_cons (pe_ix ix_list (pv 5) pe_int (fun _ _ => rfl)) pa_nil))) (pe_one (pe_call (ok__law_agrees T) (hr.mono (by decide)) rfl T.g__law_agrees T.F__law_agrees.kp T.B__law_agrees .nil pass0 (pa_cons (pe_ix ix_list (pv 6) pe_int (fun _ _ => rfl)) (pa_cons (pe_ix ix_list (pv 5) pe_int (fun _ _ => rfl)) pa_nil)))))))))))))), ?_⟩
    refine st_law ?_
    o_args
    refine ⟨a, ns, rfl, hS, hl, fun b H1 nb s1 B1 => ?_⟩
    o_args
    refine ⟨b, 40, [], rfl, B1, by decide, by decide, fun tn H2 a2 b2 B2 s2 => ?_⟩
    o_args
    clear s1 s2 B1 nb
    refine rngF (n := 8) (by decide) (by decide) (for_range (lo := 0) (n := (8 : Int).toNat) (fun i σ H' => ∃ v, σ = [some (.ref a), some (.ref b), some (.int (1 + tn)), v, none, none, none, none, none, none, none, none] ∧ Bag b [] H') ⟨none, rfl, B2⟩ ?_ ?_)
    · rintro i σ H3 hi ⟨v, rfl, B3⟩
      have hi : i < 8 := hi
      o_args
      refine ⟨b, [], _, rfl, B3, by omega, by omega, fun H4 B4 s4 => ?_⟩
      o_args
      exact ⟨_, rfl, B4⟩
    rintro σ H3 ⟨v, rfl, B3⟩
    clear B2
    o_args
    refine ⟨b, [], rfl, B3, fun p0 H4 lo0 hi0 n4 np0 h4 l0a l0b l0c B4 s4 => ?_⟩
    o_args
    refine ⟨b, [p0], rfl, B4, fun p1 H5 lo1 hi1 n5 np1 h5 l1a l1b l1c B5 s5 => ?_⟩
    have h45 := s5 _ _ np0 h4
    o_args
    refine newList (by simp) fun Bd H6 n6 s6 h6 => ?_
    have B6 := B5.drop.drop.same s6
    have g0 := s6 _ _ h45
    have g1 := s6 _ _ h5
    o_args
    refine newList (by simp) fun z0 H7 n7 s7 h7 => ?_
    o_args
    refine catList (s7 _ _ g0) h7 (by simp) fun r0 H8 n8 s8 h8 => ?_
    have B8 := (B6.same s7).own n8 s8 ⟨_, h8⟩
    have h68 := s8 _ _ (s7 _ _ h6)
    have g18 := s8 _ _ (s7 _ _ g1)
    o_args
    refine newList (by simp) fun z1 H9 n9 s9 h9 => ?_
    o_args
    refine catList (s9 _ _ g18) h9 (by simp) fun r1 H10 n10 s10 h10 => ?_
    have B10 := (B8.same s9).own n10 s10 ⟨_, h10⟩
    have h810 := s10 _ _ (s9 _ _ h8)
    o_args
    refine newList (by simp) fun R H11 n11 s11 h11 => ?_
    have B11 := B10.own n11 s11 ⟨_, h11⟩
    have k0 : H11 r0 = some (.lst (Fs.row ⟨lo0, hi0, 0⟩)) := s11 _ _ h810
    have k1 : H11 r1 = some (.lst (Fs.row ⟨lo1, hi1, 0⟩)) := s11 _ _ h10
    have d01 : r0 ≠ r1 := fun e => by
      have := s9 _ _ h8
      rw [e, n10] at this
      cases this
    have dR0 : R ≠ r0 := (ne_of_none h810 n11).symm
    have dR1 : R ≠ r1 := (ne_of_none h10 n11).symm
    o_args
    refine lc_world (K := K) (rw := Fs.row) (At := FinAt T.c_Finder) (n := 2) (a := b) (R := R) (rs := [r0, r1]) (xs := [⟨lo0, hi0, 0⟩, ⟨lo1, hi1, 0⟩]) finOk (by decide) (fun R q => ⟨_, rfl, q⟩) h11 (fun i r x h1 h2 => ?_) rfl rfl (B11.less fun c hc => ?_) ?_ (fun i r x H' Qe h1 h2 hw q => ?_) (fun L es H12 W _ => ?_)
    · have : i < 2 := getq_lt h1
      have : i = 0 ∨ i = 1 := by omega
      rcases this with rfl | rfl <;> cases h1 <;> cases h2
      · exact k0
      · exact k1
    · simp only [List.mem_cons, List.not_mem_nil, or_false] at hc ⊢
      rcases hc with h | h | h <;> simp [h]
    · simp only [List.nodup_cons, List.mem_cons, List.not_mem_nil, or_false, not_or, not_false_eq_true, and_true, List.nodup_nil]
      exact ⟨⟨dR0, dR1⟩, d01⟩
    · have bd : ∃ lo hi, x = ⟨lo, hi, 0⟩ ∧ 1 ≤ lo ∧ lo ≤ hi ∧ hi ≤ 1400 := by
        have : i < 2 := getq_lt h1
        have : i = 0 ∨ i = 1 := by omega
        rcases this with rfl | rfl <;> cases h2
        · exact ⟨_, _, rfl, l0a, l0b, l0c⟩
        · exact ⟨_, _, rfl, l1a, l1b, l1c⟩
      obtain ⟨lo, hi, rfl, c1, c2, c3⟩ := bd
      o_args
      intro e dx he hdx ne
      exact ⟨e, _, _, rfl, .inl ⟨dx, lo, hi, rfl, rfl, upd_same, c1, c2, c3, fun H2 s2 h2 => ⟨rfl, q e H2 he (same_made he hdx s2) h2⟩⟩⟩
    have ok0 : ∀ x ∈ [(⟨lo0, hi0, 0⟩ : Fs), ⟨lo1, hi1, 0⟩], x.ok := fun x hx => by
      simp only [List.mem_cons, List.not_mem_nil, or_false] at hx
      rcases hx with h | h <;> rw [h]
      · exact ⟨by show 0 ≤ lo0; omega, by show 0 ≤ hi0; omega⟩
      · exact ⟨by show 0 ≤ lo1; omega, by show 0 ≤ hi1; omega⟩
    generalize [(⟨lo0, hi0, 0⟩ : Fs), ⟨lo1, hi1, 0⟩] = xs at W ok0
    clear s4 s5 s6 s7 s8 s9 s10 s11 h4 h5 h6 h7 h8 h9 h10 h11 h45 g0 g1 h68 g18 h810 B3 B4 B5 B6 B8 B10 B11 k0 k1 n4 n5 n6 n7 n8 n9 n10 n11 d01 dR0 dR1 l0a l0b l0c l1a l1b l1c np0 np1
    o_args
    have agree : ∀ (i : Nat) (xs : List Fs) (H : Hp) (E : XK) (Q : VK), i < 2 → Wd Fs.row (FinAt T.c_Finder) 2 b R L [r0, r1] es xs xs H → (∀ e r, es[i]? = some e → [r0, r1][i]? = some r → (∀ H', Same H H' → Q (.bl true) H') → sp__law_agrees K T.c_Finder [.ref e, .ref r] H Q E) := fun i xs H E Q hi W e r h1 h2 q => by
      obtain ⟨x, hx⟩ := some_at (l := xs) (i := i) (by have := W.len; omega)
      exact ⟨e, r, x, rfl, W.ests i e x h1 hx, W.rows i r x h2 hx, q⟩
    obtain ⟨_, le, _, _⟩ := W.len
    obtain ⟨e0, he0⟩ := some_at (l := es) (i := 0) (by omega)
    obtain ⟨e1, he1⟩ := some_at (l := es) (i := 1) (by omega)
    refine rngF (n := 1 + tn) (by omega) (by omega) (for_range (lo := 0) (n := (1 + tn).toNat) (fun i σ H' => ∃ xs v1 v2 v3 v4, σ = [some (.ref a), some (.ref b), some (.int (1 + tn)), v, some (.ref Bd), some (.ref R), some (.ref L), v1, v2, v3, v4, none] ∧ Wd Fs.row (FinAt T.c_Finder) 2 b R L [r0, r1] es xs xs H' ∧ ∀ x ∈ xs, x.ok) ⟨xs, none, none, none, none, rfl, W, ok0⟩ ?_ ?_)
    · rintro i σ H1 _ ⟨xs, v1, v2, v3, v4, rfl, W, ok⟩
      o_args
      refine ⟨fun σ H' => σ = [some (.ref a), some (.ref b), some (.int (1 + tn)), v, some (.ref Bd), some (.ref R), some (.ref L), some (.int (0 + (i : Int))), v2, v3, v4, none] ∧ Wd Fs.row (FinAt T.c_Finder) 2 b R L [r0, r1] es xs xs H', ?_, ?_⟩
      · o_args
        refine brD (fun q => ?_) (fun q => ?_)
        · o_args
          refine ixL (i := 0) W.hL (ref_at he0) ?_
          o_args
          refine ixL (i := 0) W.hR rfl ?_
          o_args
          refine agree 0 xs _ _ _ (by decide) W e0 r0 he0 rfl fun H2 s2 => ?_
          have W2 := W.same s2
          o_args
          refine ixL (i := 1) W2.hL (ref_at he1) ?_
          o_args
          refine ixL (i := 1) W2.hR rfl ?_
          o_args
          refine agree 1 xs _ _ _ (by decide) W2 e1 r1 he1 rfl fun H3 s3 => ?_
          o_args
          exact ⟨rfl, W2.same s3⟩
        o_args
        refine ⟨b, 3, _, rfl, W.bag, by decide, by decide, fun d H1' a1 b1 B1 s1 => ?_⟩
        have W := W.take B1 s1
        o_args
        refine brD (fun q => ?_) (fun q => ?_)
        · o_args
          refine ixL (i := 0) W.hL (ref_at he0) ?_
          o_args
          refine ixL (i := 0) W.hR rfl ?_
          o_args
          refine agree 0 xs _ _ _ (by decide) W e0 r0 he0 rfl fun H2 s2 => ?_
          have W2 := W.same s2
          o_args
          refine ixL (i := 1) W2.hL (ref_at he1) ?_
          o_args
          refine ixL (i := 1) W2.hR rfl ?_
          o_args
          refine agree 1 xs _ _ _ (by decide) W2 e1 r1 he1 rfl fun H3 s3 => ?_
          o_args
          exact ⟨rfl, W2.same s3⟩
        o_args
        exact ⟨rfl, W⟩
      rintro σ H2 ⟨rfl, W⟩
      o_args
      refine ⟨b, 2, _, rfl, W.bag, by decide, by decide, fun d H3 a3 b3 B3 s3 => ?_⟩
      have W := W.take B3 s3
      obtain ⟨j, rfl⟩ : ∃ j : Nat, d = j := ⟨d.toNat, by omega⟩
      have hj2 : j < 2 := by omega
      obtain ⟨l1, l2, l3, _⟩ := W.len
      obtain ⟨e, he⟩ := some_at (l := es) (i := j) (by omega)
      obtain ⟨r, hw⟩ := some_at (l := [r0, r1]) (i := j) (by show j < 2; omega)
      obtain ⟨x, hx⟩ := some_at (l := xs) (i := j) (by omega)
      o_args
      refine ⟨fun σ H' => σ = [some (.ref a), some (.ref b), some (.int (1 + tn)), v, some (.ref Bd), some (.ref R), some (.ref L), some (.int (0 + (i : Int))), some (.int (j : Int)), v3, v4, none] ∧ Wd Fs.row (FinAt T.c_Finder) 2 b R L [r0, r1] es xs xs H', ?_, ?_⟩
      · o_args
        refine ⟨b, 4, _, rfl, W.bag, by decide, by decide, fun d H4 a4 b4 B4 s4 => ?_⟩
        have W := W.take B4 s4
        o_args
        refine brD (fun q => ?_) (fun q => ?_)
        · o_args
          refine ixL W.hL (ref_at he) ?_
          o_args
          refine ⟨b, e, _, x, rfl, W.bag, W.bag.ne (Wd.inF' he), W.ests j e x he hx, fun H5 B5 s5 => ?_⟩
          o_args
          exact ⟨rfl, W.take B5 s5⟩
        · o_args
          exact ⟨rfl, W⟩
      rintro σ H4 ⟨rfl, W⟩
      o_args
      refine ⟨fun σ H' => ∃ deed : Int, σ = [some (.ref a), some (.ref b), some (.int (1 + tn)), v, some (.ref Bd), some (.ref R), some (.ref L), some (.int (0 + (i : Int))), some (.int (j : Int)), some (.int deed), v4, none] ∧ (deed = 0 ∨ deed = 1) ∧ Wd Fs.row (FinAt T.c_Finder) 2 b R L [r0, r1] es xs xs H', ?_, ?_⟩
      · o_args
        refine ⟨b, 5, _, rfl, W.bag, by decide, by decide, fun d H5 a5 b5 B5 s5 => ?_⟩
        have W := W.take B5 s5
        o_args
        refine brD (fun q => ?_) (fun q => ?_)
        · o_args
          exact ⟨_, rfl, .inr rfl, W⟩
        · o_args
          exact ⟨_, rfl, .inl rfl, W⟩
      rintro σ H5 ⟨deed, rfl, hd, W⟩
      o_args
      refine ixL W.hR (ref_at hw) ?_
      o_args
      refine ⟨b, r, _, x, rfl, W.bag, W.bag.ne (Wd.inF hw), W.rows j r x hw hx, ok x (List.mem_of_getElem? hx), fun t H6 t0 B6 s6 => ?_⟩
      have W := W.take B6 s6
      o_args
      refine ixL W.hL (ref_at he) ?_
      o_args
      refine ⟨e, deed, _, x, rfl, W.ests j e x he hx, .inl ⟨t, rfl, t0, fun p H7 s7 h7 hp => ?_⟩⟩
      have W := W.setE he s7 h7
      o_args
      refine newTup (by simp) fun p' H8 hp' s8 h8 => ?_
      have W := W.same s8
      refine ⟨.tuple [.str "told", .none], .tuple [.str "told", .none], .tup (SqT.of (s8 _ _ hp)) (.cons (.str _) (.cons .non .nil)), .tup (SqT.of h8) (.cons (.str _) (.cons .non .nil)), by decide +kernel, by decide +kernel, ?_⟩
      rw [show PyData.eqv (.tuple [.str "told", .none]) (.tuple [.str "told", .none]) = true by decide +kernel]
      o_args
      refine ixL W.hR (ref_at hw) ?_
      o_args
      refine ⟨r, deed, t, x, rfl, W.rows j r x hw hx, hd, fun H9 s9 h9 => ?_⟩
      have W := W.setR hw s9 h9
      o_args
      refine ⟨_, _, _, _, _, rfl, W, fun z hz => ?_⟩
      obtain ⟨m, hm⟩ := List.mem_iff_getElem?.mp hz
      rcases set_at hm with ⟨_, rfl⟩ | ⟨_, hm⟩
      · exact Fs.step_ok (ok x (List.mem_of_getElem? hx)) t0
      · exact ok z (List.mem_of_getElem? hm)
    · rintro σ H1 ⟨xs, v1, v2, v3, v4, rfl, W, ok⟩
      o_args
      refine ixL (i := 0) W.hL (ref_at he0) ?_
      o_args
      refine ixL (i := 0) W.hR rfl ?_
      o_args
      refine agree 0 xs H1 _ _ (by decide) W e0 r0 he0 rfl fun H2 s2 => ?_
      have W2 := W.same s2
      o_args
      refine ixL (i := 1) W2.hL (ref_at he1) ?_
      o_args
      refine ixL (i := 1) W2.hR rfl ?_
      o_args
      exact agree 1 xs H2 _ _ (by decide) W2 e1 r1 he1 rfl fun H3 s3 => k H3
end
set_option maxHeartbeats 0 in
theorem all_mk {l : PySem.W.OpenLaw} {w : World} {K : PySem.W.Frag} {h : Heap} {mg : Str → Option Value} {fa : Addr} (X : K.In h) (G : h.Ns mainGlobals mg) (hfa : mg "law" = some (.ref fa))
    {c_Finder c_LossError c_InvalidNumber c_InvalidSetting a_InvalidNumber_init_ a_InvalidSetting_init_ a_is_integer a_is_between a_is_at_least a_require_count a_Finder_init_ a_Finder_trial a_Finder_passed a_Finder_failed a_Finder_copied a__law_whole a__law_bag a__law_take a__law_lesser a__law_greater a__law_bounds a__law_far a__law_odd a__law_same a__law_made a__law_call a__law_bent a__law_new a__law_aim a__law_enter a__law_value a__law_refuses a__law_agrees a_law : Addr}
    {od_InvalidNumber_init_ an_InvalidNumber_init_ od_InvalidSetting_init_ an_InvalidSetting_init_ od_is_integer an_is_integer od_is_between an_is_between od_is_at_least an_is_at_least od_require_count an_require_count od_Finder_init_ an_Finder_init_ od_Finder_trial an_Finder_trial od_Finder_passed an_Finder_passed od_Finder_failed an_Finder_failed od_Finder_copied an_Finder_copied od__law_whole an__law_whole od__law_bag an__law_bag od__law_take an__law_take od__law_lesser an__law_lesser od__law_greater an__law_greater od__law_bounds an__law_bounds od__law_far an__law_far od__law_odd an__law_odd od__law_same an__law_same od__law_made an__law_made od__law_call an__law_call od__law_bent an__law_bent od__law_new an__law_new od__law_aim an__law_aim od__law_enter an__law_enter od__law_value an__law_value od__law_refuses an__law_refuses od__law_agrees an__law_agrees od_law an_law : Option Addr} {sl_InvalidNumber_init_ sl_InvalidSetting_init_ sl_is_integer sl_is_between sl_is_at_least sl_require_count sl_Finder_init_ sl_Finder_trial sl_Finder_passed sl_Finder_failed sl_Finder_copied sl__law_whole sl__law_bag sl__law_take sl__law_lesser sl__law_greater sl__law_bounds sl__law_far sl__law_odd sl__law_same sl__law_made sl__law_call sl__law_bent sl__law_new sl__law_aim sl__law_enter sl__law_value sl__law_refuses sl__law_agrees sl_law : Array (Option Value)}
    {oc_InvalidNumber_init_ kV_InvalidNumber_init_ dc_InvalidNumber_init_ pm_InvalidNumber_init_ cd_InvalidNumber_init_ ct_InvalidNumber_init_ oc_InvalidSetting_init_ kV_InvalidSetting_init_ dc_InvalidSetting_init_ pm_InvalidSetting_init_ cd_InvalidSetting_init_ ct_InvalidSetting_init_ oc_is_integer kV_is_integer dc_is_integer pm_is_integer cd_is_integer ct_is_integer oc_is_between kV_is_between dc_is_between pm_is_between cd_is_between ct_is_between oc_is_at_least kV_is_at_least dc_is_at_least pm_is_at_least cd_is_at_least ct_is_at_least oc_require_count kV_require_count dc_require_count pm_require_count cd_require_count ct_require_count oc_Finder_init_ kV_Finder_init_ dc_Finder_init_ pm_Finder_init_ cd_Finder_init_ ct_Finder_init_ oc_Finder_trial kV_Finder_trial dc_Finder_trial pm_Finder_trial cd_Finder_trial ct_Finder_trial oc_Finder_passed kV_Finder_passed dc_Finder_passed pm_Finder_passed cd_Finder_passed ct_Finder_passed oc_Finder_failed kV_Finder_failed dc_Finder_failed pm_Finder_failed cd_Finder_failed ct_Finder_failed oc_Finder_copied kV_Finder_copied dc_Finder_copied pm_Finder_copied cd_Finder_copied ct_Finder_copied oc__law_whole kV__law_whole dc__law_whole pm__law_whole cd__law_whole ct__law_whole oc__law_bag kV__law_bag dc__law_bag pm__law_bag cd__law_bag ct__law_bag oc__law_take kV__law_take dc__law_take pm__law_take cd__law_take ct__law_take oc__law_lesser kV__law_lesser dc__law_lesser pm__law_lesser cd__law_lesser ct__law_lesser oc__law_greater kV__law_greater dc__law_greater pm__law_greater cd__law_greater ct__law_greater oc__law_bounds kV__law_bounds dc__law_bounds pm__law_bounds cd__law_bounds ct__law_bounds oc__law_far kV__law_far dc__law_far pm__law_far cd__law_far ct__law_far oc__law_odd kV__law_odd dc__law_odd pm__law_odd cd__law_odd ct__law_odd oc__law_same kV__law_same dc__law_same pm__law_same cd__law_same ct__law_same oc__law_made kV__law_made dc__law_made pm__law_made cd__law_made ct__law_made oc__law_call kV__law_call dc__law_call pm__law_call cd__law_call ct__law_call oc__law_bent kV__law_bent dc__law_bent pm__law_bent cd__law_bent ct__law_bent oc__law_new kV__law_new dc__law_new pm__law_new cd__law_new ct__law_new oc__law_aim kV__law_aim dc__law_aim pm__law_aim cd__law_aim ct__law_aim oc__law_enter kV__law_enter dc__law_enter pm__law_enter cd__law_enter ct__law_enter oc__law_value kV__law_value dc__law_value pm__law_value cd__law_value ct__law_value oc__law_refuses kV__law_refuses dc__law_refuses pm__law_refuses cd__law_refuses ct__law_refuses oc__law_agrees kV__law_agrees dc__law_agrees pm__law_agrees cd__law_agrees ct__law_agrees oc_law kV_law dc_law pm_law cd_law ct_law : Value}
    {u_MOST_BYTES u_MOST_STRIKES : Value}
    {xn_InvalidNumber xq_InvalidNumber : Str} {xN_InvalidNumber : Addr} {xb_InvalidNumber xm_InvalidNumber : List Value} {xs_InvalidNumber : List Str} {xu_InvalidNumber : List Value} {xa_InvalidNumber : Bool} {xo_InvalidNumber : _} {xd_InvalidNumber : Option Addr} {x0_InvalidNumber x1_InvalidNumber x2_InvalidNumber x3_InvalidNumber x5_InvalidNumber : Option Value}
    {xn_InvalidSetting xq_InvalidSetting : Str} {xN_InvalidSetting : Addr} {xb_InvalidSetting xm_InvalidSetting : List Value} {xs_InvalidSetting : List Str} {xu_InvalidSetting : List Value} {xa_InvalidSetting : Bool} {xo_InvalidSetting : _} {xd_InvalidSetting : Option Addr} {x0_InvalidSetting x1_InvalidSetting x2_InvalidSetting x3_InvalidSetting x5_InvalidSetting : Option Value}
    (aC_Finder : PySem.W.nsIn K mainGlobals "Finder" = some (some (.ref c_Finder)))
    (pg_Finder : PySem.W.plainGet K c_Finder Str.empty = true)
    (hd_Finder : PySem.W.hasDictIn K c_Finder = true)
    (po_Finder : PySem.W.plainOver K c_Finder = true)
    (sa_Finder : PySem.W.findIn K (.ref c_Finder) "__setattr__" = some (some (.builtin "object.__setattr__")))
    (mk_Finder : PySem.W.makesIn K c_Finder = true)
    (kc_Finder : PySem.W.keepIn K (.ref c_Finder) = true)
    (n_Finder_size : PySem.W.findIn K (.ref c_Finder) "size" = some none)
    (n_Finder_ceiling : PySem.W.findIn K (.ref c_Finder) "ceiling" = some none)
    (n_Finder_strikes : PySem.W.findIn K (.ref c_Finder) "strikes" = some none)
    (aC_LossError : PySem.W.nsIn K mainGlobals "LossError" = some (some (.ref c_LossError)))
    (aC_InvalidNumber : PySem.W.nsIn K mainGlobals "InvalidNumber" = some (some (.ref c_InvalidNumber)))
    (xl_InvalidNumber : K.lookup c_InvalidNumber = some (excClassObj xn_InvalidNumber xq_InvalidNumber c_InvalidNumber xN_InvalidNumber xb_InvalidNumber xm_InvalidNumber true xs_InvalidNumber xu_InvalidNumber xa_InvalidNumber xo_InvalidNumber xd_InvalidNumber x0_InvalidNumber x1_InvalidNumber x2_InvalidNumber x3_InvalidNumber x5_InvalidNumber "ValueError.__new__"))
    (sa_InvalidNumber : PySem.W.findIn K (.ref c_InvalidNumber) "__setattr__" = some (some (.builtin "object.__setattr__")))
    (xx_InvalidNumber : PySem.W.subIn K (.ref c_InvalidNumber) (.type "BaseException") = some true)
    (xt_InvalidNumber : PySem.W.typeIn K (.ref c_InvalidNumber) = some (.type "type"))
    (xk_InvalidNumber : PySem.W.keepIn K (.ref c_InvalidNumber) = true)
    (xi_InvalidNumber : PySem.W.findIn K (.ref c_InvalidNumber) "__init__" = some (some (.ref a_InvalidNumber_init_)))
    (xg_InvalidNumber : PySem.W.findIn K (.ref c_InvalidNumber) "__getattribute__" = some (some (.builtin "BaseException.__getattribute__")))
    (xh_InvalidNumber : PySem.W.findIn K (.ref c_InvalidNumber) "__getattr__" = some none)
    (xy_InvalidNumber : PySem.W.hasDictIn K c_InvalidNumber = true)
    (xc_InvalidNumber : PySem.W.findIn K (.ref c_InvalidNumber) "__class__" = some (some (.builtin "object.__class__")))
    (xr_InvalidNumber : PySem.W.mroIn K c_InvalidNumber (.type "object") = some true)
    (nX_InvalidNumber : PySem.W.findIn K (.ref c_InvalidNumber) "number" = some none)
    (aC_InvalidSetting : PySem.W.nsIn K mainGlobals "InvalidSetting" = some (some (.ref c_InvalidSetting)))
    (xl_InvalidSetting : K.lookup c_InvalidSetting = some (excClassObj xn_InvalidSetting xq_InvalidSetting c_InvalidSetting xN_InvalidSetting xb_InvalidSetting xm_InvalidSetting true xs_InvalidSetting xu_InvalidSetting xa_InvalidSetting xo_InvalidSetting xd_InvalidSetting x0_InvalidSetting x1_InvalidSetting x2_InvalidSetting x3_InvalidSetting x5_InvalidSetting "ValueError.__new__"))
    (sa_InvalidSetting : PySem.W.findIn K (.ref c_InvalidSetting) "__setattr__" = some (some (.builtin "object.__setattr__")))
    (xx_InvalidSetting : PySem.W.subIn K (.ref c_InvalidSetting) (.type "BaseException") = some true)
    (xt_InvalidSetting : PySem.W.typeIn K (.ref c_InvalidSetting) = some (.type "type"))
    (xk_InvalidSetting : PySem.W.keepIn K (.ref c_InvalidSetting) = true)
    (xi_InvalidSetting : PySem.W.findIn K (.ref c_InvalidSetting) "__init__" = some (some (.ref a_InvalidSetting_init_)))
    (xg_InvalidSetting : PySem.W.findIn K (.ref c_InvalidSetting) "__getattribute__" = some (some (.builtin "BaseException.__getattribute__")))
    (xh_InvalidSetting : PySem.W.findIn K (.ref c_InvalidSetting) "__getattr__" = some none)
    (xy_InvalidSetting : PySem.W.hasDictIn K c_InvalidSetting = true)
    (xc_InvalidSetting : PySem.W.findIn K (.ref c_InvalidSetting) "__class__" = some (some (.builtin "object.__class__")))
    (xr_InvalidSetting : PySem.W.mroIn K c_InvalidSetting (.type "object") = some true)
    (nX_InvalidSetting : PySem.W.findIn K (.ref c_InvalidSetting) "setting" = some none)
    (x_get : PySem.W.specialIn K (.builtin "object.__class__") "__get__" = some (some (.builtin "getset_descriptor.__get__")))
    (x_tk : PySem.W.takesIn K (.builtin "object.__class__") = some true)
    (Me_InvalidNumber_LossError : PySem.W.exmOne K (.ref c_InvalidNumber) (.ref c_LossError) = some true)
    (Me_InvalidSetting_LossError : PySem.W.exmOne K (.ref c_InvalidSetting) (.ref c_LossError) = some true)
    (Kt_InvalidNumber_InvalidNumber : PySem.W.kitOne K (.ref c_InvalidNumber) (.ref c_InvalidNumber) = some true)
    (Kt_InvalidNumber_InvalidSetting : PySem.W.kitOne K (.ref c_InvalidNumber) (.ref c_InvalidSetting) = some false)
    (Kt_InvalidSetting_InvalidNumber : PySem.W.kitOne K (.ref c_InvalidSetting) (.ref c_InvalidNumber) = some false)
    (Kt_InvalidSetting_InvalidSetting : PySem.W.kitOne K (.ref c_InvalidSetting) (.ref c_InvalidSetting) = some true)
    (xf_InvalidNumber_init_ : PySem.W.typeIn K (.ref a_InvalidNumber_init_) = some (.type "function"))
    (l_InvalidNumber_init_ : K.lookup a_InvalidNumber_init_ = some ⟨oc_InvalidNumber_init_, od_InvalidNumber_init_, .func (PySem.W.fnOf "__init__" "InvalidNumber.__init__" (defArgs s_InvalidNumber_init_) (defBody s_InvalidNumber_init_) (defScope s_InvalidNumber_init_) .none kV_InvalidNumber_init_ dc_InvalidNumber_init_ pm_InvalidNumber_init_ an_InvalidNumber_init_ cd_InvalidNumber_init_ ct_InvalidNumber_init_), sl_InvalidNumber_init_⟩)
    (e_InvalidNumber_init_ : PySem.W.codeIn K cd_InvalidNumber_init_ "InvalidNumber.__init__" = true)
    (k_InvalidNumber_init_ : PySem.W.keepIn K (.ref a_InvalidNumber_init_) = true)
    (xf_InvalidSetting_init_ : PySem.W.typeIn K (.ref a_InvalidSetting_init_) = some (.type "function"))
    (l_InvalidSetting_init_ : K.lookup a_InvalidSetting_init_ = some ⟨oc_InvalidSetting_init_, od_InvalidSetting_init_, .func (PySem.W.fnOf "__init__" "InvalidSetting.__init__" (defArgs s_InvalidSetting_init_) (defBody s_InvalidSetting_init_) (defScope s_InvalidSetting_init_) .none kV_InvalidSetting_init_ dc_InvalidSetting_init_ pm_InvalidSetting_init_ an_InvalidSetting_init_ cd_InvalidSetting_init_ ct_InvalidSetting_init_), sl_InvalidSetting_init_⟩)
    (e_InvalidSetting_init_ : PySem.W.codeIn K cd_InvalidSetting_init_ "InvalidSetting.__init__" = true)
    (k_InvalidSetting_init_ : PySem.W.keepIn K (.ref a_InvalidSetting_init_) = true)
    (a_is_integer' : PySem.W.nsIn K mainGlobals "is_integer" = some (some (.ref a_is_integer)))
    (l_is_integer : K.lookup a_is_integer = some ⟨oc_is_integer, od_is_integer, .func (PySem.W.fnOf "is_integer" "is_integer" (defArgs s_is_integer) (defBody s_is_integer) (defScope s_is_integer) .none kV_is_integer dc_is_integer pm_is_integer an_is_integer cd_is_integer ct_is_integer), sl_is_integer⟩)
    (e_is_integer : PySem.W.codeIn K cd_is_integer "is_integer" = true)
    (k_is_integer : PySem.W.keepIn K (.ref a_is_integer) = true)
    (a_is_between' : PySem.W.nsIn K mainGlobals "is_between" = some (some (.ref a_is_between)))
    (l_is_between : K.lookup a_is_between = some ⟨oc_is_between, od_is_between, .func (PySem.W.fnOf "is_between" "is_between" (defArgs s_is_between) (defBody s_is_between) (defScope s_is_between) .none kV_is_between dc_is_between pm_is_between an_is_between cd_is_between ct_is_between), sl_is_between⟩)
    (e_is_between : PySem.W.codeIn K cd_is_between "is_between" = true)
    (k_is_between : PySem.W.keepIn K (.ref a_is_between) = true)
    (a_is_at_least' : PySem.W.nsIn K mainGlobals "is_at_least" = some (some (.ref a_is_at_least)))
    (l_is_at_least : K.lookup a_is_at_least = some ⟨oc_is_at_least, od_is_at_least, .func (PySem.W.fnOf "is_at_least" "is_at_least" (defArgs s_is_at_least) (defBody s_is_at_least) (defScope s_is_at_least) .none kV_is_at_least dc_is_at_least pm_is_at_least an_is_at_least cd_is_at_least ct_is_at_least), sl_is_at_least⟩)
    (e_is_at_least : PySem.W.codeIn K cd_is_at_least "is_at_least" = true)
    (k_is_at_least : PySem.W.keepIn K (.ref a_is_at_least) = true)
    (a_require_count' : PySem.W.nsIn K mainGlobals "require_count" = some (some (.ref a_require_count)))
    (l_require_count : K.lookup a_require_count = some ⟨oc_require_count, od_require_count, .func (PySem.W.fnOf "require_count" "require_count" (defArgs s_require_count) (defBody s_require_count) (defScope s_require_count) .none kV_require_count dc_require_count pm_require_count an_require_count cd_require_count ct_require_count), sl_require_count⟩)
    (e_require_count : PySem.W.codeIn K cd_require_count "require_count" = true)
    (k_require_count : PySem.W.keepIn K (.ref a_require_count) = true)
    (a_Finder_init_' : PySem.W.findIn K (.ref c_Finder) "__init__" = some (some (.ref a_Finder_init_)))
    (i_Finder_init_ : PySem.W.isFn K (.ref a_Finder_init_) = true)
    (l_Finder_init_ : K.lookup a_Finder_init_ = some ⟨oc_Finder_init_, od_Finder_init_, .func (PySem.W.fnOf "__init__" "Finder.__init__" (defArgs s_Finder_init_) (defBody s_Finder_init_) (defScope s_Finder_init_) .none kV_Finder_init_ dc_Finder_init_ pm_Finder_init_ an_Finder_init_ cd_Finder_init_ ct_Finder_init_), sl_Finder_init_⟩)
    (e_Finder_init_ : PySem.W.codeIn K cd_Finder_init_ "Finder.__init__" = true)
    (k_Finder_init_ : PySem.W.keepIn K (.ref a_Finder_init_) = true)
    (a_Finder_trial' : PySem.W.findIn K (.ref c_Finder) "trial" = some (some (.ref a_Finder_trial)))
    (i_Finder_trial : PySem.W.isFn K (.ref a_Finder_trial) = true)
    (l_Finder_trial : K.lookup a_Finder_trial = some ⟨oc_Finder_trial, od_Finder_trial, .func (PySem.W.fnOf "trial" "Finder.trial" (defArgs s_Finder_trial) (defBody s_Finder_trial) (defScope s_Finder_trial) .none kV_Finder_trial dc_Finder_trial pm_Finder_trial an_Finder_trial cd_Finder_trial ct_Finder_trial), sl_Finder_trial⟩)
    (e_Finder_trial : PySem.W.codeIn K cd_Finder_trial "Finder.trial" = true)
    (k_Finder_trial : PySem.W.keepIn K (.ref a_Finder_trial) = true)
    (a_Finder_passed' : PySem.W.findIn K (.ref c_Finder) "passed" = some (some (.ref a_Finder_passed)))
    (i_Finder_passed : PySem.W.isFn K (.ref a_Finder_passed) = true)
    (l_Finder_passed : K.lookup a_Finder_passed = some ⟨oc_Finder_passed, od_Finder_passed, .func (PySem.W.fnOf "passed" "Finder.passed" (defArgs s_Finder_passed) (defBody s_Finder_passed) (defScope s_Finder_passed) .none kV_Finder_passed dc_Finder_passed pm_Finder_passed an_Finder_passed cd_Finder_passed ct_Finder_passed), sl_Finder_passed⟩)
    (e_Finder_passed : PySem.W.codeIn K cd_Finder_passed "Finder.passed" = true)
    (k_Finder_passed : PySem.W.keepIn K (.ref a_Finder_passed) = true)
    (a_Finder_failed' : PySem.W.findIn K (.ref c_Finder) "failed" = some (some (.ref a_Finder_failed)))
    (i_Finder_failed : PySem.W.isFn K (.ref a_Finder_failed) = true)
    (l_Finder_failed : K.lookup a_Finder_failed = some ⟨oc_Finder_failed, od_Finder_failed, .func (PySem.W.fnOf "failed" "Finder.failed" (defArgs s_Finder_failed) (defBody s_Finder_failed) (defScope s_Finder_failed) .none kV_Finder_failed dc_Finder_failed pm_Finder_failed an_Finder_failed cd_Finder_failed ct_Finder_failed), sl_Finder_failed⟩)
    (e_Finder_failed : PySem.W.codeIn K cd_Finder_failed "Finder.failed" = true)
    (k_Finder_failed : PySem.W.keepIn K (.ref a_Finder_failed) = true)
    (a_Finder_copied' : PySem.W.findIn K (.ref c_Finder) "copied" = some (some (.ref a_Finder_copied)))
    (i_Finder_copied : PySem.W.isFn K (.ref a_Finder_copied) = true)
    (l_Finder_copied : K.lookup a_Finder_copied = some ⟨oc_Finder_copied, od_Finder_copied, .func (PySem.W.fnOf "copied" "Finder.copied" (defArgs s_Finder_copied) (defBody s_Finder_copied) (defScope s_Finder_copied) .none kV_Finder_copied dc_Finder_copied pm_Finder_copied an_Finder_copied cd_Finder_copied ct_Finder_copied), sl_Finder_copied⟩)
    (e_Finder_copied : PySem.W.codeIn K cd_Finder_copied "Finder.copied" = true)
    (k_Finder_copied : PySem.W.keepIn K (.ref a_Finder_copied) = true)
    (a__law_whole' : PySem.W.nsIn K mainGlobals "_law_whole" = some (some (.ref a__law_whole)))
    (l__law_whole : K.lookup a__law_whole = some ⟨oc__law_whole, od__law_whole, .func (PySem.W.fnOf "_law_whole" "_law_whole" (defArgs s__law_whole) (defBody s__law_whole) (defScope s__law_whole) .none kV__law_whole dc__law_whole pm__law_whole an__law_whole cd__law_whole ct__law_whole), sl__law_whole⟩)
    (e__law_whole : PySem.W.codeIn K cd__law_whole "_law_whole" = true)
    (k__law_whole : PySem.W.keepIn K (.ref a__law_whole) = true)
    (a__law_bag' : PySem.W.nsIn K mainGlobals "_law_bag" = some (some (.ref a__law_bag)))
    (l__law_bag : K.lookup a__law_bag = some ⟨oc__law_bag, od__law_bag, .func (PySem.W.fnOf "_law_bag" "_law_bag" (defArgs s__law_bag) (defBody s__law_bag) (defScope s__law_bag) .none kV__law_bag dc__law_bag pm__law_bag an__law_bag cd__law_bag ct__law_bag), sl__law_bag⟩)
    (e__law_bag : PySem.W.codeIn K cd__law_bag "_law_bag" = true)
    (k__law_bag : PySem.W.keepIn K (.ref a__law_bag) = true)
    (a__law_take' : PySem.W.nsIn K mainGlobals "_law_take" = some (some (.ref a__law_take)))
    (l__law_take : K.lookup a__law_take = some ⟨oc__law_take, od__law_take, .func (PySem.W.fnOf "_law_take" "_law_take" (defArgs s__law_take) (defBody s__law_take) (defScope s__law_take) .none kV__law_take dc__law_take pm__law_take an__law_take cd__law_take ct__law_take), sl__law_take⟩)
    (e__law_take : PySem.W.codeIn K cd__law_take "_law_take" = true)
    (k__law_take : PySem.W.keepIn K (.ref a__law_take) = true)
    (a__law_lesser' : PySem.W.nsIn K mainGlobals "_law_lesser" = some (some (.ref a__law_lesser)))
    (l__law_lesser : K.lookup a__law_lesser = some ⟨oc__law_lesser, od__law_lesser, .func (PySem.W.fnOf "_law_lesser" "_law_lesser" (defArgs s__law_lesser) (defBody s__law_lesser) (defScope s__law_lesser) .none kV__law_lesser dc__law_lesser pm__law_lesser an__law_lesser cd__law_lesser ct__law_lesser), sl__law_lesser⟩)
    (e__law_lesser : PySem.W.codeIn K cd__law_lesser "_law_lesser" = true)
    (k__law_lesser : PySem.W.keepIn K (.ref a__law_lesser) = true)
    (a__law_greater' : PySem.W.nsIn K mainGlobals "_law_greater" = some (some (.ref a__law_greater)))
    (l__law_greater : K.lookup a__law_greater = some ⟨oc__law_greater, od__law_greater, .func (PySem.W.fnOf "_law_greater" "_law_greater" (defArgs s__law_greater) (defBody s__law_greater) (defScope s__law_greater) .none kV__law_greater dc__law_greater pm__law_greater an__law_greater cd__law_greater ct__law_greater), sl__law_greater⟩)
    (e__law_greater : PySem.W.codeIn K cd__law_greater "_law_greater" = true)
    (k__law_greater : PySem.W.keepIn K (.ref a__law_greater) = true)
    (a__law_bounds' : PySem.W.nsIn K mainGlobals "_law_bounds" = some (some (.ref a__law_bounds)))
    (l__law_bounds : K.lookup a__law_bounds = some ⟨oc__law_bounds, od__law_bounds, .func (PySem.W.fnOf "_law_bounds" "_law_bounds" (defArgs s__law_bounds) (defBody s__law_bounds) (defScope s__law_bounds) .none kV__law_bounds dc__law_bounds pm__law_bounds an__law_bounds cd__law_bounds ct__law_bounds), sl__law_bounds⟩)
    (e__law_bounds : PySem.W.codeIn K cd__law_bounds "_law_bounds" = true)
    (k__law_bounds : PySem.W.keepIn K (.ref a__law_bounds) = true)
    (a__law_far' : PySem.W.nsIn K mainGlobals "_law_far" = some (some (.ref a__law_far)))
    (l__law_far : K.lookup a__law_far = some ⟨oc__law_far, od__law_far, .func (PySem.W.fnOf "_law_far" "_law_far" (defArgs s__law_far) (defBody s__law_far) (defScope s__law_far) .none kV__law_far dc__law_far pm__law_far an__law_far cd__law_far ct__law_far), sl__law_far⟩)
    (e__law_far : PySem.W.codeIn K cd__law_far "_law_far" = true)
    (k__law_far : PySem.W.keepIn K (.ref a__law_far) = true)
    (a__law_odd' : PySem.W.nsIn K mainGlobals "_law_odd" = some (some (.ref a__law_odd)))
    (l__law_odd : K.lookup a__law_odd = some ⟨oc__law_odd, od__law_odd, .func (PySem.W.fnOf "_law_odd" "_law_odd" (defArgs s__law_odd) (defBody s__law_odd) (defScope s__law_odd) .none kV__law_odd dc__law_odd pm__law_odd an__law_odd cd__law_odd ct__law_odd), sl__law_odd⟩)
    (e__law_odd : PySem.W.codeIn K cd__law_odd "_law_odd" = true)
    (k__law_odd : PySem.W.keepIn K (.ref a__law_odd) = true)
    (a__law_same' : PySem.W.nsIn K mainGlobals "_law_same" = some (some (.ref a__law_same)))
    (l__law_same : K.lookup a__law_same = some ⟨oc__law_same, od__law_same, .func (PySem.W.fnOf "_law_same" "_law_same" (defArgs s__law_same) (defBody s__law_same) (defScope s__law_same) .none kV__law_same dc__law_same pm__law_same an__law_same cd__law_same ct__law_same), sl__law_same⟩)
    (e__law_same : PySem.W.codeIn K cd__law_same "_law_same" = true)
    (k__law_same : PySem.W.keepIn K (.ref a__law_same) = true)
    (a__law_made' : PySem.W.nsIn K mainGlobals "_law_made" = some (some (.ref a__law_made)))
    (l__law_made : K.lookup a__law_made = some ⟨oc__law_made, od__law_made, .func (PySem.W.fnOf "_law_made" "_law_made" (defArgs s__law_made) (defBody s__law_made) (defScope s__law_made) .none kV__law_made dc__law_made pm__law_made an__law_made cd__law_made ct__law_made), sl__law_made⟩)
    (e__law_made : PySem.W.codeIn K cd__law_made "_law_made" = true)
    (k__law_made : PySem.W.keepIn K (.ref a__law_made) = true)
    (a__law_call' : PySem.W.nsIn K mainGlobals "_law_call" = some (some (.ref a__law_call)))
    (l__law_call : K.lookup a__law_call = some ⟨oc__law_call, od__law_call, .func (PySem.W.fnOf "_law_call" "_law_call" (defArgs s__law_call) (defBody s__law_call) (defScope s__law_call) .none kV__law_call dc__law_call pm__law_call an__law_call cd__law_call ct__law_call), sl__law_call⟩)
    (e__law_call : PySem.W.codeIn K cd__law_call "_law_call" = true)
    (k__law_call : PySem.W.keepIn K (.ref a__law_call) = true)
    (a__law_bent' : PySem.W.nsIn K mainGlobals "_law_bent" = some (some (.ref a__law_bent)))
    (l__law_bent : K.lookup a__law_bent = some ⟨oc__law_bent, od__law_bent, .func (PySem.W.fnOf "_law_bent" "_law_bent" (defArgs s__law_bent) (defBody s__law_bent) (defScope s__law_bent) .none kV__law_bent dc__law_bent pm__law_bent an__law_bent cd__law_bent ct__law_bent), sl__law_bent⟩)
    (e__law_bent : PySem.W.codeIn K cd__law_bent "_law_bent" = true)
    (k__law_bent : PySem.W.keepIn K (.ref a__law_bent) = true)
    (a__law_new' : PySem.W.nsIn K mainGlobals "_law_new" = some (some (.ref a__law_new)))
    (l__law_new : K.lookup a__law_new = some ⟨oc__law_new, od__law_new, .func (PySem.W.fnOf "_law_new" "_law_new" (defArgs s__law_new) (defBody s__law_new) (defScope s__law_new) .none kV__law_new dc__law_new pm__law_new an__law_new cd__law_new ct__law_new), sl__law_new⟩)
    (e__law_new : PySem.W.codeIn K cd__law_new "_law_new" = true)
    (k__law_new : PySem.W.keepIn K (.ref a__law_new) = true)
    (a__law_aim' : PySem.W.nsIn K mainGlobals "_law_aim" = some (some (.ref a__law_aim)))
    (l__law_aim : K.lookup a__law_aim = some ⟨oc__law_aim, od__law_aim, .func (PySem.W.fnOf "_law_aim" "_law_aim" (defArgs s__law_aim) (defBody s__law_aim) (defScope s__law_aim) .none kV__law_aim dc__law_aim pm__law_aim an__law_aim cd__law_aim ct__law_aim), sl__law_aim⟩)
    (e__law_aim : PySem.W.codeIn K cd__law_aim "_law_aim" = true)
    (k__law_aim : PySem.W.keepIn K (.ref a__law_aim) = true)
    (a__law_enter' : PySem.W.nsIn K mainGlobals "_law_enter" = some (some (.ref a__law_enter)))
    (l__law_enter : K.lookup a__law_enter = some ⟨oc__law_enter, od__law_enter, .func (PySem.W.fnOf "_law_enter" "_law_enter" (defArgs s__law_enter) (defBody s__law_enter) (defScope s__law_enter) .none kV__law_enter dc__law_enter pm__law_enter an__law_enter cd__law_enter ct__law_enter), sl__law_enter⟩)
    (e__law_enter : PySem.W.codeIn K cd__law_enter "_law_enter" = true)
    (k__law_enter : PySem.W.keepIn K (.ref a__law_enter) = true)
    (a__law_value' : PySem.W.nsIn K mainGlobals "_law_value" = some (some (.ref a__law_value)))
    (l__law_value : K.lookup a__law_value = some ⟨oc__law_value, od__law_value, .func (PySem.W.fnOf "_law_value" "_law_value" (defArgs s__law_value) (defBody s__law_value) (defScope s__law_value) .none kV__law_value dc__law_value pm__law_value an__law_value cd__law_value ct__law_value), sl__law_value⟩)
    (e__law_value : PySem.W.codeIn K cd__law_value "_law_value" = true)
    (k__law_value : PySem.W.keepIn K (.ref a__law_value) = true)
    (a__law_refuses' : PySem.W.nsIn K mainGlobals "_law_refuses" = some (some (.ref a__law_refuses)))
    (l__law_refuses : K.lookup a__law_refuses = some ⟨oc__law_refuses, od__law_refuses, .func (PySem.W.fnOf "_law_refuses" "_law_refuses" (defArgs s__law_refuses) (defBody s__law_refuses) (defScope s__law_refuses) .none kV__law_refuses dc__law_refuses pm__law_refuses an__law_refuses cd__law_refuses ct__law_refuses), sl__law_refuses⟩)
    (e__law_refuses : PySem.W.codeIn K cd__law_refuses "_law_refuses" = true)
    (k__law_refuses : PySem.W.keepIn K (.ref a__law_refuses) = true)
    (a__law_agrees' : PySem.W.nsIn K mainGlobals "_law_agrees" = some (some (.ref a__law_agrees)))
    (l__law_agrees : K.lookup a__law_agrees = some ⟨oc__law_agrees, od__law_agrees, .func (PySem.W.fnOf "_law_agrees" "_law_agrees" (defArgs s__law_agrees) (defBody s__law_agrees) (defScope s__law_agrees) .none kV__law_agrees dc__law_agrees pm__law_agrees an__law_agrees cd__law_agrees ct__law_agrees), sl__law_agrees⟩)
    (e__law_agrees : PySem.W.codeIn K cd__law_agrees "_law_agrees" = true)
    (k__law_agrees : PySem.W.keepIn K (.ref a__law_agrees) = true)
    (a_law' : PySem.W.nsIn K mainGlobals "law" = some (some (.ref a_law)))
    (l_law : K.lookup a_law = some ⟨oc_law, od_law, .func (PySem.W.fnOf "law" "law" (defArgs s_law) (defBody s_law) (defScope s_law) .none kV_law dc_law pm_law an_law cd_law ct_law), sl_law⟩)
    (e_law : PySem.W.codeIn K cd_law "law" = true)
    (k_law : PySem.W.keepIn K (.ref a_law) = true)
    (Kv_InvalidNumber : PySem.W.kitOne K (.ref c_InvalidNumber) (.type "ValueError") = some true)
    (Kv_InvalidSetting : PySem.W.kitOne K (.ref c_InvalidSetting) (.type "ValueError") = some true)
    (z_ValueError : PySem.W.nsIn K mainGlobals "ValueError" = some none)
    (z_abs : PySem.W.nsIn K mainGlobals "abs" = some none)
    (z_all : PySem.W.nsIn K mainGlobals "all" = some none)
    (z_bool : PySem.W.nsIn K mainGlobals "bool" = some none)
    (z_int : PySem.W.nsIn K mainGlobals "int" = some none)
    (z_isinstance : PySem.W.nsIn K mainGlobals "isinstance" = some none)
    (z_len : PySem.W.nsIn K mainGlobals "len" = some none)
    (z_min : PySem.W.nsIn K mainGlobals "min" = some none)
    (z_range : PySem.W.nsIn K mainGlobals "range" = some none)
    (z_str : PySem.W.nsIn K mainGlobals "str" = some none)
    (z_sum : PySem.W.nsIn K mainGlobals "sum" = some none)
    (q_MOST_BYTES : PySem.W.nsIn K mainGlobals "MOST_BYTES" = some (some u_MOST_BYTES))
    (q_MOST_STRIKES : PySem.W.nsIn K mainGlobals "MOST_STRIKES" = some (some u_MOST_STRIKES))
    (xm'_InvalidNumber : PySem.HandSPX.refsVE xm_InvalidNumber = true)
    (xm'_InvalidSetting : PySem.HandSPX.refsVE xm_InvalidSetting = true)
    (w_MOST_BYTES : RelV (.int 1400) u_MOST_BYTES)
    (w_MOST_STRIKES : RelV (.int 2) u_MOST_STRIKES)
    : ∃ fd : FuncData, (∀ (s : Shared) (v : Value), BindsTo s fd ⟨[v], []⟩ [("script", v)]) ∧ ∀ base : Heap, K.In base → base.Ns mainGlobals mg → FnOk l.prog w K mg base CX0 7 fa fd ["script"] (sp_law K) := by
  have e : fa = a_law := by
    have e0 := hfa.symm.trans (PySem.W.mg_of X G a_law')
    cases e0
    rfl
  rw [e]
  have F_InvalidNumber_init_ := fun_mk (st := s_InvalidNumber_init_) l_InvalidNumber_init_ e_InvalidNumber_init_ k_InvalidNumber_init_
  have F_InvalidSetting_init_ := fun_mk (st := s_InvalidSetting_init_) l_InvalidSetting_init_ e_InvalidSetting_init_ k_InvalidSetting_init_
  have F_is_integer := fun_mk (st := s_is_integer) l_is_integer e_is_integer k_is_integer
  have F_is_between := fun_mk (st := s_is_between) l_is_between e_is_between k_is_between
  have F_is_at_least := fun_mk (st := s_is_at_least) l_is_at_least e_is_at_least k_is_at_least
  have F_require_count := fun_mk (st := s_require_count) l_require_count e_require_count k_require_count
  have F_Finder_init_ := fun_mk (st := s_Finder_init_) l_Finder_init_ e_Finder_init_ k_Finder_init_
  have F_Finder_trial := fun_mk (st := s_Finder_trial) l_Finder_trial e_Finder_trial k_Finder_trial
  have F_Finder_passed := fun_mk (st := s_Finder_passed) l_Finder_passed e_Finder_passed k_Finder_passed
  have F_Finder_failed := fun_mk (st := s_Finder_failed) l_Finder_failed e_Finder_failed k_Finder_failed
  have F_Finder_copied := fun_mk (st := s_Finder_copied) l_Finder_copied e_Finder_copied k_Finder_copied
  have F__law_whole := fun_mk (st := s__law_whole) l__law_whole e__law_whole k__law_whole
  have F__law_bag := fun_mk (st := s__law_bag) l__law_bag e__law_bag k__law_bag
  have F__law_take := fun_mk (st := s__law_take) l__law_take e__law_take k__law_take
  have F__law_lesser := fun_mk (st := s__law_lesser) l__law_lesser e__law_lesser k__law_lesser
  have F__law_greater := fun_mk (st := s__law_greater) l__law_greater e__law_greater k__law_greater
  have F__law_bounds := fun_mk (st := s__law_bounds) l__law_bounds e__law_bounds k__law_bounds
  have F__law_far := fun_mk (st := s__law_far) l__law_far e__law_far k__law_far
  have F__law_odd := fun_mk (st := s__law_odd) l__law_odd e__law_odd k__law_odd
  have F__law_same := fun_mk (st := s__law_same) l__law_same e__law_same k__law_same
  have F__law_made := fun_mk (st := s__law_made) l__law_made e__law_made k__law_made
  have F__law_call := fun_mk (st := s__law_call) l__law_call e__law_call k__law_call
  have F__law_bent := fun_mk (st := s__law_bent) l__law_bent e__law_bent k__law_bent
  have F__law_new := fun_mk (st := s__law_new) l__law_new e__law_new k__law_new
  have F__law_aim := fun_mk (st := s__law_aim) l__law_aim e__law_aim k__law_aim
  have F__law_enter := fun_mk (st := s__law_enter) l__law_enter e__law_enter k__law_enter
  have F__law_value := fun_mk (st := s__law_value) l__law_value e__law_value k__law_value
  have F__law_refuses := fun_mk (st := s__law_refuses) l__law_refuses e__law_refuses k__law_refuses
  have F__law_agrees := fun_mk (st := s__law_agrees) l__law_agrees e__law_agrees k__law_agrees
  have F_law := fun_mk (st := s_law) l_law e_law k_law
  let T : Txt K mg := {
    c_Finder := c_Finder,
    g_Finder := PySem.W.mg_of X G aC_Finder,
    cl_Finder := ⟨pg_Finder, hd_Finder, po_Finder, sa_Finder⟩,
    n_Finder_size := n_Finder_size,
    n_Finder_ceiling := n_Finder_ceiling,
    n_Finder_strikes := n_Finder_strikes,
    c_LossError := c_LossError,
    X_LossError := ⟨PySem.W.mg_of X G aC_LossError⟩,
    c_InvalidNumber := c_InvalidNumber,
    X_InvalidNumber := xcls_mk (PySem.W.mg_of X G aC_InvalidNumber) xl_InvalidNumber xm'_InvalidNumber sa_InvalidNumber xx_InvalidNumber xt_InvalidNumber xk_InvalidNumber xi_InvalidNumber xf_InvalidNumber_init_ xg_InvalidNumber xh_InvalidNumber xy_InvalidNumber xc_InvalidNumber x_get x_tk xr_InvalidNumber,
    nX_InvalidNumber := nX_InvalidNumber,
    c_InvalidSetting := c_InvalidSetting,
    X_InvalidSetting := xcls_mk (PySem.W.mg_of X G aC_InvalidSetting) xl_InvalidSetting xm'_InvalidSetting sa_InvalidSetting xx_InvalidSetting xt_InvalidSetting xk_InvalidSetting xi_InvalidSetting xf_InvalidSetting_init_ xg_InvalidSetting xh_InvalidSetting xy_InvalidSetting xc_InvalidSetting x_get x_tk xr_InvalidSetting,
    nX_InvalidSetting := nX_InvalidSetting,
    Me_InvalidNumber_LossError := Me_InvalidNumber_LossError,
    Me_InvalidSetting_LossError := Me_InvalidSetting_LossError,
    Kt_InvalidNumber_InvalidNumber := Kt_InvalidNumber_InvalidNumber,
    Kt_InvalidNumber_InvalidSetting := Kt_InvalidNumber_InvalidSetting,
    Kt_InvalidSetting_InvalidNumber := Kt_InvalidSetting_InvalidNumber,
    Kt_InvalidSetting_InvalidSetting := Kt_InvalidSetting_InvalidSetting,
    a_InvalidNumber_init_ := a_InvalidNumber_init_,
    fd_InvalidNumber_init_ := PySem.W.fnOf "__init__" "InvalidNumber.__init__" (defArgs s_InvalidNumber_init_) (defBody s_InvalidNumber_init_) (defScope s_InvalidNumber_init_) .none kV_InvalidNumber_init_ dc_InvalidNumber_init_ pm_InvalidNumber_init_ an_InvalidNumber_init_ cd_InvalidNumber_init_ ct_InvalidNumber_init_,
    F_InvalidNumber_init_ := F_InvalidNumber_init_,
    B_InvalidNumber_init_ := F_InvalidNumber_init_.binds (ps := ["self", "number"]) fun _ _ _ _ _ _ us hl => match us, hl with | [_, _], _ => rfl,
    a_InvalidSetting_init_ := a_InvalidSetting_init_,
    fd_InvalidSetting_init_ := PySem.W.fnOf "__init__" "InvalidSetting.__init__" (defArgs s_InvalidSetting_init_) (defBody s_InvalidSetting_init_) (defScope s_InvalidSetting_init_) .none kV_InvalidSetting_init_ dc_InvalidSetting_init_ pm_InvalidSetting_init_ an_InvalidSetting_init_ cd_InvalidSetting_init_ ct_InvalidSetting_init_,
    F_InvalidSetting_init_ := F_InvalidSetting_init_,
    B_InvalidSetting_init_ := F_InvalidSetting_init_.binds (ps := ["self", "setting"]) fun _ _ _ _ _ _ us hl => match us, hl with | [_, _], _ => rfl,
    a_is_integer := a_is_integer,
    fd_is_integer := PySem.W.fnOf "is_integer" "is_integer" (defArgs s_is_integer) (defBody s_is_integer) (defScope s_is_integer) .none kV_is_integer dc_is_integer pm_is_integer an_is_integer cd_is_integer ct_is_integer,
    F_is_integer := F_is_integer,
    B_is_integer := F_is_integer.binds (ps := ["value"]) fun _ _ _ _ _ _ us hl => match us, hl with | [_], _ => rfl,
    g_is_integer := PySem.W.mg_of X G a_is_integer',
    a_is_between := a_is_between,
    fd_is_between := PySem.W.fnOf "is_between" "is_between" (defArgs s_is_between) (defBody s_is_between) (defScope s_is_between) .none kV_is_between dc_is_between pm_is_between an_is_between cd_is_between ct_is_between,
    F_is_between := F_is_between,
    B_is_between := F_is_between.binds (ps := ["value", "low", "high"]) fun _ _ _ _ _ _ us hl => match us, hl with | [_, _, _], _ => rfl,
    g_is_between := PySem.W.mg_of X G a_is_between',
    a_is_at_least := a_is_at_least,
    fd_is_at_least := PySem.W.fnOf "is_at_least" "is_at_least" (defArgs s_is_at_least) (defBody s_is_at_least) (defScope s_is_at_least) .none kV_is_at_least dc_is_at_least pm_is_at_least an_is_at_least cd_is_at_least ct_is_at_least,
    F_is_at_least := F_is_at_least,
    B_is_at_least := F_is_at_least.binds (ps := ["value", "low"]) fun _ _ _ _ _ _ us hl => match us, hl with | [_, _], _ => rfl,
    g_is_at_least := PySem.W.mg_of X G a_is_at_least',
    a_require_count := a_require_count,
    fd_require_count := PySem.W.fnOf "require_count" "require_count" (defArgs s_require_count) (defBody s_require_count) (defScope s_require_count) .none kV_require_count dc_require_count pm_require_count an_require_count cd_require_count ct_require_count,
    F_require_count := F_require_count,
    B_require_count := F_require_count.binds (ps := ["count"]) fun _ _ _ _ _ _ us hl => match us, hl with | [_], _ => rfl,
    g_require_count := PySem.W.mg_of X G a_require_count',
    a_Finder_init_ := a_Finder_init_,
    fd_Finder_init_ := PySem.W.fnOf "__init__" "Finder.__init__" (defArgs s_Finder_init_) (defBody s_Finder_init_) (defScope s_Finder_init_) .none kV_Finder_init_ dc_Finder_init_ pm_Finder_init_ an_Finder_init_ cd_Finder_init_ ct_Finder_init_,
    F_Finder_init_ := F_Finder_init_,
    B_Finder_init_ := F_Finder_init_.binds (ps := ["self", "low", "high"]) fun _ _ _ _ _ _ us hl => match us, hl with | [_, _, _], _ => rfl,
    M_Finder := ⟨mk_Finder, a_Finder_init_', i_Finder_init_, kc_Finder⟩,
    a_Finder_trial := a_Finder_trial,
    fd_Finder_trial := PySem.W.fnOf "trial" "Finder.trial" (defArgs s_Finder_trial) (defBody s_Finder_trial) (defScope s_Finder_trial) .none kV_Finder_trial dc_Finder_trial pm_Finder_trial an_Finder_trial cd_Finder_trial ct_Finder_trial,
    F_Finder_trial := F_Finder_trial,
    B_Finder_trial := F_Finder_trial.binds (ps := ["self"]) fun _ _ _ _ _ _ us hl => match us, hl with | [_], _ => rfl,
    m_Finder_trial := ⟨a_Finder_trial', i_Finder_trial, k_Finder_trial⟩,
    a_Finder_passed := a_Finder_passed,
    fd_Finder_passed := PySem.W.fnOf "passed" "Finder.passed" (defArgs s_Finder_passed) (defBody s_Finder_passed) (defScope s_Finder_passed) .none kV_Finder_passed dc_Finder_passed pm_Finder_passed an_Finder_passed cd_Finder_passed ct_Finder_passed,
    F_Finder_passed := F_Finder_passed,
    B_Finder_passed := F_Finder_passed.binds (ps := ["self", "count"]) fun _ _ _ _ _ _ us hl => match us, hl with | [_, _], _ => rfl,
    m_Finder_passed := ⟨a_Finder_passed', i_Finder_passed, k_Finder_passed⟩,
    a_Finder_failed := a_Finder_failed,
    fd_Finder_failed := PySem.W.fnOf "failed" "Finder.failed" (defArgs s_Finder_failed) (defBody s_Finder_failed) (defScope s_Finder_failed) .none kV_Finder_failed dc_Finder_failed pm_Finder_failed an_Finder_failed cd_Finder_failed ct_Finder_failed,
    F_Finder_failed := F_Finder_failed,
    B_Finder_failed := F_Finder_failed.binds (ps := ["self", "count"]) fun _ _ _ _ _ _ us hl => match us, hl with | [_, _], _ => rfl,
    m_Finder_failed := ⟨a_Finder_failed', i_Finder_failed, k_Finder_failed⟩,
    a_Finder_copied := a_Finder_copied,
    fd_Finder_copied := PySem.W.fnOf "copied" "Finder.copied" (defArgs s_Finder_copied) (defBody s_Finder_copied) (defScope s_Finder_copied) .none kV_Finder_copied dc_Finder_copied pm_Finder_copied an_Finder_copied cd_Finder_copied ct_Finder_copied,
    F_Finder_copied := F_Finder_copied,
    B_Finder_copied := F_Finder_copied.binds (ps := ["self"]) fun _ _ _ _ _ _ us hl => match us, hl with | [_], _ => rfl,
    m_Finder_copied := ⟨a_Finder_copied', i_Finder_copied, k_Finder_copied⟩,
    a__law_whole := a__law_whole,
    fd__law_whole := PySem.W.fnOf "_law_whole" "_law_whole" (defArgs s__law_whole) (defBody s__law_whole) (defScope s__law_whole) .none kV__law_whole dc__law_whole pm__law_whole an__law_whole cd__law_whole ct__law_whole,
    F__law_whole := F__law_whole,
    B__law_whole := F__law_whole.binds (ps := ["value"]) fun _ _ _ _ _ _ us hl => match us, hl with | [_], _ => rfl,
    g__law_whole := PySem.W.mg_of X G a__law_whole',
    a__law_bag := a__law_bag,
    fd__law_bag := PySem.W.fnOf "_law_bag" "_law_bag" (defArgs s__law_bag) (defBody s__law_bag) (defScope s__law_bag) .none kV__law_bag dc__law_bag pm__law_bag an__law_bag cd__law_bag ct__law_bag,
    F__law_bag := F__law_bag,
    B__law_bag := F__law_bag.binds (ps := ["script"]) fun _ _ _ _ _ _ us hl => match us, hl with | [_], _ => rfl,
    g__law_bag := PySem.W.mg_of X G a__law_bag',
    a__law_take := a__law_take,
    fd__law_take := PySem.W.fnOf "_law_take" "_law_take" (defArgs s__law_take) (defBody s__law_take) (defScope s__law_take) .none kV__law_take dc__law_take pm__law_take an__law_take cd__law_take ct__law_take,
    F__law_take := F__law_take,
    B__law_take := F__law_take.binds (ps := ["bag", "many"]) fun _ _ _ _ _ _ us hl => match us, hl with | [_, _], _ => rfl,
    g__law_take := PySem.W.mg_of X G a__law_take',
    a__law_lesser := a__law_lesser,
    fd__law_lesser := PySem.W.fnOf "_law_lesser" "_law_lesser" (defArgs s__law_lesser) (defBody s__law_lesser) (defScope s__law_lesser) .none kV__law_lesser dc__law_lesser pm__law_lesser an__law_lesser cd__law_lesser ct__law_lesser,
    F__law_lesser := F__law_lesser,
    B__law_lesser := F__law_lesser.binds (ps := ["one", "two"]) fun _ _ _ _ _ _ us hl => match us, hl with | [_, _], _ => rfl,
    g__law_lesser := PySem.W.mg_of X G a__law_lesser',
    a__law_greater := a__law_greater,
    fd__law_greater := PySem.W.fnOf "_law_greater" "_law_greater" (defArgs s__law_greater) (defBody s__law_greater) (defScope s__law_greater) .none kV__law_greater dc__law_greater pm__law_greater an__law_greater cd__law_greater ct__law_greater,
    F__law_greater := F__law_greater,
    B__law_greater := F__law_greater.binds (ps := ["one", "two"]) fun _ _ _ _ _ _ us hl => match us, hl with | [_, _], _ => rfl,
    g__law_greater := PySem.W.mg_of X G a__law_greater',
    a__law_bounds := a__law_bounds,
    fd__law_bounds := PySem.W.fnOf "_law_bounds" "_law_bounds" (defArgs s__law_bounds) (defBody s__law_bounds) (defScope s__law_bounds) .none kV__law_bounds dc__law_bounds pm__law_bounds an__law_bounds cd__law_bounds ct__law_bounds,
    F__law_bounds := F__law_bounds,
    B__law_bounds := F__law_bounds.binds (ps := ["bag"]) fun _ _ _ _ _ _ us hl => match us, hl with | [_], _ => rfl,
    g__law_bounds := PySem.W.mg_of X G a__law_bounds',
    a__law_far := a__law_far,
    fd__law_far := PySem.W.fnOf "_law_far" "_law_far" (defArgs s__law_far) (defBody s__law_far) (defScope s__law_far) .none kV__law_far dc__law_far pm__law_far an__law_far cd__law_far ct__law_far,
    F__law_far := F__law_far,
    B__law_far := F__law_far.binds (ps := ["bag"]) fun _ _ _ _ _ _ us hl => match us, hl with | [_], _ => rfl,
    g__law_far := PySem.W.mg_of X G a__law_far',
    a__law_odd := a__law_odd,
    fd__law_odd := PySem.W.fnOf "_law_odd" "_law_odd" (defArgs s__law_odd) (defBody s__law_odd) (defScope s__law_odd) .none kV__law_odd dc__law_odd pm__law_odd an__law_odd cd__law_odd ct__law_odd,
    F__law_odd := F__law_odd,
    B__law_odd := F__law_odd.binds (ps := ["bag"]) fun _ _ _ _ _ _ us hl => match us, hl with | [_], _ => rfl,
    g__law_odd := PySem.W.mg_of X G a__law_odd',
    a__law_same := a__law_same,
    fd__law_same := PySem.W.fnOf "_law_same" "_law_same" (defArgs s__law_same) (defBody s__law_same) (defScope s__law_same) .none kV__law_same dc__law_same pm__law_same an__law_same cd__law_same ct__law_same,
    F__law_same := F__law_same,
    B__law_same := F__law_same.binds (ps := ["told", "due"]) fun _ _ _ _ _ _ us hl => match us, hl with | [_, _], _ => rfl,
    g__law_same := PySem.W.mg_of X G a__law_same',
    a__law_made := a__law_made,
    fd__law_made := PySem.W.fnOf "_law_made" "_law_made" (defArgs s__law_made) (defBody s__law_made) (defScope s__law_made) .none kV__law_made dc__law_made pm__law_made an__law_made cd__law_made ct__law_made,
    F__law_made := F__law_made,
    B__law_made := F__law_made.binds (ps := ["low_bound", "high_bound"]) fun _ _ _ _ _ _ us hl => match us, hl with | [_, _], _ => rfl,
    g__law_made := PySem.W.mg_of X G a__law_made',
    a__law_call := a__law_call,
    fd__law_call := PySem.W.fnOf "_law_call" "_law_call" (defArgs s__law_call) (defBody s__law_call) (defScope s__law_call) .none kV__law_call dc__law_call pm__law_call an__law_call cd__law_call ct__law_call,
    F__law_call := F__law_call,
    B__law_call := F__law_call.binds (ps := ["finder", "deed", "value"]) fun _ _ _ _ _ _ us hl => match us, hl with | [_, _, _], _ => rfl,
    g__law_call := PySem.W.mg_of X G a__law_call',
    a__law_bent := a__law_bent,
    fd__law_bent := PySem.W.fnOf "_law_bent" "_law_bent" (defArgs s__law_bent) (defBody s__law_bent) (defScope s__law_bent) .none kV__law_bent dc__law_bent pm__law_bent an__law_bent cd__law_bent ct__law_bent,
    F__law_bent := F__law_bent,
    B__law_bent := F__law_bent.binds (ps := ["bag", "way"]) fun _ _ _ _ _ _ us hl => match us, hl with | [_, _], _ => rfl,
    g__law_bent := PySem.W.mg_of X G a__law_bent',
    a__law_new := a__law_new,
    fd__law_new := PySem.W.fnOf "_law_new" "_law_new" (defArgs s__law_new) (defBody s__law_new) (defScope s__law_new) .none kV__law_new dc__law_new pm__law_new an__law_new cd__law_new ct__law_new,
    F__law_new := F__law_new,
    B__law_new := F__law_new.binds (ps := ["bag", "way"]) fun _ _ _ _ _ _ us hl => match us, hl with | [_, _], _ => rfl,
    g__law_new := PySem.W.mg_of X G a__law_new',
    a__law_aim := a__law_aim,
    fd__law_aim := PySem.W.fnOf "_law_aim" "_law_aim" (defArgs s__law_aim) (defBody s__law_aim) (defScope s__law_aim) .none kV__law_aim dc__law_aim pm__law_aim an__law_aim cd__law_aim ct__law_aim,
    F__law_aim := F__law_aim,
    B__law_aim := F__law_aim.binds (ps := ["row"]) fun _ _ _ _ _ _ us hl => match us, hl with | [_], _ => rfl,
    g__law_aim := PySem.W.mg_of X G a__law_aim',
    a__law_enter := a__law_enter,
    fd__law_enter := PySem.W.fnOf "_law_enter" "_law_enter" (defArgs s__law_enter) (defBody s__law_enter) (defScope s__law_enter) .none kV__law_enter dc__law_enter pm__law_enter an__law_enter cd__law_enter ct__law_enter,
    F__law_enter := F__law_enter,
    B__law_enter := F__law_enter.binds (ps := ["row", "deed", "value"]) fun _ _ _ _ _ _ us hl => match us, hl with | [_, _, _], _ => rfl,
    g__law_enter := PySem.W.mg_of X G a__law_enter',
    a__law_value := a__law_value,
    fd__law_value := PySem.W.fnOf "_law_value" "_law_value" (defArgs s__law_value) (defBody s__law_value) (defScope s__law_value) .none kV__law_value dc__law_value pm__law_value an__law_value cd__law_value ct__law_value,
    F__law_value := F__law_value,
    B__law_value := F__law_value.binds (ps := ["bag", "row"]) fun _ _ _ _ _ _ us hl => match us, hl with | [_, _], _ => rfl,
    g__law_value := PySem.W.mg_of X G a__law_value',
    a__law_refuses := a__law_refuses,
    fd__law_refuses := PySem.W.fnOf "_law_refuses" "_law_refuses" (defArgs s__law_refuses) (defBody s__law_refuses) (defScope s__law_refuses) .none kV__law_refuses dc__law_refuses pm__law_refuses an__law_refuses cd__law_refuses ct__law_refuses,
    F__law_refuses := F__law_refuses,
    B__law_refuses := F__law_refuses.binds (ps := ["bag", "finder"]) fun _ _ _ _ _ _ us hl => match us, hl with | [_, _], _ => rfl,
    g__law_refuses := PySem.W.mg_of X G a__law_refuses',
    a__law_agrees := a__law_agrees,
    fd__law_agrees := PySem.W.fnOf "_law_agrees" "_law_agrees" (defArgs s__law_agrees) (defBody s__law_agrees) (defScope s__law_agrees) .none kV__law_agrees dc__law_agrees pm__law_agrees an__law_agrees cd__law_agrees ct__law_agrees,
    F__law_agrees := F__law_agrees,
    B__law_agrees := F__law_agrees.binds (ps := ["finder", "row"]) fun _ _ _ _ _ _ us hl => match us, hl with | [_, _], _ => rfl,
    g__law_agrees := PySem.W.mg_of X G a__law_agrees',
    a_law := a_law,
    fd_law := PySem.W.fnOf "law" "law" (defArgs s_law) (defBody s_law) (defScope s_law) .none kV_law dc_law pm_law an_law cd_law ct_law,
    F_law := F_law,
    B_law := F_law.binds (ps := ["script"]) fun _ _ _ _ _ _ us hl => match us, hl with | [_], _ => rfl,
    g_law := PySem.W.mg_of X G a_law',
    Kv_InvalidNumber := Kv_InvalidNumber,
    Kv_InvalidSetting := Kv_InvalidSetting,
    b_ValueError := PySem.W.mg_none_of X G z_ValueError,
    b_abs := PySem.W.mg_none_of X G z_abs,
    b_all := PySem.W.mg_none_of X G z_all,
    b_bool := PySem.W.mg_none_of X G z_bool,
    b_int := PySem.W.mg_none_of X G z_int,
    b_isinstance := PySem.W.mg_none_of X G z_isinstance,
    b_len := PySem.W.mg_none_of X G z_len,
    b_min := PySem.W.mg_none_of X G z_min,
    b_range := PySem.W.mg_none_of X G z_range,
    b_str := PySem.W.mg_none_of X G z_str,
    b_sum := PySem.W.mg_none_of X G z_sum,
    u_MOST_BYTES := u_MOST_BYTES,
    g_MOST_BYTES := PySem.W.mg_of X G q_MOST_BYTES,
    r_MOST_BYTES := w_MOST_BYTES,
    u_MOST_STRIKES := u_MOST_STRIKES,
    g_MOST_STRIKES := PySem.W.mg_of X G q_MOST_STRIKES,
    r_MOST_STRIKES := w_MOST_STRIKES }
  exact ⟨T.fd_law, fun s v => .of_eq rfl, fun base _ _ => ok_law (P := l.prog) (w := w) (base := base) T⟩
theorem walk {l : PySem.W.OpenLaw} {q : Program} {loose : List Str} {XP : (Str → Option Value) → Heap → Prop} {YP : World → Heap → Prop} {d : DefRec} {K : Params → PySem.W.Frag} (hn : l.most = some 63) (hdf : d.params.defaults = [])
    (hY : ∀ (w : World) (h : Heap), YP w h → (K w.params).In h)
    (F : ∀ (w : World) (mg : Str → Option Value) (fa : Addr) (h : Heap), (K w.params).In h → h.Ns mainGlobals mg → mg d.name = some (.ref fa) →
      ∃ fd : FuncData, (∀ (s : Shared) (u : Value), BindsTo s fd ⟨[u], []⟩ [("script", u)]) ∧ ∀ base : Heap, (K w.params).In base → base.Ns mainGlobals mg → FnOk l.prog w (K w.params) mg base CX0 7 fa fd ["script"] (sp_law (K w.params))) :
    PySem.W.WalkO q loose XP YP l.row.toRowW d [] (fun f vs => PySem.call f vs) :=
  L2.walk_of (CX := fun _ => CX0) (n := 63) (k := 7) (x := "script") (sp := fun w => sp_law (K w.params)) hn (by decide) hdf ⟨rfl, by decide, by decide⟩ hY F (fun _ _ a ns hl _ hS => ⟨a, ns, rfl, hS, hl, fun _ => rfl⟩) fun _ _ _ _ _ z => z
end My

open PySem PySem.W PyProof.Rows in
set_option maxRecDepth 100000 in
set_option maxHeartbeats 0 in
theorem PySem.Challenge.cw_lossway_k18_finder_steps_holds : PySem.Challenge.rw_lossway_k18_finder_steps.Holds := by
  w_on; o_law; k_head; (case hw => w_witness2)
  k_fill
  refine My.walk (l := PySem.Challenge.rw_lossway_k18_finder_steps) rfl rfl (fun w h Y => PySem.W.kIn_of Y) ?F
  case F =>
    intro w mg fa h KX G hmg
    refine' My.all_mk KX G hmg ?aC_Finder ?pg_Finder ?hd_Finder ?po_Finder ?sa_Finder ?mk_Finder ?kc_Finder ?n_Finder_size ?n_Finder_ceiling ?n_Finder_strikes ?aC_LossError ?aC_InvalidNumber ?xl_InvalidNumber ?sa_InvalidNumber ?xx_InvalidNumber ?xt_InvalidNumber ?xk_InvalidNumber ?xi_InvalidNumber ?xg_InvalidNumber ?xh_InvalidNumber ?xy_InvalidNumber ?xc_InvalidNumber ?xr_InvalidNumber ?nX_InvalidNumber ?aC_InvalidSetting ?xl_InvalidSetting ?sa_InvalidSetting ?xx_InvalidSetting ?xt_InvalidSetting ?xk_InvalidSetting ?xi_InvalidSetting ?xg_InvalidSetting ?xh_InvalidSetting ?xy_InvalidSetting ?xc_InvalidSetting ?xr_InvalidSetting ?nX_InvalidSetting ?x_get ?x_tk ?Me_InvalidNumber_LossError ?Me_InvalidSetting_LossError ?Kt_InvalidNumber_InvalidNumber ?Kt_InvalidNumber_InvalidSetting ?Kt_InvalidSetting_InvalidNumber ?Kt_InvalidSetting_InvalidSetting ?xf_InvalidNumber_init_ ?l_InvalidNumber_init_ ?e_InvalidNumber_init_ ?k_InvalidNumber_init_ ?xf_InvalidSetting_init_ ?l_InvalidSetting_init_ ?e_InvalidSetting_init_ ?k_InvalidSetting_init_ ?a_is_integer_ ?l_is_integer ?e_is_integer ?k_is_integer ?a_is_between_ ?l_is_between ?e_is_between ?k_is_between ?a_is_at_least_ ?l_is_at_least ?e_is_at_least ?k_is_at_least ?a_require_count_ ?l_require_count ?e_require_count ?k_require_count ?a_Finder_init__ ?i_Finder_init_ ?l_Finder_init_ ?e_Finder_init_ ?k_Finder_init_ ?a_Finder_trial_ ?i_Finder_trial ?l_Finder_trial ?e_Finder_trial ?k_Finder_trial ?a_Finder_passed_ ?i_Finder_passed ?l_Finder_passed ?e_Finder_passed ?k_Finder_passed ?a_Finder_failed_ ?i_Finder_failed ?l_Finder_failed ?e_Finder_failed ?k_Finder_failed ?a_Finder_copied_ ?i_Finder_copied ?l_Finder_copied ?e_Finder_copied ?k_Finder_copied ?a__law_whole_ ?l__law_whole ?e__law_whole ?k__law_whole ?a__law_bag_ ?l__law_bag ?e__law_bag ?k__law_bag ?a__law_take_ ?l__law_take ?e__law_take ?k__law_take ?a__law_lesser_ ?l__law_lesser ?e__law_lesser ?k__law_lesser ?a__law_greater_ ?l__law_greater ?e__law_greater ?k__law_greater ?a__law_bounds_ ?l__law_bounds ?e__law_bounds ?k__law_bounds ?a__law_far_ ?l__law_far ?e__law_far ?k__law_far ?a__law_odd_ ?l__law_odd ?e__law_odd ?k__law_odd ?a__law_same_ ?l__law_same ?e__law_same ?k__law_same ?a__law_made_ ?l__law_made ?e__law_made ?k__law_made ?a__law_call_ ?l__law_call ?e__law_call ?k__law_call ?a__law_bent_ ?l__law_bent ?e__law_bent ?k__law_bent ?a__law_new_ ?l__law_new ?e__law_new ?k__law_new ?a__law_aim_ ?l__law_aim ?e__law_aim ?k__law_aim ?a__law_enter_ ?l__law_enter ?e__law_enter ?k__law_enter ?a__law_value_ ?l__law_value ?e__law_value ?k__law_value ?a__law_refuses_ ?l__law_refuses ?e__law_refuses ?k__law_refuses ?a__law_agrees_ ?l__law_agrees ?e__law_agrees ?k__law_agrees ?a_law_ ?l_law ?e_law ?k_law ?Kv_InvalidNumber ?Kv_InvalidSetting ?z_ValueError ?z_abs ?z_all ?z_bool ?z_int ?z_isinstance ?z_len ?z_min ?z_range ?z_str ?z_sum ?q_MOST_BYTES ?q_MOST_STRIKES ?xm__InvalidNumber ?xm__InvalidSetting ?w_MOST_BYTES ?w_MOST_STRIKES
    (case aC_Finder => k_is)
    (case pg_Finder => k_is)
    (case hd_Finder => k_is)
    (case po_Finder => k_is)
    (case sa_Finder => k_is)
    (case mk_Finder => k_is)
    (case kc_Finder => k_is)
    (case n_Finder_size => k_is)
    (case n_Finder_ceiling => k_is)
    (case n_Finder_strikes => k_is)
    (case aC_LossError => k_is)
    (case aC_InvalidNumber => k_is)
    (case xl_InvalidNumber => k_is)
    (case sa_InvalidNumber => k_is)
    (case xx_InvalidNumber => k_is)
    (case xt_InvalidNumber => k_is)
    (case xk_InvalidNumber => k_is)
    (case xi_InvalidNumber => k_is)
    (case xg_InvalidNumber => k_is)
    (case xh_InvalidNumber => k_is)
    (case xy_InvalidNumber => k_is)
    (case xc_InvalidNumber => k_is)
    (case xr_InvalidNumber => k_is)
    (case nX_InvalidNumber => k_is)
    (case aC_InvalidSetting => k_is)
    (case xl_InvalidSetting => k_is)
    (case sa_InvalidSetting => k_is)
    (case xx_InvalidSetting => k_is)
    (case xt_InvalidSetting => k_is)
    (case xk_InvalidSetting => k_is)
    (case xi_InvalidSetting => k_is)
    (case xg_InvalidSetting => k_is)
    (case xh_InvalidSetting => k_is)
    (case xy_InvalidSetting => k_is)
    (case xc_InvalidSetting => k_is)
    (case xr_InvalidSetting => k_is)
    (case nX_InvalidSetting => k_is)
    (case x_get => k_is)
    (case x_tk => k_is)
    (case Me_InvalidNumber_LossError => kts_exm)
    (case Me_InvalidSetting_LossError => kts_exm)
    (case Kt_InvalidNumber_InvalidNumber => kit_is)
    (case Kt_InvalidNumber_InvalidSetting => kit_is)
    (case Kt_InvalidSetting_InvalidNumber => kit_is)
    (case Kt_InvalidSetting_InvalidSetting => kit_is)
    (case xf_InvalidNumber_init_ => k_is)
    (case l_InvalidNumber_init_ => k_is)
    (case e_InvalidNumber_init_ => k_is)
    (case k_InvalidNumber_init_ => k_is)
    (case xf_InvalidSetting_init_ => k_is)
    (case l_InvalidSetting_init_ => k_is)
    (case e_InvalidSetting_init_ => k_is)
    (case k_InvalidSetting_init_ => k_is)
    (case a_is_integer_ => k_is)
    (case l_is_integer => k_is)
    (case e_is_integer => k_is)
    (case k_is_integer => k_is)
    (case a_is_between_ => k_is)
    (case l_is_between => k_is)
    (case e_is_between => k_is)
    (case k_is_between => k_is)
    (case a_is_at_least_ => k_is)
    (case l_is_at_least => k_is)
    (case e_is_at_least => k_is)
    (case k_is_at_least => k_is)
    (case a_require_count_ => k_is)
    (case l_require_count => k_is)
    (case e_require_count => k_is)
    (case k_require_count => k_is)
    (case a_Finder_init__ => k_is)
    (case i_Finder_init_ => k_is)
    (case l_Finder_init_ => k_is)
    (case e_Finder_init_ => k_is)
    (case k_Finder_init_ => k_is)
    (case a_Finder_trial_ => k_is)
    (case i_Finder_trial => k_is)
    (case l_Finder_trial => k_is)
    (case e_Finder_trial => k_is)
    (case k_Finder_trial => k_is)
    (case a_Finder_passed_ => k_is)
    (case i_Finder_passed => k_is)
    (case l_Finder_passed => k_is)
    (case e_Finder_passed => k_is)
    (case k_Finder_passed => k_is)
    (case a_Finder_failed_ => k_is)
    (case i_Finder_failed => k_is)
    (case l_Finder_failed => k_is)
    (case e_Finder_failed => k_is)
    (case k_Finder_failed => k_is)
    (case a_Finder_copied_ => k_is)
    (case i_Finder_copied => k_is)
    (case l_Finder_copied => k_is)
    (case e_Finder_copied => k_is)
    (case k_Finder_copied => k_is)
    (case a__law_whole_ => k_is)
    (case l__law_whole => k_is)
    (case e__law_whole => k_is)
    (case k__law_whole => k_is)
    (case a__law_bag_ => k_is)
    (case l__law_bag => k_is)
    (case e__law_bag => k_is)
    (case k__law_bag => k_is)
    (case a__law_take_ => k_is)
    (case l__law_take => k_is)
    (case e__law_take => k_is)
    (case k__law_take => k_is)
    (case a__law_lesser_ => k_is)
    (case l__law_lesser => k_is)
    (case e__law_lesser => k_is)
    (case k__law_lesser => k_is)
    (case a__law_greater_ => k_is)
    (case l__law_greater => k_is)
    (case e__law_greater => k_is)
    (case k__law_greater => k_is)
    (case a__law_bounds_ => k_is)
    (case l__law_bounds => k_is)
    (case e__law_bounds => k_is)
    (case k__law_bounds => k_is)
    (case a__law_far_ => k_is)
    (case l__law_far => k_is)
    (case e__law_far => k_is)
    (case k__law_far => k_is)
    (case a__law_odd_ => k_is)
    (case l__law_odd => k_is)
    (case e__law_odd => k_is)
    (case k__law_odd => k_is)
    (case a__law_same_ => k_is)
    (case l__law_same => k_is)
    (case e__law_same => k_is)
    (case k__law_same => k_is)
    (case a__law_made_ => k_is)
    (case l__law_made => k_is)
    (case e__law_made => k_is)
    (case k__law_made => k_is)
    (case a__law_call_ => k_is)
    (case l__law_call => k_is)
    (case e__law_call => k_is)
    (case k__law_call => k_is)
    (case a__law_bent_ => k_is)
    (case l__law_bent => k_is)
    (case e__law_bent => k_is)
    (case k__law_bent => k_is)
    (case a__law_new_ => k_is)
    (case l__law_new => k_is)
    (case e__law_new => k_is)
    (case k__law_new => k_is)
    (case a__law_aim_ => k_is)
    (case l__law_aim => k_is)
    (case e__law_aim => k_is)
    (case k__law_aim => k_is)
    (case a__law_enter_ => k_is)
    (case l__law_enter => k_is)
    (case e__law_enter => k_is)
    (case k__law_enter => k_is)
    (case a__law_value_ => k_is)
    (case l__law_value => k_is)
    (case e__law_value => k_is)
    (case k__law_value => k_is)
    (case a__law_refuses_ => k_is)
    (case l__law_refuses => k_is)
    (case e__law_refuses => k_is)
    (case k__law_refuses => k_is)
    (case a__law_agrees_ => k_is)
    (case l__law_agrees => k_is)
    (case e__law_agrees => k_is)
    (case k__law_agrees => k_is)
    (case a_law_ => k_is)
    (case l_law => k_is)
    (case e_law => k_is)
    (case k_law => k_is)
    (case Kv_InvalidNumber => kit_is)
    (case Kv_InvalidSetting => kit_is)
    (case z_ValueError => k_is)
    (case z_abs => k_is)
    (case z_all => k_is)
    (case z_bool => k_is)
    (case z_int => k_is)
    (case z_isinstance => k_is)
    (case z_len => k_is)
    (case z_min => k_is)
    (case z_range => k_is)
    (case z_str => k_is)
    (case z_sum => k_is)
    (case q_MOST_BYTES => k_is)
    (case q_MOST_STRIKES => k_is)
    (case xm__InvalidNumber => decide +kernel)
    (case xm__InvalidSetting => decide +kernel)
    (case w_MOST_BYTES => exact ⟨_, rfl⟩)
    (case w_MOST_STRIKES => exact ⟨_, rfl⟩)
