import PyProof.Rows.All
import Wide.All
import OpenK.AllK
import Wide.FinOn
import HandS.ForMost
import HandS.IsInst
import HandS.ClsMeth
import HandS.Codes
import HandS.Exc
import HandS.ExcOwn
import HandS.ExcInit
import HandS.ExcField
import HandS.ExcIs
import HandS.TryMany
import HandS.WordsExc
import HandS.CallSlots
import HandS.More
import KE.KExcIs
import KE.GoesEnum
import KE.GoesMore
import HandS.Defaults
import HandS.Property
import HandS.Zip
import HandS.Text
import HandS.Wide
import HandS.Star
import HandS.SortRule
import HandS.SortInts
import HandS.Flow
import HandS.More
import PySem.Challenge.RW_lossway_k09_spans_operators
set_option Elab.async false
set_option maxRecDepth 100000
namespace My
open PySem L2
set_option linter.all false

/-! ### an own `in` -/
section
variable {X : Cx} {CX : CXT} {k : Nat} {C g : Addr} {fd : FuncData} {ps : List Str} {sp : Sp} {E : XK}
def rOwnIn (C : Addr) (m : Bool → Bool) (sp : Sp) (E : XK) : R2 := fun x y H Q => ∃ a dx fs, y = .ref a ∧ H a = some (.ins C dx fs) ∧ sp [.ref a, x] H (fun v H' => ∃ b, v = .bl b ∧ Q (.bl (m b)) H') E
theorem op_notInOwn (mm : Meth X.K C "__contains__" g) (F : FnOk X.prog X.w X.K X.mg X.base CX k g fd ps sp) (hr : Room k X.A) (hb : Binds X.K fd ps []) (hx : Passes CX X E) : OpR X (compareOp .NotIn) (rOwnIn C not sp E) := by
  intro pins s σ H x y v u Q I rx ry h
  obtain ⟨a, dx, fs, rfl, ha, q⟩ := h
  cases (show u = Value.ref a from ry)
  obtain ⟨mA, O, _⟩ := ins_get I.hok ha
  obtain ⟨od, J, _⟩ := O.look
  obtain ⟨m, hF⟩ := I.fr
  refine PySem.W.notIn_K hF I.ok.mod.kin J mm.at_ mm.fn ?_
  refine wpAny_mono (run_fn (us := [.ref a, v]) (vs := [.ref a, x]) (ds := []) (dvs := []) F hr hb .nil hx I (.cons rfl (.cons rx .nil)) q) (fun w s' z => ?_) fun _ _ x => x
  obtain ⟨z', H', I', rz, b, eb, qz⟩ := z
  subst eb
  cases (show w = Value.bool b from rz)
  exact wpAny_truthy_bool ⟨.bl (!b), H', I', rfl, qz⟩
theorem op_inOwn (mm : Meth X.K C "__contains__" g) (F : FnOk X.prog X.w X.K X.mg X.base CX k g fd ps sp) (hr : Room k X.A) (hb : Binds X.K fd ps []) (hx : Passes CX X E) : OpR X (compareOp .In) (rOwnIn C id sp E) := by
  intro pins s σ H x y v u Q I rx ry h
  obtain ⟨a, dx, fs, rfl, ha, q⟩ := h
  cases (show u = Value.ref a from ry)
  obtain ⟨mA, O, _⟩ := ins_get I.hok ha
  obtain ⟨od, J, _⟩ := O.look
  obtain ⟨m, hF⟩ := I.fr
  refine PySem.W.in_K hF I.ok.mod.kin J mm.at_ mm.fn ?_
  refine wpAny_mono (run_fn (us := [.ref a, v]) (vs := [.ref a, x]) (ds := []) (dvs := []) F hr hb .nil hx I (.cons rfl (.cons rx .nil)) q) (fun w s' z => ?_) fun _ _ x => x
  obtain ⟨z', H', I', rz, b, eb, qz⟩ := z
  subst eb
  cases (show w = Value.bool b from rz)
  exact wpAny_truthy_bool ⟨.bl b, H', I', rfl, qz⟩
end

/-! ### heaps -/
/-- all that was tracked stands, but what is at a -/
def SameX (a : Addr) (H H' : Hp) : Prop := ∀ b o, b ≠ a → H b = some o → H' b = some o
theorem SameX.refl {a : Addr} {H : Hp} : SameX a H H := fun _ _ _ h => h
theorem SameX.trans {a : Addr} {H H1 H2 : Hp} (x : SameX a H H1) (y : SameX a H1 H2) : SameX a H H2 := fun b o n h => y b o n (x b o n h)
theorem SameX.upd {a : Addr} {H : Hp} {o : HO} : SameX a H (L2.upd H a o) := fun b _ n h => by
  rw [upd_ne n]
  exact h
theorem SameX.upd' {a : Addr} {H H1 : Hp} {o : HO} (x : SameX a H H1) : SameX a H (L2.upd H1 a o) := x.trans .upd
theorem SameX.of {a : Addr} {H H1 : Hp} (x : Same H H1) : SameX a H H1 := fun b o _ h => x b o h
theorem Same.new {H : Hp} {p : Addr} {o : HO} (h : H p = none) : Same H (upd H p o) := fun b u e => by
  rw [upd_ne (ne_of_none e h)]
  exact e
theorem SqL.now {K : PySem.W.Frag} {H : Hp} {a : Addr} {xs : List V} (h : H a = some (.lst xs)) : SqL K H a xs := SqL.of h

/-! ### the purse -/
/-- a purse's rows -/
def pur (c : Addr) (p r n s : Int) : List V := [.ref c, .int p, .int r, .int n, .int s]
structure Purse (a c : Addr) (H : Hp) : Prop where
  ex : ∃ (cs : List Int) (p : Nat) (r n s : Int), H a = some (.lst (pur c p r n s)) ∧ H c = some (.lst (cs.map V.int)) ∧ (∀ x ∈ cs, 0 ≤ x) ∧ p ≤ cs.length ∧ cs.length ≤ 63 ∧ 0 ≤ r ∧ 0 ≤ s ∧ s < 2147483647
theorem pur_ne {H : Hp} {a c c' : Addr} {p r n s : Int} {cs : List Int} (h : H a = some (.lst (pur c p r n s))) (h' : H c' = some (.lst (cs.map V.int))) : c' ≠ a := ne_of h' h (by
  intro e
  injection e with e
  cases cs with
  | nil => cases e
  | cons x r => injection e with e1 _; cases e1)
theorem lk1 {m f : Str} {v : V} (h : (m == f) = false) : List.lookup m [(f, v)] = none := by
  simp only [List.lookup, h]
theorem bl_t {p : Prop} [Decidable p] (h : p) : V.bl (decide p) = V.bl true := congrArg V.bl (decide_eq_true h)
theorem bl_f {p : Prop} [Decidable p] (h : ¬ p) : V.bl (decide p) = V.bl false := congrArg V.bl (decide_eq_false h)
theorem bln_t {p : Prop} [Decidable p] (h : p) : V.bl (!decide p) = V.bl false := by rw [decide_eq_true h]; rfl
theorem bln_f {p : Prop} [Decidable p] (h : ¬ p) : V.bl (!decide p) = V.bl true := by rw [decide_eq_false h]; rfl
theorem int_ne {a b : Int} (h : ¬ a = b) : ¬ V.int a = V.int b := fun e => h (V.int.inj e)
theorem int_eq {a b : Int} (h : a = b) : V.int a = V.int b := congrArg V.int h

theorem Purse.there {a c : Addr} {H : Hp} (P : Purse a c H) : (∃ xs, H a = some (.lst xs)) ∧ ∃ ys, H c = some (.lst ys) := by
  obtain ⟨cs, p, r, n, s, h1, h2, _⟩ := P.ex
  exact ⟨⟨_, h1⟩, _, h2⟩
/-- a purse stands where both of its lists stand -/
theorem Purse.keep {a c : Addr} {H H' : Hp} (P : Purse a c H) (h : H' a = H a) (h' : H' c = H c) : Purse a c H' := by
  obtain ⟨cs, p, r, n, s, h1, h2, q⟩ := P.ex
  exact ⟨cs, p, r, n, s, h.trans h1, h'.trans h2, q⟩
theorem Purse.same {a c : Addr} {H H' : Hp} (P : Purse a c H) (s : Same H H') : Purse a c H' := by
  obtain ⟨cs, p, r, n, z, h1, h2, q⟩ := P.ex
  exact ⟨cs, p, r, n, z, s _ _ h1, s _ _ h2, q⟩
theorem Purse.on {a c b : Addr} {H H' : Hp} (P : Purse a c H) (s : SameX b H H') (na : a ≠ b) (nc : c ≠ b) : Purse a c H' := by
  obtain ⟨cs, p, r, n, z, h1, h2, q⟩ := P.ex
  exact ⟨cs, p, r, n, z, s _ _ na h1, s _ _ nc h2, q⟩
theorem small1000' {n : Nat} (h : n < 100000) : n < sizeLine := Nat.lt_of_lt_of_le h (by decide)
theorem sqT_sm {K : PySem.W.Frag} {H H' : Hp} {a : Addr} {xs : List V} (h : SqT K H a xs) (s : Same H H') : SqT K H' a xs := by
  rcases h with (h | ⟨o, h⟩) | h
  · exact .inl (.inl (s _ _ h))
  · exact .inl (.inr ⟨o, s _ _ h⟩)
  · exact .inr h
/-! ### several except clauses, each with or without a name -/
section
open PySem.Spec PyProof.Rows
variable {X : Cx}
/-- a clause: its class, the slot of its name, its suite -/
abbrev Cl := Value × Option Nat × (Addr → Value → Option Addr → TS)
def unN (D : Ends) (i : Nat) : Ends := { nx := fun σ H => D.nx (σ.set i none) H, rt := D.rt, bk := fun σ H => D.bk (σ.set i none) H, ct := fun σ H => D.ct (σ.set i none) H }
def clGo (D : Ends) (o : Option Nat) (t : TS) (a : Addr) (σ : L2.St) (H : Hp) : Prop := match o with
  | none => t D σ H
  | some i => t (unN D i) (σ.set i (some (.ref a))) H
def wCl (K : PySem.W.Frag) (Wout : WX) (D : Ends) : List Cl → WX
  | [] => Wout
  | (c, o, ts) :: r => fun cls d σ H => ∃ b, PySem.W.exmOne K cls c = some b ∧ (b = true → ∀ a, H a = none → clGo D o (ts a cls d) a σ H) ∧ (b = false → wCl K Wout D r cls d σ H)
inductive ClOk (X : Cx) : List ExceptHandler → List Cl → Prop
  | nil : ClOk X [] []
  | bare {x : Str} {c : Value} {ts : Addr → Value → Option Addr → TS} {b0 : Stmt} {su : List Stmt} {np ps : Pos} {hs : List ExceptHandler} {l : List Cl} (nm : Names X x c)
      (ok : ∀ (a : Addr) (oe : Obj) (cls : Value) (d : Option Addr) (pn : List (Addr × Obj)), Zc cls d oe → (∃ vs, oe.data = .fields vs) → PSs (X.suite a ((a, oe) :: pn)) (b0 :: su) (ts a cls d)) (rest : ClOk X hs l) :
      ClOk X (.ExceptHandler (some (.Name x np)) none (b0 :: su) ps :: hs) ((c, none, ts) :: l)
  | named {x n : Str} {i : Nat} {c : Value} {ts : Addr → Value → Option Addr → TS} {b0 : Stmt} {su : List Stmt} {np ps : Pos} {hs : List ExceptHandler} {l : List Cl} (nd : X.N.Nodup) (hi : X.N[i]? = some n) (lc : X.env.kindOf n = some .local) (nm : Names X x c)
      (ok : ∀ (a : Addr) (oe : Obj) (cls : Value) (d : Option Addr) (pn : List (Addr × Obj)), Zc cls d oe → (∃ vs, oe.data = .fields vs) → PSs (X.suite a ((a, oe) :: pn)) (b0 :: su) (ts a cls d)) (rest : ClOk X hs l) :
      ClOk X (.ExceptHandler (some (.Name x np)) (some n) (b0 :: su) ps :: hs) ((c, some i, ts) :: l)
theorem ps_try_cl {body : List Stmt} {h0 : ExceptHandler} {hs : List ExceptHandler} {l : List Cl} {pos : Pos} {tb : WX → TS} {Wout : WX} (st : X.stack = X.env :: X.outer) (fr : X.env.frame = some X.env.locals) (tk : Takes X Wout)
    (hb : ∀ (W : WX) (pn : List (Addr × Obj)) (xe : Value → Shared → Prop), Takes (X.tr pn xe) W → PassesOwn (model X.prog X.w) X.A X.env xe → PSs (X.tr pn xe) body (tb W))
    (hh : ClOk X (h0 :: hs) l) : PS X (.Try body (h0 :: hs) [] [] pos) (fun D σ H => tb (wCl X.K Wout D l) D σ H) := by
  refine ⟨fun pins s σ H D I h => ?_⟩
  have ok := I.ok
  have frs0 : X.A.frames = some (X.env :: X.outer) := by
    rw [ok.frames, st]
  refine wpAny_Try_except (wpAny_mono ((hb (wCl X.K Wout D l) (X.pn ++ pins) (fun e t1 => wpAny (model X.prog X.w) X.A (noteFrame e X.env) (fun _ t2 =>
    wpAny (model X.prog X.w) X.A (setFlight e none) (fun _ t3 => wpAny (model X.prog X.w) X.A (handleBy e X.env (h0 :: hs)) (SP X pins D) X.xe t3) X.xe t2) X.xe t1)
      (fun u s' xx => ?_) PassesOwn.looking).run [] s σ H D (I.toTry _) h) (fun f s1 hsp => ?_) (fun _ _ z => z))
  · obtain ⟨a, B, sI, pins', σ', H', cls, d, rfl, J', nb, up, sky, na, os, ag, w⟩ := xx
    have J := J'.ofTry ok
    have sky2 : Sky B (X.env :: X.outer) a (Zc cls d) X.env.locals s'.heap := by
      rw [← st]
      exact sky
    refine Sky.land Zc.steady frs0 fr sky2 fun g1 fl1 up1 => ?_
    have J1 : Inv X pins σ' H' { s' with heap := g1 } := J.landed nb fl1.1 (up.trans up1) os ag
    obtain ⟨o1, vs1, at1, z1, dt1⟩ := fl1.there
    have off : a ∉ frs (X.env :: X.outer) := fun hm => by
      obtain ⟨_, o', e', hnf⟩ := fl1.2.2.1.mem hm
      rw [at1] at e'
      cases e'
      exact hnf _ dt1
    have offL : a ≠ X.env.locals := fun z => off (List.mem_filterMap.mpr ⟨X.env, List.mem_cons_self, by rw [fr, z]⟩)
    have offF : a ∉ X.fs := fun hm => by
      obtain ⟨e, he, q⟩ := List.mem_filterMap.mp hm
      exact off (List.mem_filterMap.mpr ⟨e, List.mem_cons_of_mem _ he, q⟩)
    have S1 := J1.suite at1 dt1 na offL offF
    have LT : PySem.W.Looks (model X.prog X.w) g1 (typeOf (.ref a)) cls := fun A Q E s k q => wpAny_typeOf_ref (k _ _ at1) (by rw [z1.1]; exact q)
    have ask : ∀ {x : Str} {np : Pos} {c : Value}, Names X x c → ∀ {Q : Value → Shared → Prop} {E : Value → Shared → Prop}, Q c { s' with heap := g1 } →
        wpAny (model X.prog X.w) (X.A.mark (some (.ref a))) (eval (.Name x np) X.env) Q E { s' with heap := g1 } := fun {x np c} nm {Q E} q => by
      obtain ⟨hg, hdb, h1 | ⟨h1, h2, h3⟩⟩ := nm
      · exact ld_glob (X := X.suite a ((a, o1) :: (X.pn ++ pins))) S1 hg h1 q hdb
      · exact ld_blt (X := X.suite a ((a, o1) :: (X.pn ++ pins))) S1 hg h1 h2 q h3 hdb
    have go : ∀ {hs' : List ExceptHandler} {l' : List Cl}, ClOk X hs' l' → wCl X.K Wout D l' cls d σ' H' → wpAny (model X.prog X.w) X.A (handleBy (.ref a) X.env hs') (SP X pins D) X.xe { s' with heap := g1 } := by
      intro hs' l' hk
      induction hk with
      | nil =>
        intro w
        refine wpAny_handleBy_nil ?_
        obtain ⟨_, _, _, oe, vs, Tr, _, _, he, hz, hd, h1, _⟩ := id fl1
        unfold PySem.passOn
        refine wpAny_bind (wpAny_field he hd h1 ?_)
        rw [if_neg (show ¬ ((Value.ref Tr == Value.none) = true) from by simp)]
        have last : wpAny (model X.prog X.w) X.A (setFlight (.ref a) X.env.frame) (fun _ t => wpAny (model X.prog X.w) X.A (throw (.ref a) : Sem Flow) (SP X pins D) X.xe t) X.xe { s' with heap := g1 } := by
          rw [fr]
          refine HandSPX.setFlight_upZ fl1 fun g2 hh2 up2 => wpAny_throw (tk _ _ ?_)
          exact ⟨a, B, sI, pins, σ', H', cls, d, rfl, J, nb, (up.trans up1).trans up2, .inr (.inr (by rw [st]; exact hh2)), na, os, ag, w⟩
        first
          | exact wpAny_bind (wpAny_pure (wpAny_bind last))
          | exact wpAny_bind last
      | bare nm su rest ih =>
        intro w
        obtain ⟨b, hb1, yes, no⟩ := w
        have LM := PySem.W.exm_one (M := model X.prog X.w) J1.kIn LT hb1
        refine wpAny_handleBy_cons (codeAny_handlers_test (ask nm (LM.here ?_))) (fun q => by cases q)
        cases b with
        | false => exact ih (no rfl)
        | true =>
          refine codeAny_handlers_suite (HandSPX.lands_againZ fl1 fun g2 fl2 up2 => ?_)
          have J2 : Inv X pins σ' H' { s' with heap := g2 } := J.landed nb fl2.1 ((up.trans up1).trans up2) os ag
          obtain ⟨o2, vs2, at2, z2, dt2⟩ := fl2.there
          refine wpAny_mono ((su a o2 cls d (X.pn ++ pins) z2 ⟨_, dt2⟩).run [] _ _ H' _ (J2.suite at2 dt2 na offL offF) (yes rfl a na)) (fun f t hsp => ?_) (fun _ _ z => z.elim)
          cases f with
          | ret u =>
            obtain ⟨v6, σ6, H6, S6, r6, q6⟩ := hsp
            exact ⟨_, _, _, S6.unsuite ok, r6, q6⟩
          | next => exact let ⟨_, _, S6, q6⟩ := hsp; ⟨_, _, S6.unsuite ok, q6⟩
          | brk => exact let ⟨_, _, S6, q6⟩ := hsp; ⟨_, _, S6.unsuite ok, q6⟩
          | cont => exact let ⟨_, _, S6, q6⟩ := hsp; ⟨_, _, S6.unsuite ok, q6⟩
      | named nd hi lc nm su rest ih =>
        intro w
        obtain ⟨b, hb1, yes, no⟩ := w
        have LM := PySem.W.exm_one (M := model X.prog X.w) J1.kIn LT hb1
        refine wpAny_handleBy_cons (codeAny_handlers_test (ask nm (LM.here ?_))) (fun q => by cases q)
        cases b with
        | false => exact ih (no rfl)
        | true =>
          refine codeAny_handlers_suite_as (HandSPX.lands_againZ fl1 fun g2 fl2 up2 => ?_)
          have J2 : Inv X pins σ' H' { s' with heap := g2 } := J.landed nb fl2.1 ((up.trans up1).trans up2) os ag
          obtain ⟨o2, vs2, at2, z2, dt2⟩ := fl2.there
          refine store_ok (X := X.suite a ((a, o2) :: (X.pn ++ pins))) (v := .ref a) (J2.suite at2 dt2 na offL offF) nd hi (.inl lc) rfl (fun t S5 => ?_) (.inr lc)
          refine wpAny_mono ((su a o2 cls d (X.pn ++ pins) z2 ⟨_, dt2⟩).run [] t _ H' _ S5 (yes rfl a na)) (fun f t6 hsp => ?_) (fun _ _ z => z.elim)
          cases f with
          | next =>
            obtain ⟨σ6, H6, S6, q6⟩ := hsp
            exact gone_ok (S6.unsuite ok) nd hi lc fun s7 J7 => ⟨_, _, J7, q6⟩
          | brk =>
            obtain ⟨σ6, H6, S6, q6⟩ := hsp
            exact gone_ok (S6.unsuite ok) nd hi lc fun s7 J7 => ⟨_, _, J7, q6⟩
          | cont =>
            obtain ⟨σ6, H6, S6, q6⟩ := hsp
            exact gone_ok (S6.unsuite ok) nd hi lc fun s7 J7 => ⟨_, _, J7, q6⟩
          | ret u =>
            obtain ⟨v6, σ6, H6, S6, r6, q6⟩ := hsp
            exact gone_ok (S6.unsuite ok) nd hi lc fun s7 J7 => ⟨_, _, _, J7, r6, q6⟩
    exact go hh w
  · cases f with
    | ret u => exact let ⟨v, σ', H', J', r, q⟩ := hsp; ⟨v, σ', H', J'.ofTry ok, r, q⟩
    | next =>
      obtain ⟨σ', H', J', q⟩ := hsp
      exact wpAny_execs_nil ⟨σ', H', J'.ofTry ok, q⟩
    | brk => exact let ⟨σ', H', J', q⟩ := hsp; ⟨σ', H', J'.ofTry ok, q⟩
    | cont => exact let ⟨σ', H', J', q⟩ := hsp; ⟨σ', H', J'.ofTry ok, q⟩
end
/-! ### own exceptions -/
/-- what the written part says of an own exception class: the class at C, its __init__ at f -/
structure XCls (K : PySem.W.Frag) (mg : Str → Option Value) (nm : Str) (C f : Addr) : Prop where
  g : mg nm = some (.ref C)
  o : OexC K C
  i : PySem.W.findIn K (.ref C) "__init__" = some (some (.ref f))
  t : PySem.W.typeIn K (.ref f) = some (.type "function")
  x : XfC K C
  e : ExcC K C
theorem xcls_mk {K : PySem.W.Frag} {mg : Str → Option Value} {nm : Str} {C f : Addr} {n q : Str} {N : Addr} {bs bm : List Value} {sn : List Str} {sub : List Value} {ab : Bool} {col : _} {dd : Option Addr} {k0 k1 k2 k3 k5 : Option Value}
    (g : mg nm = some (.ref C)) (l : K.lookup C = some (excClassObj n q C N bs bm true sn sub ab col dd k0 k1 k2 k3 k5 "ValueError.__new__")) (bm' : PySem.HandSPX.refsVE bm = true) (sa : PySem.W.findIn K (.ref C) "__setattr__" = some (some (.builtin "object.__setattr__")))
    (ex : PySem.W.subIn K (.ref C) (.type "BaseException") = some true) (ty : PySem.W.typeIn K (.ref C) = some (.type "type")) (kp : PySem.W.keepIn K (.ref C) = true) (i : PySem.W.findIn K (.ref C) "__init__" = some (some (.ref f)))
    (t : PySem.W.typeIn K (.ref f) = some (.type "function")) (ga : PySem.W.findIn K (.ref C) "__getattribute__" = some (some (.builtin "BaseException.__getattribute__"))) (gg : PySem.W.findIn K (.ref C) "__getattr__" = some none) (hd : PySem.W.hasDictIn K C = true)
    (ha : PySem.W.findIn K (.ref C) "__class__" = some (some (.builtin "object.__class__"))) (hn : PySem.W.specialIn K (.builtin "object.__class__") "__get__" = some (some (.builtin "getset_descriptor.__get__")))
    (ht : PySem.W.takesIn K (.builtin "object.__class__") = some true) (hm : PySem.W.mroIn K C (.type "object") = some true) : XCls K mg nm C f :=
  ⟨g, ⟨⟨n, q, N, bs, bm, sn, sub, ab, col, dd, k0, k1, k2, k3, k5, l, bm'⟩, sa, ex, ty, kp⟩, i, t, ⟨ga, gg, ex, hd⟩, ⟨ga, gg, ex, hd, ha, hn, ht, hm⟩⟩
/-- __init__ of such a class: one field is stored -/
def sp_xinit (K : PySem.W.Frag) (f : Str) : Sp := fun vs H Q _ => ∃ (a C : Addr) (v : V), vs = [.ref a, v] ∧ OexC K C ∧ PySem.W.findIn K (.ref C) f = some none ∧ H a = some (exo a C none) ∧
  ∀ dx, H dx = none → dx ≠ a → Q .non (upd (upd H dx (exd dx [(f, v)])) a (exo a C (some dx)))
/-- raise C(v): what follows holds wherever the new error's dict is told, all else standing -/
theorem mkO_of {K : PySem.W.Frag} {f : Str} {C : Addr} {v : V} {H : Hp} {E : XK} (O : OexC K C) (hn : PySem.W.findIn K (.ref C) f = some none) (k : ∀ d H', H d = none → Same H H' → H' d = some (.xd [(f, v)]) → E (.ref C) (some d) H') :
    [v].length ≤ 1000 ∧ ∀ a, H a = none → sp_xinit K f (.ref a :: ([v] ++ [])) (upd H a (exo a C none))
      (fun w H2 => w = .non ∧ ∃ (d : Addr) (fs : List (Str × V)), H2 a = some (exo a C (some d)) ∧ H2 d = some (exd d fs) ∧ H d = none ∧ E (.ref C) (some d) (upd (del H2 a) d (.xd fs))) (fun _ _ _ => False) := by
  refine ⟨Nat.succ_le_succ (Nat.zero_le _), fun a ha => ⟨a, C, v, rfl, O, hn, upd_same, fun dx hdx ne => ⟨rfl, dx, [(f, v)], upd_same, ?_, ?_, ?_⟩⟩⟩
  · rw [upd_ne ne]
    exact upd_same
  · rw [upd_ne ne] at hdx
    exact hdx
  · have hdx0 : H dx = none := by
      rw [upd_ne ne] at hdx
      exact hdx
    refine k dx _ hdx0 (fun b o e => ?_) upd_same
    have nb : b ≠ dx := ne_of_none e hdx0
    have na : b ≠ a := ne_of_none e ha
    rw [upd_ne nb, del_ne na, upd_ne na, upd_ne nb, upd_ne na]
    exact e
section
variable {X : Cx} {a : Addr} {oe : Obj} {cls : Value} {d : Option Addr} {pn : List (Addr × Obj)} {n : Str}
/-- e.n in a suite, e of whichever class it is -/
def tXg (K : PySem.W.Frag) (a : Addr) (cls : Value) (d : Option Addr) (f : Str) (te : TE) : TE := fun σ H Q => te σ H fun x H1 => x = .ref a ∧ ∃ (C dd : Addr) (fs : List (Str × V)) (v : V), cls = .ref C ∧ XfC K C ∧ PySem.W.findIn K (.ref C) f = some none ∧ d = some dd ∧ H1 dd = some (.xd fs) ∧ fs.lookup f = some v ∧ Q v H1
theorem pe_xg {e : Expr} {te : TE} {pos : Pos} (hz : Zc cls d oe) (hf : ∃ vs, oe.data = .fields vs) (he : PE (X.suite a ((a, oe) :: pn)) e te)
    (hb : attributeBase e n X.env (eval e X.env) = eval e X.env := by rfl) : PE (X.suite a ((a, oe) :: pn)) (.Attribute e n pos) (tXg X.K a cls d n te) := by
  refine ⟨fun pins s σ H Q I h => ?_⟩
  refine attr_of hb (thn (he.run pins s σ H _ I h) fun u s1 hh => ?_)
  obtain ⟨x, H1, I1, rx, ex, C, dd, fs, v, ec, T, hno, ed, ea, l, q⟩ := hh
  subst ex ec ed
  obtain rfl : u = Value.ref a := rx
  obtain ⟨mA, hns, hr⟩ := (show ObjOk X.prog X.w H1 s1.heap dd (.xd fs) from I1.hok dd _ ea)
  obtain ⟨od, ho, hl⟩ := lookIn_ns hns
  obtain ⟨u, hu, ru⟩ := RelO.some_of (v := v) (o := mA n) (by rw [← l]; exact hr n)
  obtain ⟨vs, hv⟩ := hf
  have J : PySem.W.InstAt s1.heap a oe C (some od) := ⟨(I1.pin (a, oe) (List.mem_append_left _ List.mem_cons_self)).1, hz.1, by unfold PySem.W.notCls; rw [hv] <;> rfl, by rw [hz.2]; exact ho⟩
  exact PySem.HandSPX.exc_get I1.kIn J T.ga T.gg T.exC (PySem.W.findObj_own T.hdC hno rfl (by rw [hl, hu])) (handed_of ru) ⟨v, H1, I1.tok _, ru, q⟩
/-- isinstance(e, c) in a suite -/
def rIsX (K : PySem.W.Frag) (a : Addr) (cls : Value) (d : Option Addr) : List V → Hp → VK → Prop := fun xs H Q => ∃ (c : V) (cv : Value) (b : Bool) (D dd : Addr) (fs : List (Str × V)), xs = [.ref a, c] ∧ (∀ u, RelV c u → u = cv) ∧ cls = .ref D ∧ ExcC K D ∧ d = some dd ∧ H dd = some (.xd fs) ∧
  PySem.W.kitOne K (.ref D) cv = some b ∧ Q (.bl b) H
theorem call_isX (hz : Zc cls d oe) (hf : ∃ vs, oe.data = .fields vs) : CallR (X.suite a ((a, oe) :: pn)) (.builtin "isinstance") (rIsX X.K a cls d) := by
  intro pins s σ H xs us Q I r h
  obtain ⟨c, cv, b, D, dd, fs, rfl, hcv, ec, C, ed, ea, e, q⟩ := h
  subst ec ed
  obtain ⟨u1, u2, rfl, r1, r2⟩ := vals2 r
  cases (show u1 = Value.ref a from r1)
  cases (hcv _ r2)
  obtain ⟨mA, hns, hr⟩ := (show ObjOk X.prog X.w H s.heap dd (.xd fs) from I.hok dd _ ea)
  obtain ⟨od, ho, hl⟩ := lookIn_ns hns
  obtain ⟨vs, hv⟩ := hf
  have J : PySem.W.InstAt s.heap a oe D (some od) := ⟨(I.pin (a, oe) (List.mem_append_left _ List.mem_cons_self)).1, hz.1, by unfold PySem.W.notCls; rw [hv] <;> rfl, by rw [hz.2]; exact ho⟩
  obtain ⟨cd, hc, _⟩ := PySem.W.any_some C.hd
  exact PySem.W.kia_one (PySem.W.kitx_exc (by rw [hc]; rfl) C.hg C.hk C.hs C.ha C.hn C.ht C.hm) I.kIn J e (fun z => nomatch z) fun tk => ⟨.bl b, H, I.tok tk, rfl, q⟩
end
section
variable {X : Cx} {CX' : CXT} {k : Nat} {f C : Addr} {fd : FuncData} {ps : List Str} {sp : Sp} {E : St → XK} {x m : Str} {p pos apos : Pos} {e o : Expr} {es : List Expr} {ta : TE} {t : TA}
/-- o.m(..), what it lets out wished for at the caller's slots -/
def tMethX (C : Addr) (m : Str) (sp : Sp) (E : St → XK) (ta : TE) (t : TA) : TE := fun σ H Q => ta σ H fun x H1 => ∃ a dx fs, x = .ref a ∧ H1 a = some (.ins C dx fs) ∧ fs.lookup m = none ∧ t σ H1 fun vs H2 => sp (x :: vs) H2 Q (E σ)
theorem pe_methX {pl : Sem Bool} (he : PE X o ta) (c : Cls X.K C) (hm : Meth X.K C m f) (F : FnOk X.prog X.w X.K X.mg X.base CX' k f fd ps sp) (hr : Room k X.A) (hb : Binds X.K fd ps []) (hx : ∀ σ, PassesAt CX' X σ (E σ)) (ha : PA X (e :: es) t)
    (hst : starEach (e :: es) X.env = (false, eval e X.env) :: starEach es X.env := by rfl) (hpl : (PySem.backTo pos (starEach es X.env)).any (·.1) = false := by rfl)
    (ht : eval (.Call (.Attribute o m apos) (e :: es) [] pos) X.env = (eval o X.env >>= fun ov => standAt apos.atName >>= fun _ => holding [ov] (getMethod ov m pl) >>= fun fr => callWith pos fr.1 fr.2 (PySem.backTo pos (starEach (e :: es) X.env)) (backToKw pos (keywordEach [] X.env))) := by rfl) :
    PE X (.Call (.Attribute o m apos) (e :: es) [] pos) (tMethX C m sp E ta t) := by
  refine ⟨fun pins s σ H Q I h => ?_⟩
  refine PySem.W.methodCall_KW (pl := pl) (thn (he.run pins s σ H _ I h) fun u s1 ⟨x, H1, I1, rx, a, dx, fs, ex, ea, l, q⟩ => ?_) ht
  subst ex
  obtain rfl : u = Value.ref a := rx
  refine getmeth_ok I1 ea c hm l ?_
  refine PySem.W.callWith_K (h₀ := X.base) I1.ok.mod.kin hm.kp (thn (ha.run pos pins s1 σ H1 _ I1 q) fun us s2 ⟨vs, H2, I2, r, q2⟩ => ⟨I2.kIn, ?_⟩) hst hpl
  exact run_fnS (us := .ref a :: us) (vs := .ref a :: vs) F hr hb (hx σ) I2 (.cons rfl r) q2
end
/-- a class that is only named -/
structure GCls (mg : Str → Option Value) (nm : Str) (C : Addr) : Prop where
  g : mg nm = some (.ref C)
/-- what a callee lets out, whatever the slots hold -/
def anyW (n : Nat) (W : WX) : XK := fun cls d H => ∀ σ : L2.St, σ.length = n → W cls d σ H
theorem passes_any {X : Cx} {W : WX} (n : Nat) (tk : Takes X W) (hn : X.N.length = n := by rfl) : Passes (L2.CX X.prog X.w) X (anyW n W) :=
  fun _ σ _ _ e s' I c => tk e s' (XE.of_call I (fun cls d H' h => h σ (I.len.trans hn)) c)
/-! ### defs that ask for a text of data: nothing is being shown meanwhile -/
section
open PySem.Spec PyProof.Rows
section
variable {P : Program} {w : World} {K : PySem.W.Frag} {mg : Str → Option Value} {base : Heap}
/-- a def's promise, wanted only while no repr is under way -/
structure FnStill (P : Program) (w : World) (K : PySem.W.Frag) (mg : Str → Option Value) (base : Heap) (k : Nat) (f : Addr) (fd : FuncData) (ps : List Str) (sp : Sp) : Prop where
  count : ∀ vs H Q E, sp vs H Q E → vs.length = ps.length
  go : ∀ (A : Around) (outer : List Env) (s : Shared) (H : Hp) (args : Args) (us : List Value) (vs : List V) (Q : VK) (E : XK), A.guards = some [] → Room k A → Env0 P w K mg base A outer s H →
    BindsTo s fd args (ps.zip us) → Vals vs us → sp vs H Q E → codeAny (model P w) A (.call (.ref f) args) (CR CX0 outer P w H s Q E) s
theorem still_fn {x qual : Str} {st : Stmt} {f : Addr} {fd : FuncData} {N ps : List Str} {k : Nat} {sp : Sp} (F : Fun K x qual st f fd) (S : FnScope N ps (defScope st)) (cnt : ∀ vs H Q E, sp vs H Q E → vs.length = ps.length)
    (bod : ∀ (cdv : Value) (A : Around) (outer : List Env) (s : Shared) (H : Hp) (vs : List V) (Q : VK) (E : XK), A.guards = some [] → Room k (A.deeper (envOfC qual (defScope st) s.heap.objs.size f cdv)) → sp vs H Q E →
      ∃ t, PSs (cxOf CX0 P w K mg base N qual (defScope st) f cdv A outer s H E).nox (defBody st) t ∧ t { nx := fun _ H' => Q .non H', rt := Q } (start N vs) H) : FnStill P w K mg base (k + 1) f fd ps sp := by
  obtain ⟨oc, od, kV, doc, pm, an, cdv, ct, osl, rfl, lk, hcd⟩ := F.ex
  refine ⟨cnt, fun A outer s H args us vs Q E still room e0 bnd rv want => ?_⟩
  have kin : K.In s.heap := e0.mod.kin.keeps fun b o hb => (e0.bs b o hb).1
  have limit : s.heap.NoLimit := e0.mod.nolimit.keeps fun b o hb => (e0.bs b o hb).1
  have param : ∀ y ∈ ps.zip us, (defScope st).names.lookup y.1 = some .local ∨ ((defScope st).names.lookup y.1 = some .cell ∧ ((cellsFrom (s.heap.objs.size + 1) (defScope st).names []).lookup y.1).isSome = true) := by
    rintro ⟨n, v⟩ hy
    refine (S.par n (List.of_mem_zip hy).1).imp id fun c => ⟨c, PySem.W.cellsFrom_some _ _ _ (.inl c)⟩
  refine codeAny_call_function room.depth (kin _ _ lk) rfl S.co S.gen rfl (PySem.W.codeRec_of kin hcd) (bnd _ _ _ _ (wpAny_newFunctionEnv_cells S.kind param fun env he s1 x => ?_))
  subst he
  refine ⟨limit.keeps x.toInCall.keep, codeAny_func ?_⟩
  obtain ⟨t, ht, hq⟩ := bod cdv A outer s H vs Q E still (room.deeper _) want
  refine wpAny_mono (ht.nox.run [] s1 (start N vs) H _ (inv_start S room.hd e0 (cnt _ _ _ _ want) rv x) hq) (fun fl s' hs => ?_) fun _ _ z => z
  cases fl with
  | ret u => exact let ⟨v, _, H', J, rr, q⟩ := hs; ⟨v, H', J.os, J.bare, J.base, J.hok, rr, q⟩
  | next => exact let ⟨_, H', J, q⟩ := hs; ⟨V.non, H', J.os, J.bare, J.base, J.hok, rfl, q⟩
  | brk => exact let ⟨_, _, _, q⟩ := hs; False.elim q
  | cont => exact let ⟨_, _, _, q⟩ := hs; False.elim q
end
section
variable {X : Cx} {k : Nat} {f : Addr} {fd : FuncData} {ps : List Str} {sp : Sp} {dvs : List V} {ds : List Value} {E : XK} {x : Str} {p pos : Pos} {e : Expr} {es : List Expr} {t : TA}
/-- f(e, ..) of such a def -/
theorem pe_still (still : X.A.guards = some []) (F : FnStill X.prog X.w X.K X.mg X.base k f fd ps sp) (hr : Room k X.A) (hg : Gl X x) (hm : X.mg x = some (.ref f)) (hk : PySem.W.keepIn X.K (.ref f) = true) (hb : Binds X.K fd ps ds) (hd : Vals dvs ds) (hx : Passes CX0 X E)
    (ha : PA X (e :: es) t) (hdb : (x == ("__debug__" : Str)) = false := by decide) (he : starEach (e :: es) X.env = (false, eval e X.env) :: starEach es X.env := by rfl) (hpl : (backTo pos (starEach es X.env)).any (·.1) = false := by rfl) :
    PE X (.Call (.Name x p) (e :: es) [] pos) (tCall sp dvs E t) := by
  refine ⟨fun pins s σ H Q I h => wpAny_Call_Name_kw (ld_glob I hg hm ?_ hdb)⟩
  refine PySem.W.callWith_K (h₀ := X.base) I.ok.mod.kin hk (thn (ha.run pos pins s σ H _ I h) fun us s1 ⟨vs, H1, I1, rv, q⟩ => ⟨I1.kIn, ?_⟩) he hpl
  have both : Vals (vs ++ dvs) (us ++ ds) := rv.append hd
  have many : (us ++ ds).length = ps.length := both.length ▸ F.count _ _ _ _ q
  refine wpAny_call (codeAny_mono (F.go X.A X.stack s1 H1 ⟨us, []⟩ (us ++ ds) (vs ++ dvs) Q E still hr I1.env0 (hb s1 us I1.kIn many) both q) fun r s' hq => ?_)
  rcases r with er | fl
  · exact hx pins σ H1 s1 _ s' I1 hq
  · cases fl with
    | ret u => exact I1.after hq
    | next => exact hq.elim
    | brk => exact hq.elim
    | cont => exact hq.elim
end
/-- the law's def from the claim's caller: nothing is being shown there -/
theorem still_core {P : Program} {w : World} {K : PySem.W.Frag} {mg mb : Str → Option Value} {k : Nat} {fa a : Addr} {fd : FuncData} {x : Str} {sp : Sp} {s₁ : Shared} {vs : List Value} {H : Hp}
    (KX : K.In s₁.heap) (hns : s₁.heap.Ns mainGlobals mg) (hb : s₁.heap.Ns builtinsNs mb) (hbb : ∀ x : Str, x ≠ "__name__" → mb x = bootBuiltins x) (hlim : s₁.heap.NoLimit) (hg : s₁.gens = #[]) (ha : s₁.heap.get? a = some { cls := .type "list", data := .seq vs.toArray }) (hr : Room k callerA)
    (F : ∀ base : Heap, K.In base → base.Ns mainGlobals mg → FnStill P w K mg base k fa fd [x] sp) (hbind : ∀ (s : Shared) (u : Value), BindsTo s fd ⟨[u], []⟩ [(x, u)]) (hO : Only H) (hok : HOk P w H s₁.heap) (hA : ∀ b, b ≠ a → H b = none) (hK : H a ≠ none → K.lookup a = none)
    (hsp : sp [.ref a] H (fun v _ => v = .bl true) fun _ _ _ => False) (hCX : ∀ e s', CX0 [] H s₁ (fun _ _ _ => False) e s' → False) :
    codeAny (model P w) callerA (.call (.ref fa) ⟨[.ref a], []⟩) (fun r s' => r = .ok (.ret (.bool true)) ∧ OldK s₁.heap s'.heap ∧ s'.os = s₁.os ∧ AllBare s'.gens) s₁ := by
  have free : ∀ {b : Addr} {o : Obj}, s₁.heap.get? b = some o → (b = a → H a = none) → (hidT s₁.heap H).get? b = some o := fun {b o} hb z => hidT_get hb (by
    by_cases q : b = a
    · rw [q]
      exact z q
    · exact hA b q)
  have nm : ∀ {b : Addr} {m : Str → Option Value}, s₁.heap.Ns b m → (hidT s₁.heap H).Ns b m := by
    rintro b m ⟨o, es, ep, hb, d, rr⟩
    refine ⟨o, es, ep, free hb fun q => ?_, d, rr⟩
    subst q
    rw [ha] at hb
    cases hb
    cases (show Data.seq vs.toArray _ = Data.dict es ep from d)
  have kb : K.In (hidT s₁.heap H) := fun b o hb => free (KX b o hb) fun q => by
    subst q
    refine Classical.byContradiction fun z => ?_
    rw [hK z] at hb
    cases hb
  obtain ⟨mc, c1, c2⟩ := hlim
  have e0 : Env0 P w K mg (hidT s₁.heap H) callerA [] s₁ H := ⟨rfl, ⟨kb, nm hns, ⟨mb, nm hb, hbb⟩, ⟨mc, nm c1, c2⟩⟩, fun b o hb => of_hidT hb, Nat.le_of_eq (hidT_size _ _), trivial, fun b z => (List.not_mem_nil z).elim, hok, .of_eq hg⟩
  refine codeAny_mono ((F _ kb (nm hns)).go callerA [] s₁ H ⟨[.ref a], []⟩ [.ref a] [.ref a] _ _ rfl hr e0 (hbind s₁ (.ref a)) (.cons rfl .nil) hsp) fun r s' h => ?_
  rcases r with er | fl
  · exact (hCX er s' h).elim
  cases fl with
  | next => exact h.elim
  | brk => exact h.elim
  | cont => exact h.elim
  | ret u =>
    obtain ⟨v, H', os, bare, un, hok', rr, q⟩ := h
    obtain rfl : v = .bl true := q
    cases (show u = Value.bool true from rr)
    refine ⟨rfl, OldK.of_keep fun b o hb => ?_, os, bare⟩
    rcases hO b with z | ⟨ob, xs, z⟩
    · exact un.keep b o hb z (fun y => (List.not_mem_nil y).elim) List.not_mem_nil
    · have was := (hok b _ z).1
      rw [hb] at was
      cases was
      exact (hok' b _ (un.frzs b _ _ z)).1
theorem still_law {P : Program} {w : World} {K : PySem.W.Frag} {mg mb : Str → Option Value} {k : Nat} {fa a : Addr} {fd : FuncData} {x : Str} {sp : Sp} {s₁ : Shared} {vs : List Value} {ns : List Int}
    (KX : K.In s₁.heap) (hns : s₁.heap.Ns mainGlobals mg) (hb : s₁.heap.Ns builtinsNs mb) (hbb : ∀ x : Str, x ≠ "__name__" → mb x = bootBuiltins x) (hlim : s₁.heap.NoLimit) (hg : s₁.gens = #[]) (ha : s₁.heap.get? a = some { cls := .type "list", data := .seq vs.toArray }) (hi : IntsAre vs ns) (hl : ns.length ≤ sizeLine) (hr : Room k callerA)
    (F : ∀ base : Heap, K.In base → base.Ns mainGlobals mg → FnStill P w K mg base k fa fd [x] sp) (hbind : ∀ (s : Shared) (u : Value), BindsTo s fd ⟨[u], []⟩ [(x, u)])
    (hsp : ∀ H : Hp, Only H → SqL K H a (ns.map V.int) → sp [.ref a] H (fun v _ => v = .bl true) fun _ _ _ => False) (hCX : ∀ H e s', CX0 [] H s₁ (fun _ _ _ => False) e s' → False) :
    codeAny (model P w) callerA (.call (.ref fa) ⟨[.ref a], []⟩) (fun r s' => r = .ok (.ret (.bool true)) ∧ OldK s₁.heap s'.heap ∧ s'.os = s₁.os ∧ AllBare s'.gens) s₁ := by
  rcases hk : K.lookup a with _ | o
  · have now : ∀ b u, (fun b => if b = a then some (HO.frz { cls := .type "list", data := .seq vs.toArray } (.lst (ns.map V.int))) else none) b = some u → b = a ∧ u = HO.frz { cls := .type "list", data := .seq vs.toArray } (.lst (ns.map V.int)) := fun b u z => by
      dsimp only at z
      split at z
      · rename_i q
        exact ⟨q, (Option.some.inj z).symm⟩
      · cases z
    refine still_core (H := fun b => if b = a then some (.frz { cls := .type "list", data := .seq vs.toArray } (.lst (ns.map V.int))) else none) KX hns hb hbb hlim hg ha hr F hbind (fun b => ?_) (fun b u z => ?_) (fun b z => if_neg z) (fun _ => hk) (hsp _ (fun b => ?_) (.inl (.inr ⟨_, if_pos rfl⟩))) (hCX _)
    · exact (Classical.em (b = a)).elim (fun q => .inr ⟨_, _, if_pos q⟩) fun q => .inl (if_neg q)
    · obtain ⟨rfl, rfl⟩ := now b u z
      exact ⟨ha, by rw [List.length_map]; exact hl, vs, _, vals_ints hi, ha⟩
    · exact (Classical.em (b = a)).elim (fun q => .inr ⟨_, _, if_pos q⟩) fun q => .inl (if_neg q)
  · have at_ := KX a o hk
    rw [ha] at at_
    cases at_
    refine still_core (H := fun _ => none) KX hns hb hbb hlim hg ha hr F hbind (fun _ => .inl rfl) (fun b u z => nomatch z) (fun _ _ => rfl) (fun z => (z rfl).elim) (hsp _ (fun _ => .inl rfl) (.inr ⟨_, vs.toArray, _, hk, rfl, rfl, rfl, ?_, ?_⟩)) (hCX _)
    · rw [List.size_toArray, hi.length]
      exact hl
    · simpa using vals_ints hi
theorem still_walk {l : PySem.W.OpenLaw} {n k : Nat} {q : Program} {loose : List Str} {XP : (Str → Option Value) → Heap → Prop} {YP : World → Heap → Prop} {d : DefRec} {K : Params → PySem.W.Frag} {sp : World → Sp} {x : Str}
    (hn : l.most = some n) (hn2 : n ≤ sizeLine) (hdf : d.params.defaults = []) (hr : Room k callerA) (hY : ∀ (w : World) (h : Heap), YP w h → (K w.params).In h)
    (F : ∀ (w : World) (mg : Str → Option Value) (fa : Addr) (h : Heap), (K w.params).In h → h.Ns mainGlobals mg → mg d.name = some (.ref fa) → ∃ fd : FuncData, (∀ (s : Shared) (u : Value), BindsTo s fd ⟨[u], []⟩ [(x, u)]) ∧
      ∀ base : Heap, (K w.params).In base → base.Ns mainGlobals mg → FnStill l.prog w (K w.params) mg base k fa fd [x] (sp w))
    (hsp : ∀ (w : World) (H : Hp) (a : Addr) (ns : List Int), ns.length ≤ n → Only H → SqL (K w.params) H a (ns.map V.int) → sp w [.ref a] H (fun v _ => v = .bl true) fun _ _ _ => False)
    (hCX : ∀ (H : Hp) (s : Shared) (e : Value) (s' : Shared), CX0 [] H s (fun _ _ _ => False) e s' → False) : PySem.W.WalkO q loose XP YP l.row.toRowW d [] (fun f vs => PySem.call f vs) := by
  refine Att.attach_call hn hdf fun w s₀ s₁ mg mb fa o pm cd doc a vs ns G Y ho hd hcd hmg hobj hints many gs => ?_
  obtain ⟨fd, bnd, hF⟩ := F w mg fa _ (hY w _ Y) G.T.g hmg
  exact still_law (hY w _ Y) G.T.g G.T.b G.T.builtins G.T.nolimit gs hobj hints (Nat.le_trans many hn2) hr hF bnd (fun H hO hS => hsp w H a ns many hO hS) fun H e s' => hCX H s₁ e s'
/-! ### the text of data -/
section
variable {X : Cx}
/-- repr(x) of data: its own text, nothing changed -/
def rRepr (K : PySem.W.Frag) : List V → Hp → VK → Prop := fun xs H Q => ∃ (a : Addr) (d : PyData), xs = [.ref a] ∧ Dp K H (.ref a) d ∧ d.showable = true ∧ d.hasDict = false ∧ d.depth ≤ 100 ∧ d.shown.length ≤ sizeLine ∧ Q (.str d.shown) H
theorem call_repr (still : X.A.guards = some []) (un : X.A.units + 150 < cLine) : CallR X (.builtin "repr") (rRepr X.K) := by
  intro pins s σ H xs us Q I rv h
  obtain ⟨a, d, rfl, hd, sh, nd, dp, sz, q⟩ := h
  rcases rv with _ | ⟨r1, r2⟩
  cases r2
  cases r1
  obtain ⟨as, hr⟩ := Dp.reads I d _ _ hd rfl
  exact repr_of_reads' hr sh (fun z => by rw [nd] at z; cases z) still (by omega) (fun _ _ z => z) (fun h' u tk keep => ⟨.str d.shown, H, I.kept keep, ⟨u, rfl⟩, q⟩) sz
end
end
/-! ### defs with a star parameter -/
section
open PySem.Spec PyProof.Rows
structure StarB (fd : FuncData) (ps : List Str) (pv : Str) : Prop where
  b : ∀ us rest : List Value, us.length = ps.length → bindArgs fd ⟨us ++ rest, []⟩ = (newTuple rest >>= fun t => pure (ps.zip us ++ [(pv, t)]))
def starSp (n : Nat) (sp : Sp) : Sp := fun vs H Q E => ∃ ws rest, vs = ws ++ rest ∧ ws.length = n ∧ rest.length ≤ sizeLine ∧ ∀ p, H p = none → sp (ws ++ [V.ref p]) (upd H p (.tup rest)) Q E
variable {P : Program} {w : World} {K : PySem.W.Frag} {mg : Str → Option Value} {base : Heap} {x qual : Str} {st : Stmt} {f : Addr} {fd : FuncData} {N ps : List Str} {pv : Str} {k : Nat} {sp : Sp}
theorem okStar (F : Fun K x qual st f fd) (B : StarB fd ps pv) (S : FnScope N (ps ++ [pv]) (defScope st))
    (hbody : ∀ (cdv : Value) (A : Around) (outer : List Env) (s : Shared) (H : Hp) (vs : List V) (Q : VK) (E : XK), Room k (A.deeper (envOfC qual (defScope st) s.heap.objs.size f cdv)) → sp vs H Q E →
      ∃ t, PSs (cxOf CX0 P w K mg base N qual (defScope st) f cdv A outer s H E).nox (defBody st) t ∧ t { nx := fun _ H' => Q .non H', rt := Q } (start N vs) H) : FnR P w K mg base CX0 (k + 1) f (starSp ps.length sp) := by
  obtain ⟨oc, od, kV, doc, pm, an, cdv, ct, osl, rfl, lk, hcd⟩ := F.ex
  refine StX.fn_star lk hcd S StX.cxUp_none B.b fun A outer s H vs Q E hr hsp => ?_
  obtain ⟨t, h, q⟩ := hbody cdv A outer s H vs Q E hr hsp
  exact ⟨t, h.nox, q⟩
theorem okStarX (F : Fun K x qual st f fd) (B : StarB fd ps pv) (S : FnScope N (ps ++ [pv]) (defScope st))
    (hbody : ∀ (cdv : Value) (A : Around) (outer : List Env) (s : Shared) (H : Hp) (vs : List V) (Q : VK) (E : XK), Room k (A.deeper (envOfC qual (defScope st) s.heap.objs.size f cdv)) → sp vs H Q E →
      ∃ t, PSs (cxOf (L2.CX P w) P w K mg base N qual (defScope st) f cdv A outer s H E) (defBody st) t ∧ t { nx := fun _ H' => Q .non H', rt := Q } (start N vs) H) : FnR P w K mg base (L2.CX P w) (k + 1) f (starSp ps.length sp) := by
  obtain ⟨oc, od, kV, doc, pm, an, cdv, ct, osl, rfl, lk, hcd⟩ := F.ex
  exact StX.fn_star lk hcd S StX.cxUp B.b fun A outer s H vs Q E hr hsp => hbody cdv A outer s H vs Q E hr hsp
end
section
variable {X : Cx} {CX : CXT} {k : Nat} {f C : Addr} {sp : Sp} {E : XK} {x : Str} {p pos : Pos}
/-- C(), C's __init__ with a star parameter -/
theorem pe_makeR0 (M : Mk X.K C f) (F : FnR X.prog X.w X.K X.mg X.base CX k f sp) (hr : Room (k + 1) X.A) (hg : Gl X x) (hm : X.mg x = some (.ref C)) (hx : Passes CX X E) (hdb : (x == ("__debug__" : Str)) = false := by decide) :
    PE X (.Call (.Name x p) [] [] pos) (StX.tMakeR C sp E tNil) := by
  refine ⟨fun pins s σ H Q I h => ?_⟩
  refine wpAny_Call_Name_kw (ld_glob I hg hm ?_ hdb)
  exact PySem.W.callWith_K0 I.kIn M.kp (StX.run_makeR (us := []) M F hr hx I .nil h)
theorem x_makeR {σ : L2.St} {H : Hp} {Q : VK} {t : TA} (q : t σ H fun vs H1 => ∀ x dx, H1 x = none → H1 dx = none → dx ≠ x → sp (.ref x :: vs) (upd (upd H1 dx (.own x)) x (.ins C dx [])) (fun v H2 => v = .non ∧ Q (.ref x) H2) E) : StX.tMakeR C sp E t σ H Q := q
theorem x_star {K : PySem.W.Frag} {σ : L2.St} {H : Hp} {te : TE} {t : TA} {QL : List V → Hp → Prop} (q : te σ H fun x H1 => ∃ p xs, x = V.ref p ∧ (SqT K H1 p xs ∨ SqL K H1 p xs) ∧ t σ H1 fun ys H2 => QL (xs ++ ys) H2) : StX.tStar K te t σ H QL := q
end
/-! ### len of an object with __len__ -/
section
open PySem.Spec PyProof.Rows
variable {X : Cx} {CX : CXT} {k : Nat} {C g : Addr} {fd : FuncData} {ps : List Str} {sp : Sp} {E : XK}
def rLenOwn (C : Addr) (sp : Sp) (E : XK) : List V → Hp → VK → Prop := fun xs H Q => ∃ a dx fs, xs = [.ref a] ∧ H a = some (.ins C dx fs) ∧ sp [.ref a] H (fun v H' => ∃ n : Int, v = .int n ∧ 0 ≤ n ∧ n < 2 ^ 63 ∧ Q (.int n) H') E
theorem call_lenOwn (mm : Meth X.K C "__len__" g) (F : FnOk X.prog X.w X.K X.mg X.base CX k g fd ps sp) (hr : Room (k + 1) X.A) (hb : Binds X.K fd ps []) (hx : Passes CX X E) : CallR X (.builtin "len") (rLenOwn C sp E) := by
  intro pins s σ H xs us Q I rx h
  obtain ⟨a, dx, fs, rfl, ha, q⟩ := h
  obtain ⟨u, rfl, ru⟩ := vals1 rx
  cases (show u = Value.ref a from ru)
  obtain ⟨mA, O, _⟩ := ins_get I.hok ha
  obtain ⟨od, J, _⟩ := O.look
  refine PySem.Calls.call_function_entry PySem.kind_len PySem.plain_len PySem.entry_len (PySem.args_len1 _) ?_
  unfold PySem.Builtin.«len»
  refine wpAny_bind (m := PySem.oneArg "len" _) (wpAny_pure ?_)
  refine wpAny_bind (m := PySem.callSpecial? (.ref a) (Str.ofString "__len__")) (PySem.W.special_fn I.kIn J mm.at_ (beq_iff_eq.mp mm.fn) ?_)
  have r2 : Vals [V.ref a] [Value.ref a] := .cons rfl .nil
  have hl : ([Value.ref a] : List Value).length = ps.length := by rw [← r2.length]; exact F.len _ _ _ _ q
  have hbb := hb s [Value.ref a] I.kIn (by rw [List.append_nil]; exact hl)
  rw [List.append_nil] at hbb
  refine wpAny_call (codeAny_mono (F.run X.A.in1 X.stack s H ⟨[Value.ref a], []⟩ [Value.ref a] [V.ref a] _ E hr.in1 I.env0.in1 hbb r2 q) fun r s' hq => ?_)
  cases r with
  | error e => exact hx pins σ H s e s' I hq
  | ok fl =>
    cases fl with
    | next => exact False.elim hq
    | brk => exact False.elim hq
    | cont => exact False.elim hq
    | ret u =>
      obtain ⟨v, H', I', rv, n, rfl, n0, n1, qn⟩ := I.after hq
      obtain ⟨t, rfl⟩ := rv
      refine wpAny_bind (wpAny_holding (wpAny_pure ?_))
      refine wpAny_bind (wpAny_letGo ?_)
      show wpAny _ _ (if n < 0 then _ else _) _ _ _
      rw [if_neg (by omega)]
      show wpAny _ _ (if n ≥ 2 ^ 63 then _ else _) _ _ _
      rw [if_neg (by omega)]
      exact wpAny_bind (wpAny_mkInt (wpAny_pure ⟨_, rfl, .int n, H', I'.tok _, ⟨_, rfl⟩, qn⟩))
end
/-! ### C(..) with a star parameter in a try -/
section
open PySem.Spec PyProof.Rows
variable {X : Cx} {CX' : CXT} {k : Nat} {f C : Addr} {sp : Sp} {E : L2.St → XK} {x : Str} {e : Expr} {es : List Expr} {t : TA} {p pos : Pos}
/-- C(e, ..), what it lets out wished for at the caller's slots -/
def tMakeRX (C : Addr) (sp : Sp) (E : L2.St → XK) (t : TA) : TE := fun σ H Q => t σ H fun vs H1 => ∀ x dx, H1 x = none → H1 dx = none → dx ≠ x → sp (.ref x :: vs) (upd (upd H1 dx (.own x)) x (.ins C dx [])) (fun v H2 => v = .non ∧ Q (.ref x) H2) (E σ)
theorem pe_makeRX (M : Mk X.K C f) (F : FnR X.prog X.w X.K X.mg X.base CX' k f sp) (hr : Room (k + 1) X.A) (hg : Gl X x) (hm : X.mg x = some (.ref C)) (hx : ∀ σ, PassesAt CX' X σ (E σ)) (ha : PA X (e :: es) t) (hdb : (x == ("__debug__" : Str)) = false := by decide)
    (he : starEach (e :: es) X.env = (false, eval e X.env) :: starEach es X.env := by rfl) (hpl : (PySem.backTo pos (starEach es X.env)).any (·.1) = false := by rfl) : PE X (.Call (.Name x p) (e :: es) [] pos) (tMakeRX C sp E t) := by
  refine ⟨fun pins s σ H Q I h => wpAny_Call_Name_kw (ld_glob I hg hm ?_ hdb)⟩
  refine PySem.W.callWith_K (h₀ := X.base) I.ok.mod.kin M.kp (thn (ha.run pos pins s σ H _ I h) fun us s1 ⟨vs, H1, I1, r, q⟩ => ⟨I1.kIn, ?_⟩) he hpl
  have q1 := q (s1.heap.objs.size + 1) s1.heap.objs.size (I1.hok.fresh (Nat.le_succ _)) (I1.hok.fresh (Nat.le_refl _)) (Nat.ne_of_lt (Nat.lt_succ_self _))
  have I2 := Inv.made (C := C) I1
  have r2 : Vals (V.ref (s1.heap.objs.size + 1) :: vs) (Value.ref (s1.heap.objs.size + 1) :: us) := .cons rfl r
  refine wpAny_call (make_map (f := f) I1.kIn M.makes M.init (beq_iff_eq.mp M.fn) (codeAny_mono (F _ X.stack _ _ (Value.ref (s1.heap.objs.size + 1) :: us) _ _ (E σ) (hr.make C us []) (I2.env0.make C us []) r2 q1) fun z s' hz => ?_))
  match z, hz with
  | .error e, hz => exact hx σ pins _ _ e s' I2 hz
  | .ok (.ret u), hz =>
    obtain ⟨v, H', I3, rv, ev, q3⟩ := I2.after hz
    subst ev
    exact ⟨rv, ⟨V.ref (s1.heap.objs.size + 1), H', I3, rfl, q3⟩⟩
theorem x_makeRX {σ : L2.St} {H : Hp} {Q : VK} (q : t σ H fun vs H1 => ∀ x dx, H1 x = none → H1 dx = none → dx ≠ x → sp (.ref x :: vs) (upd (upd H1 dx (.own x)) x (.ins C dx [])) (fun v H2 => v = .non ∧ Q (.ref x) H2) (E σ)) : tMakeRX C sp E t σ H Q := q
end
def top (i : Nat) : Stmt := PySem.Challenge.pw_lossway_k09_spans_operators.main.body.getD i (.Pass ⟨0, 0, 0, 0⟩)
abbrev s_InvalidNumber_init_ : Stmt := inClass (top 3) 0
theorem st_InvalidNumber_init_ {t : TS} {D : Ends} {H : Hp} {v0 v1 : V} (h : t D [some v0, some v1] H) : t D (L2.start ["self", "number"] [v0, v1]) H := h
theorem sc_InvalidNumber_init_ : FnScope ["self", "number"] ["self", "number"] (defScope s_InvalidNumber_init_) := ⟨rfl, rfl, rfl, by decide +kernel, rfl, by decide +kernel, by decide +kernel⟩
abbrev s_is_integer : Stmt := top 5
theorem st_is_integer {t : TS} {D : Ends} {H : Hp} {v0 : V} (h : t D [some v0] H) : t D (L2.start ["value"] [v0]) H := h
theorem sc_is_integer : FnScope ["value"] ["value"] (defScope s_is_integer) := ⟨rfl, rfl, rfl, by decide +kernel, rfl, by decide +kernel, by decide +kernel⟩
abbrev s_is_at_least : Stmt := top 6
theorem st_is_at_least {t : TS} {D : Ends} {H : Hp} {v0 v1 : V} (h : t D [some v0, some v1] H) : t D (L2.start ["value", "low"] [v0, v1]) H := h
theorem sc_is_at_least : FnScope ["value", "low"] ["value", "low"] (defScope s_is_at_least) := ⟨rfl, rfl, rfl, by decide +kernel, rfl, by decide +kernel, by decide +kernel⟩
abbrev s_is_sequence : Stmt := top 7
theorem st_is_sequence {t : TS} {D : Ends} {H : Hp} {v0 : V} (h : t D [some v0] H) : t D (L2.start ["value"] [v0]) H := h
theorem sc_is_sequence : FnScope ["value"] ["value"] (defScope s_is_sequence) := ⟨rfl, rfl, rfl, by decide +kernel, rfl, by decide +kernel, by decide +kernel⟩
abbrev s_is_run : Stmt := top 9
theorem st_is_run {t : TS} {D : Ends} {H : Hp} {v0 : V} (h : t D [some v0] H) : t D (L2.start ["pair"] [v0]) H := h
theorem sc_is_run : FnScope ["pair"] ["pair"] (defScope s_is_run) := ⟨rfl, rfl, rfl, by decide +kernel, rfl, by decide +kernel, by decide +kernel⟩
abbrev s_joined : Stmt := top 10
theorem st_joined {t : TS} {D : Ends} {H : Hp} {v0 : V} (h : t D [some v0, none, none, none, none] H) : t D (L2.start ["pairs", "runs", "low", "high", "pair"] [v0]) H := h
theorem sc_joined : FnScope ["pairs", "runs", "low", "high", "pair"] ["pairs"] (defScope s_joined) := ⟨rfl, rfl, rfl, by decide +kernel, rfl, by decide +kernel, by decide +kernel⟩
abbrev s_missing : Stmt := top 11
theorem st_missing {t : TS} {D : Ends} {H : Hp} {v0 v1 v2 : V} (h : t D [some v0, some v1, some v2, none, none, none, none] H) : t D (L2.start ["runs", "low", "high", "found", "at", "start", "end"] [v0, v1, v2]) H := h
theorem sc_missing : FnScope ["runs", "low", "high", "found", "at", "start", "end"] ["runs", "low", "high"] (defScope s_missing) := ⟨rfl, rfl, rfl, by decide +kernel, rfl, by decide +kernel, by decide +kernel⟩
abbrev s_common : Stmt := top 12
theorem st_common {t : TS} {D : Ends} {H : Hp} {v0 v1 : V} (h : t D [some v0, some v1, none, none, none, none, none] H) : t D (L2.start ["first", "second", "found", "one", "two", "low", "high"] [v0, v1]) H := h
theorem sc_common : FnScope ["first", "second", "found", "one", "two", "low", "high"] ["first", "second"] (defScope s_common) := ⟨rfl, rfl, rfl, by decide +kernel, rfl, by decide +kernel, by decide +kernel⟩
abbrev s_without : Stmt := top 13
theorem st_without {t : TS} {D : Ends} {H : Hp} {v0 v1 : V} (h : t D [some v0, some v1, none] H) : t D (L2.start ["first", "second", "end"] [v0, v1]) H := h
theorem sc_without : FnScope ["first", "second", "end"] ["first", "second"] (defScope s_without) := ⟨rfl, rfl, rfl, by decide +kernel, rfl, by decide +kernel, by decide +kernel⟩
abbrev s_Spans_init_ : Stmt := inClass (top 14) 0
theorem st_Spans_init_ {t : TS} {D : Ends} {H : Hp} {v0 v1 : V} (h : t D [some v0, some v1, none] H) : t D (L2.start ["self", "pairs", "pair"] [v0, v1]) H := h
theorem sc_Spans_init_ : FnScope ["self", "pairs", "pair"] ["self", "pairs"] (defScope s_Spans_init_) := ⟨rfl, rfl, rfl, by decide +kernel, rfl, by decide +kernel, by decide +kernel⟩
abbrev s_Spans_or_ : Stmt := inClass (top 14) 1
theorem st_Spans_or_ {t : TS} {D : Ends} {H : Hp} {v0 v1 : V} (h : t D [some v0, some v1, none] H) : t D (L2.start ["self", "other", "runs"] [v0, v1]) H := h
theorem sc_Spans_or_ : FnScope ["self", "other", "runs"] ["self", "other"] (defScope s_Spans_or_) := ⟨rfl, rfl, rfl, by decide +kernel, rfl, by decide +kernel, by decide +kernel⟩
abbrev s_Spans_and_ : Stmt := inClass (top 14) 2
theorem st_Spans_and_ {t : TS} {D : Ends} {H : Hp} {v0 v1 : V} (h : t D [some v0, some v1, none] H) : t D (L2.start ["self", "other", "runs"] [v0, v1]) H := h
theorem sc_Spans_and_ : FnScope ["self", "other", "runs"] ["self", "other"] (defScope s_Spans_and_) := ⟨rfl, rfl, rfl, by decide +kernel, rfl, by decide +kernel, by decide +kernel⟩
abbrev s_Spans_sub_ : Stmt := inClass (top 14) 3
theorem st_Spans_sub_ {t : TS} {D : Ends} {H : Hp} {v0 v1 : V} (h : t D [some v0, some v1, none] H) : t D (L2.start ["self", "other", "runs"] [v0, v1]) H := h
theorem sc_Spans_sub_ : FnScope ["self", "other", "runs"] ["self", "other"] (defScope s_Spans_sub_) := ⟨rfl, rfl, rfl, by decide +kernel, rfl, by decide +kernel, by decide +kernel⟩
abbrev s_Spans_contains_ : Stmt := inClass (top 14) 4
theorem st_Spans_contains_ {t : TS} {D : Ends} {H : Hp} {v0 v1 : V} (h : t D [some v0, some v1] H) : t D (L2.start ["self", "offset"] [v0, v1]) H := h
theorem sc_Spans_contains_ : FnScope ["self", "offset"] ["self", "offset"] (defScope s_Spans_contains_) := ⟨rfl, rfl, rfl, by decide +kernel, rfl, by decide +kernel, by decide +kernel⟩
abbrev s_Spans_eq_ : Stmt := inClass (top 14) 5
theorem st_Spans_eq_ {t : TS} {D : Ends} {H : Hp} {v0 v1 : V} (h : t D [some v0, some v1] H) : t D (L2.start ["self", "other"] [v0, v1]) H := h
theorem sc_Spans_eq_ : FnScope ["self", "other"] ["self", "other"] (defScope s_Spans_eq_) := ⟨rfl, rfl, rfl, by decide +kernel, rfl, by decide +kernel, by decide +kernel⟩
abbrev s_Spans_len_ : Stmt := inClass (top 14) 6
theorem st_Spans_len_ {t : TS} {D : Ends} {H : Hp} {v0 : V} (h : t D [some v0] H) : t D (L2.start ["self"] [v0]) H := h
theorem sc_Spans_len_ : FnScope ["self"] ["self"] (defScope s_Spans_len_) := ⟨rfl, rfl, rfl, by decide +kernel, rfl, by decide +kernel, by decide +kernel⟩
abbrev s_Spans_rows : Stmt := inClass (top 14) 7
theorem st_Spans_rows {t : TS} {D : Ends} {H : Hp} {v0 : V} (h : t D [some v0] H) : t D (L2.start ["self"] [v0]) H := h
theorem sc_Spans_rows : FnScope ["self"] ["self"] (defScope s_Spans_rows) := ⟨rfl, rfl, rfl, by decide +kernel, rfl, by decide +kernel, by decide +kernel⟩
abbrev s_Spans_total : Stmt := inClass (top 14) 9
theorem st_Spans_total {t : TS} {D : Ends} {H : Hp} {v0 : V} (h : t D [some v0, none, none] H) : t D (L2.start ["self", "low", "high"] [v0]) H := h
theorem sc_Spans_total : FnScope ["self", "low", "high"] ["self"] (defScope s_Spans_total) := ⟨rfl, rfl, rfl, by decide +kernel, rfl, by decide +kernel, by decide +kernel⟩
abbrev s_Spans_put : Stmt := inClass (top 14) 10
theorem st_Spans_put {t : TS} {D : Ends} {H : Hp} {v0 v1 v2 : V} (h : t D [some v0, some v1, some v2] H) : t D (L2.start ["self", "low", "high"] [v0, v1, v2]) H := h
theorem sc_Spans_put : FnScope ["self", "low", "high"] ["self", "low", "high"] (defScope s_Spans_put) := ⟨rfl, rfl, rfl, by decide +kernel, rfl, by decide +kernel, by decide +kernel⟩
abbrev s_Spans_drop : Stmt := inClass (top 14) 11
theorem st_Spans_drop {t : TS} {D : Ends} {H : Hp} {v0 v1 v2 : V} (h : t D [some v0, some v1, some v2] H) : t D (L2.start ["self", "low", "high"] [v0, v1, v2]) H := h
theorem sc_Spans_drop : FnScope ["self", "low", "high"] ["self", "low", "high"] (defScope s_Spans_drop) := ⟨rfl, rfl, rfl, by decide +kernel, rfl, by decide +kernel, by decide +kernel⟩
abbrev s_Spans_holding : Stmt := inClass (top 14) 12
theorem st_Spans_holding {t : TS} {D : Ends} {H : Hp} {v0 v1 : V} (h : t D [some v0, some v1, none, none] H) : t D (L2.start ["self", "offset", "low", "high"] [v0, v1]) H := h
theorem sc_Spans_holding : FnScope ["self", "offset", "low", "high"] ["self", "offset"] (defScope s_Spans_holding) := ⟨rfl, rfl, rfl, by decide +kernel, rfl, by decide +kernel, by decide +kernel⟩
abbrev s__law_box : Stmt := top 16
theorem st__law_box {t : TS} {D : Ends} {H : Hp} {v0 : V} (h : t D [some v0] H) : t D (L2.start ["script"] [v0]) H := h
theorem sc__law_box : FnScope ["script"] ["script"] (defScope s__law_box) := ⟨rfl, rfl, rfl, by decide +kernel, rfl, by decide +kernel, by decide +kernel⟩
abbrev s__law_draw : Stmt := top 17
theorem st__law_draw {t : TS} {D : Ends} {H : Hp} {v0 v1 : V} (h : t D [some v0, some v1, none, none, none] H) : t D (L2.start ["box", "size", "cell", "digit", "mixed"] [v0, v1]) H := h
theorem sc__law_draw : FnScope ["box", "size", "cell", "digit", "mixed"] ["box", "size"] (defScope s__law_draw) := ⟨rfl, rfl, rfl, by decide +kernel, rfl, by decide +kernel, by decide +kernel⟩
abbrev s__law_end : Stmt := top 18
theorem st__law_end {t : TS} {D : Ends} {H : Hp} {v0 v1 : V} (h : t D [some v0, some v1, none, none, none] H) : t D (L2.start ["box", "ends", "way", "near", "upper"] [v0, v1]) H := h
theorem sc__law_end : FnScope ["box", "ends", "way", "near", "upper"] ["box", "ends"] (defScope s__law_end) := ⟨rfl, rfl, rfl, by decide +kernel, rfl, by decide +kernel, by decide +kernel⟩
abbrev s__law_pair : Stmt := top 19
theorem st__law_pair {t : TS} {D : Ends} {H : Hp} {v0 v1 : V} (h : t D [some v0, some v1, none, none] H) : t D (L2.start ["box", "ends", "one", "two"] [v0, v1]) H := h
theorem sc__law_pair : FnScope ["box", "ends", "one", "two"] ["box", "ends"] (defScope s__law_pair) := ⟨rfl, rfl, rfl, by decide +kernel, rfl, by decide +kernel, by decide +kernel⟩
abbrev s__law_has : Stmt := top 20
theorem st__law_has {t : TS} {D : Ends} {H : Hp} {v0 v1 : V} (h : t D [some v0, some v1, none, none] H) : t D (L2.start ["history", "offset", "has", "deed"] [v0, v1]) H := h
theorem sc__law_has : FnScope ["history", "offset", "has", "deed"] ["history", "offset"] (defScope s__law_has) := ⟨rfl, rfl, rfl, by decide +kernel, rfl, by decide +kernel, by decide +kernel⟩
abbrev s__law_due : Stmt := top 21
theorem st__law_due {t : TS} {D : Ends} {H : Hp} {v0 : V} (h : t D [some v0, none, none, none, none, none, none] H) : t D (L2.start ["history", "ends", "due", "k", "low", "high", "deed"] [v0]) H := h
theorem sc__law_due : FnScope ["history", "ends", "due", "k", "low", "high", "deed"] ["history"] (defScope s__law_due) := ⟨rfl, rfl, rfl, by decide +kernel, rfl, by decide +kernel, by decide +kernel⟩
abbrev s__law_is_whole : Stmt := top 22
theorem st__law_is_whole {t : TS} {D : Ends} {H : Hp} {v0 : V} (h : t D [some v0] H) : t D (L2.start ["value"] [v0]) H := h
theorem sc__law_is_whole : FnScope ["value"] ["value"] (defScope s__law_is_whole) := ⟨rfl, rfl, rfl, by decide +kernel, rfl, by decide +kernel, by decide +kernel⟩
abbrev s__law_pairs_are : Stmt := top 23
theorem st__law_pairs_are {t : TS} {D : Ends} {H : Hp} {v0 v1 : V} (h : t D [some v0, some v1, none] H) : t D (L2.start ["told", "due", "k"] [v0, v1]) H := h
theorem sc__law_pairs_are : FnScope ["told", "due", "k"] ["told", "due"] (defScope s__law_pairs_are) := ⟨rfl, rfl, rfl, by decide +kernel, rfl, by decide +kernel, by decide +kernel⟩
abbrev s__law_deed : Stmt := top 24
theorem st__law_deed {t : TS} {D : Ends} {H : Hp} {v0 v1 v2 v3 : V} (h : t D [some v0, some v1, some v2, some v3, none, none] H) : t D (L2.start ["box", "spans", "history", "ends", "pair", "adds"] [v0, v1, v2, v3]) H := h
theorem sc__law_deed : FnScope ["box", "spans", "history", "ends", "pair", "adds"] ["box", "spans", "history", "ends"] (defScope s__law_deed) := ⟨rfl, rfl, rfl, by decide +kernel, rfl, by decide +kernel, by decide +kernel⟩
abbrev s__law_filled : Stmt := top 25
theorem st__law_filled {t : TS} {D : Ends} {H : Hp} {v0 v1 v2 : V} (h : t D [some v0, some v1, some v2, none, none] H) : t D (L2.start ["box", "history", "ends", "spans", "k"] [v0, v1, v2]) H := h
theorem sc__law_filled : FnScope ["box", "history", "ends", "spans", "k"] ["box", "history", "ends"] (defScope s__law_filled) := ⟨rfl, rfl, rfl, by decide +kernel, rfl, by decide +kernel, by decide +kernel⟩
abbrev s__law_joined_has : Stmt := top 26
theorem st__law_joined_has {t : TS} {D : Ends} {H : Hp} {v0 v1 v2 v3 : V} (h : t D [some v0, some v1, some v2, some v3, none, none] H) : t D (L2.start ["one", "two", "way", "offset", "left", "right"] [v0, v1, v2, v3]) H := h
theorem sc__law_joined_has : FnScope ["one", "two", "way", "offset", "left", "right"] ["one", "two", "way", "offset"] (defScope s__law_joined_has) := ⟨rfl, rfl, rfl, by decide +kernel, rfl, by decide +kernel, by decide +kernel⟩
abbrev s__law_joined_due : Stmt := top 27
theorem st__law_joined_due {t : TS} {D : Ends} {H : Hp} {v0 v1 v2 : V} (h : t D [some v0, some v1, some v2, none, none, none, none, none, none, none] H) : t D (L2.start ["one", "two", "way", "both", "ends", "due", "k", "low", "high", "deed"] [v0, v1, v2]) H := h
theorem sc__law_joined_due : FnScope ["one", "two", "way", "both", "ends", "due", "k", "low", "high", "deed"] ["one", "two", "way"] (defScope s__law_joined_due) := ⟨rfl, rfl, rfl, by decide +kernel, rfl, by decide +kernel, by decide +kernel⟩
abbrev s__law_joined : Stmt := top 28
theorem st__law_joined {t : TS} {D : Ends} {H : Hp} {v0 v1 v2 : V} (h : t D [some v0, some v1, some v2] H) : t D (L2.start ["left", "right", "way"] [v0, v1, v2]) H := h
theorem sc__law_joined : FnScope ["left", "right", "way"] ["left", "right", "way"] (defScope s__law_joined) := ⟨rfl, rfl, rfl, by decide +kernel, rfl, by decide +kernel, by decide +kernel⟩
abbrev s__law_is_set : Stmt := top 29
theorem st__law_is_set {t : TS} {D : Ends} {H : Hp} {v0 v1 : V} (h : t D [some v0, some v1, none, none] H) : t D (L2.start ["spans", "due", "many", "pair"] [v0, v1]) H := h
theorem sc__law_is_set : FnScope ["spans", "due", "many", "pair"] ["spans", "due"] (defScope s__law_is_set) := ⟨rfl, rfl, rfl, by decide +kernel, rfl, by decide +kernel, by decide +kernel⟩
abbrev s__law_joins : Stmt := top 30
theorem st__law_joins {t : TS} {D : Ends} {H : Hp} {v0 v1 v2 v3 v4 v5 v6 : V} (h : t D [some v0, some v1, some v2, some v3, some v4, some v5, some v6, none, none, none, none, none, none, none, none] H) : t D (L2.start ["box", "sets", "histories", "ends", "left", "right", "way", "one", "two", "made", "due", "deed", "offset", "later", "pair"] [v0, v1, v2, v3, v4, v5, v6]) H := h
theorem sc__law_joins : FnScope ["box", "sets", "histories", "ends", "left", "right", "way", "one", "two", "made", "due", "deed", "offset", "later", "pair"] ["box", "sets", "histories", "ends", "left", "right", "way"] (defScope s__law_joins) := ⟨rfl, rfl, rfl, by decide +kernel, rfl, by decide +kernel, by decide +kernel⟩
abbrev s__law_rebuilt : Stmt := top 31
theorem st__law_rebuilt {t : TS} {D : Ends} {H : Hp} {v0 : V} (h : t D [some v0, none, none, none] H) : t D (L2.start ["due", "spans", "k", "pair"] [v0]) H := h
theorem sc__law_rebuilt : FnScope ["due", "spans", "k", "pair"] ["due"] (defScope s__law_rebuilt) := ⟨rfl, rfl, rfl, by decide +kernel, rfl, by decide +kernel, by decide +kernel⟩
abbrev s__law_equals : Stmt := top 32
theorem st__law_equals {t : TS} {D : Ends} {H : Hp} {v0 v1 : V} (h : t D [some v0, some v1, none, none, none] H) : t D (L2.start ["sets", "histories", "one", "two", "value"] [v0, v1]) H := h
theorem sc__law_equals : FnScope ["sets", "histories", "one", "two", "value"] ["sets", "histories"] (defScope s__law_equals) := ⟨rfl, rfl, rfl, by decide +kernel, rfl, by decide +kernel, by decide +kernel⟩
abbrev s_law : Stmt := top 33
theorem st_law {t : TS} {D : Ends} {H : Hp} {v0 : V} (h : t D [some v0, none, none, none, none, none, none, none, none, none, none, none] H) : t D (L2.start ["script", "box", "ends", "histories", "sets", "way", "order", "kept", "dues", "alone", "lone", "k"] [v0]) H := h
theorem sc_law : FnScope ["script", "box", "ends", "histories", "sets", "way", "order", "kept", "dues", "alone", "lone", "k"] ["script"] (defScope s_law) := ⟨rfl, rfl, rfl, by decide +kernel, rfl, by decide +kernel, by decide +kernel⟩

set_option maxHeartbeats 0 in
structure Txt (K : PySem.W.Frag) (mg : Str → Option Value) where
  c_Spans : Addr
  g_Spans : mg "Spans" = some (.ref c_Spans)
  cl_Spans : Cls K c_Spans
  n_Spans__runs : NoAttr K c_Spans "_runs"
  c_LossError : Addr
  c_InvalidNumber : Addr
  a_InvalidNumber_init_ : Addr
  fd_InvalidNumber_init_ : FuncData
  F_InvalidNumber_init_ : Fun K "__init__" "InvalidNumber.__init__" s_InvalidNumber_init_ a_InvalidNumber_init_ fd_InvalidNumber_init_
  B_InvalidNumber_init_ : Binds K fd_InvalidNumber_init_ ["self", "number"] []
  a_is_integer : Addr
  fd_is_integer : FuncData
  F_is_integer : Fun K "is_integer" "is_integer" s_is_integer a_is_integer fd_is_integer
  B_is_integer : Binds K fd_is_integer ["value"] []
  g_is_integer : mg "is_integer" = some (.ref a_is_integer)
  a_is_at_least : Addr
  fd_is_at_least : FuncData
  F_is_at_least : Fun K "is_at_least" "is_at_least" s_is_at_least a_is_at_least fd_is_at_least
  B_is_at_least : Binds K fd_is_at_least ["value", "low"] []
  g_is_at_least : mg "is_at_least" = some (.ref a_is_at_least)
  a_is_sequence : Addr
  fd_is_sequence : FuncData
  F_is_sequence : Fun K "is_sequence" "is_sequence" s_is_sequence a_is_sequence fd_is_sequence
  B_is_sequence : Binds K fd_is_sequence ["value"] []
  g_is_sequence : mg "is_sequence" = some (.ref a_is_sequence)
  a_is_run : Addr
  fd_is_run : FuncData
  F_is_run : Fun K "is_run" "is_run" s_is_run a_is_run fd_is_run
  B_is_run : Binds K fd_is_run ["pair"] []
  g_is_run : mg "is_run" = some (.ref a_is_run)
  a_joined : Addr
  fd_joined : FuncData
  F_joined : Fun K "joined" "joined" s_joined a_joined fd_joined
  B_joined : Binds K fd_joined ["pairs"] []
  g_joined : mg "joined" = some (.ref a_joined)
  a_missing : Addr
  fd_missing : FuncData
  F_missing : Fun K "missing" "missing" s_missing a_missing fd_missing
  B_missing : Binds K fd_missing ["runs", "low", "high"] []
  g_missing : mg "missing" = some (.ref a_missing)
  a_common : Addr
  fd_common : FuncData
  F_common : Fun K "common" "common" s_common a_common fd_common
  B_common : Binds K fd_common ["first", "second"] []
  g_common : mg "common" = some (.ref a_common)
  a_without : Addr
  fd_without : FuncData
  F_without : Fun K "without" "without" s_without a_without fd_without
  B_without : Binds K fd_without ["first", "second"] []
  g_without : mg "without" = some (.ref a_without)
  a_Spans_init_ : Addr
  fd_Spans_init_ : FuncData
  F_Spans_init_ : Fun K "__init__" "Spans.__init__" s_Spans_init_ a_Spans_init_ fd_Spans_init_
  BS_Spans_init_ : StarB fd_Spans_init_ ["self"] "pairs"
  M_Spans : Mk K c_Spans a_Spans_init_
  a_Spans_or_ : Addr
  fd_Spans_or_ : FuncData
  F_Spans_or_ : Fun K "__or__" "Spans.__or__" s_Spans_or_ a_Spans_or_ fd_Spans_or_
  B_Spans_or_ : Binds K fd_Spans_or_ ["self", "other"] []
  m_Spans_or_ : Meth K c_Spans "__or__" a_Spans_or_
  a_Spans_and_ : Addr
  fd_Spans_and_ : FuncData
  F_Spans_and_ : Fun K "__and__" "Spans.__and__" s_Spans_and_ a_Spans_and_ fd_Spans_and_
  B_Spans_and_ : Binds K fd_Spans_and_ ["self", "other"] []
  m_Spans_and_ : Meth K c_Spans "__and__" a_Spans_and_
  a_Spans_sub_ : Addr
  fd_Spans_sub_ : FuncData
  F_Spans_sub_ : Fun K "__sub__" "Spans.__sub__" s_Spans_sub_ a_Spans_sub_ fd_Spans_sub_
  B_Spans_sub_ : Binds K fd_Spans_sub_ ["self", "other"] []
  m_Spans_sub_ : Meth K c_Spans "__sub__" a_Spans_sub_
  a_Spans_contains_ : Addr
  fd_Spans_contains_ : FuncData
  F_Spans_contains_ : Fun K "__contains__" "Spans.__contains__" s_Spans_contains_ a_Spans_contains_ fd_Spans_contains_
  B_Spans_contains_ : Binds K fd_Spans_contains_ ["self", "offset"] []
  m_Spans_contains_ : Meth K c_Spans "__contains__" a_Spans_contains_
  a_Spans_eq_ : Addr
  fd_Spans_eq_ : FuncData
  F_Spans_eq_ : Fun K "__eq__" "Spans.__eq__" s_Spans_eq_ a_Spans_eq_ fd_Spans_eq_
  B_Spans_eq_ : Binds K fd_Spans_eq_ ["self", "other"] []
  m_Spans_eq_ : Meth K c_Spans "__eq__" a_Spans_eq_
  a_Spans_len_ : Addr
  fd_Spans_len_ : FuncData
  F_Spans_len_ : Fun K "__len__" "Spans.__len__" s_Spans_len_ a_Spans_len_ fd_Spans_len_
  B_Spans_len_ : Binds K fd_Spans_len_ ["self"] []
  m_Spans_len_ : Meth K c_Spans "__len__" a_Spans_len_
  a_Spans_rows : Addr
  fd_Spans_rows : FuncData
  F_Spans_rows : Fun K "rows" "Spans.rows" s_Spans_rows a_Spans_rows fd_Spans_rows
  B_Spans_rows : Binds K fd_Spans_rows ["self"] []
  m_Spans_rows : Meth K c_Spans "rows" a_Spans_rows
  a_Spans_total : Addr
  fd_Spans_total : FuncData
  F_Spans_total : Fun K "total" "Spans.total" s_Spans_total a_Spans_total fd_Spans_total
  B_Spans_total : Binds K fd_Spans_total ["self"] []
  m_Spans_total : Meth K c_Spans "total" a_Spans_total
  a_Spans_put : Addr
  fd_Spans_put : FuncData
  F_Spans_put : Fun K "put" "Spans.put" s_Spans_put a_Spans_put fd_Spans_put
  B_Spans_put : Binds K fd_Spans_put ["self", "low", "high"] []
  m_Spans_put : Meth K c_Spans "put" a_Spans_put
  a_Spans_drop : Addr
  fd_Spans_drop : FuncData
  F_Spans_drop : Fun K "drop" "Spans.drop" s_Spans_drop a_Spans_drop fd_Spans_drop
  B_Spans_drop : Binds K fd_Spans_drop ["self", "low", "high"] []
  m_Spans_drop : Meth K c_Spans "drop" a_Spans_drop
  a_Spans_holding : Addr
  fd_Spans_holding : FuncData
  F_Spans_holding : Fun K "holding" "Spans.holding" s_Spans_holding a_Spans_holding fd_Spans_holding
  B_Spans_holding : Binds K fd_Spans_holding ["self", "offset"] []
  m_Spans_holding : Meth K c_Spans "holding" a_Spans_holding
  a__law_box : Addr
  fd__law_box : FuncData
  F__law_box : Fun K "_law_box" "_law_box" s__law_box a__law_box fd__law_box
  B__law_box : Binds K fd__law_box ["script"] []
  g__law_box : mg "_law_box" = some (.ref a__law_box)
  a__law_draw : Addr
  fd__law_draw : FuncData
  F__law_draw : Fun K "_law_draw" "_law_draw" s__law_draw a__law_draw fd__law_draw
  B__law_draw : Binds K fd__law_draw ["box", "size"] []
  g__law_draw : mg "_law_draw" = some (.ref a__law_draw)
  a__law_end : Addr
  fd__law_end : FuncData
  F__law_end : Fun K "_law_end" "_law_end" s__law_end a__law_end fd__law_end
  B__law_end : Binds K fd__law_end ["box", "ends"] []
  g__law_end : mg "_law_end" = some (.ref a__law_end)
  a__law_pair : Addr
  fd__law_pair : FuncData
  F__law_pair : Fun K "_law_pair" "_law_pair" s__law_pair a__law_pair fd__law_pair
  B__law_pair : Binds K fd__law_pair ["box", "ends"] []
  g__law_pair : mg "_law_pair" = some (.ref a__law_pair)
  a__law_has : Addr
  fd__law_has : FuncData
  F__law_has : Fun K "_law_has" "_law_has" s__law_has a__law_has fd__law_has
  B__law_has : Binds K fd__law_has ["history", "offset"] []
  g__law_has : mg "_law_has" = some (.ref a__law_has)
  a__law_due : Addr
  fd__law_due : FuncData
  F__law_due : Fun K "_law_due" "_law_due" s__law_due a__law_due fd__law_due
  B__law_due : Binds K fd__law_due ["history"] []
  g__law_due : mg "_law_due" = some (.ref a__law_due)
  a__law_is_whole : Addr
  fd__law_is_whole : FuncData
  F__law_is_whole : Fun K "_law_is_whole" "_law_is_whole" s__law_is_whole a__law_is_whole fd__law_is_whole
  B__law_is_whole : Binds K fd__law_is_whole ["value"] []
  g__law_is_whole : mg "_law_is_whole" = some (.ref a__law_is_whole)
  a__law_pairs_are : Addr
  fd__law_pairs_are : FuncData
  F__law_pairs_are : Fun K "_law_pairs_are" "_law_pairs_are" s__law_pairs_are a__law_pairs_are fd__law_pairs_are
  B__law_pairs_are : Binds K fd__law_pairs_are ["told", "due"] []
  g__law_pairs_are : mg "_law_pairs_are" = some (.ref a__law_pairs_are)
  a__law_deed : Addr
  fd__law_deed : FuncData
  F__law_deed : Fun K "_law_deed" "_law_deed" s__law_deed a__law_deed fd__law_deed
  B__law_deed : Binds K fd__law_deed ["box", "spans", "history", "ends"] []
  g__law_deed : mg "_law_deed" = some (.ref a__law_deed)
  a__law_filled : Addr
  fd__law_filled : FuncData
  F__law_filled : Fun K "_law_filled" "_law_filled" s__law_filled a__law_filled fd__law_filled
  B__law_filled : Binds K fd__law_filled ["box", "history", "ends"] []
  g__law_filled : mg "_law_filled" = some (.ref a__law_filled)
  a__law_joined_has : Addr
  fd__law_joined_has : FuncData
  F__law_joined_has : Fun K "_law_joined_has" "_law_joined_has" s__law_joined_has a__law_joined_has fd__law_joined_has
  B__law_joined_has : Binds K fd__law_joined_has ["one", "two", "way", "offset"] []
  g__law_joined_has : mg "_law_joined_has" = some (.ref a__law_joined_has)
  a__law_joined_due : Addr
  fd__law_joined_due : FuncData
  F__law_joined_due : Fun K "_law_joined_due" "_law_joined_due" s__law_joined_due a__law_joined_due fd__law_joined_due
  B__law_joined_due : Binds K fd__law_joined_due ["one", "two", "way"] []
  g__law_joined_due : mg "_law_joined_due" = some (.ref a__law_joined_due)
  a__law_joined : Addr
  fd__law_joined : FuncData
  F__law_joined : Fun K "_law_joined" "_law_joined" s__law_joined a__law_joined fd__law_joined
  B__law_joined : Binds K fd__law_joined ["left", "right", "way"] []
  g__law_joined : mg "_law_joined" = some (.ref a__law_joined)
  a__law_is_set : Addr
  fd__law_is_set : FuncData
  F__law_is_set : Fun K "_law_is_set" "_law_is_set" s__law_is_set a__law_is_set fd__law_is_set
  B__law_is_set : Binds K fd__law_is_set ["spans", "due"] []
  g__law_is_set : mg "_law_is_set" = some (.ref a__law_is_set)
  a__law_joins : Addr
  fd__law_joins : FuncData
  F__law_joins : Fun K "_law_joins" "_law_joins" s__law_joins a__law_joins fd__law_joins
  B__law_joins : Binds K fd__law_joins ["box", "sets", "histories", "ends", "left", "right", "way"] []
  g__law_joins : mg "_law_joins" = some (.ref a__law_joins)
  a__law_rebuilt : Addr
  fd__law_rebuilt : FuncData
  F__law_rebuilt : Fun K "_law_rebuilt" "_law_rebuilt" s__law_rebuilt a__law_rebuilt fd__law_rebuilt
  B__law_rebuilt : Binds K fd__law_rebuilt ["due"] []
  g__law_rebuilt : mg "_law_rebuilt" = some (.ref a__law_rebuilt)
  a__law_equals : Addr
  fd__law_equals : FuncData
  F__law_equals : Fun K "_law_equals" "_law_equals" s__law_equals a__law_equals fd__law_equals
  B__law_equals : Binds K fd__law_equals ["sets", "histories"] []
  g__law_equals : mg "_law_equals" = some (.ref a__law_equals)
  a_law : Addr
  fd_law : FuncData
  F_law : Fun K "law" "law" s_law a_law fd_law
  B_law : Binds K fd_law ["script"] []
  g_law : mg "law" = some (.ref a_law)
  X_LossError : GCls mg "LossError" c_LossError
  X_InvalidNumber : XCls K mg "InvalidNumber" c_InvalidNumber a_InvalidNumber_init_
  nX_InvalidNumber : PySem.W.findIn K (.ref c_InvalidNumber) "number" = some none
  Me_InvalidNumber_InvalidNumber : PySem.W.exmOne K (.ref c_InvalidNumber) (.ref c_InvalidNumber) = some true
  Kt_InvalidNumber_InvalidNumber : PySem.W.kitOne K (.ref c_InvalidNumber) (.ref c_InvalidNumber) = some true
  Kt_InvalidNumber_LossError : PySem.W.kitOne K (.ref c_InvalidNumber) (.ref c_LossError) = some true
  Kv_InvalidNumber : PySem.W.kitOne K (.ref c_InvalidNumber) (.type "ValueError") = some true
  rc_Spans : PySem.W.findIn K (.ref c_Spans) "__class__" = some (some (.builtin "object.__class__"))
  rm_Spans : PySem.W.mroIn K c_Spans (.type "object") = some true
  ri_get : PySem.W.specialIn K (.builtin "object.__class__") "__get__" = some (some (.builtin "getset_descriptor.__get__"))
  ri_tk : PySem.W.takesIn K (.builtin "object.__class__") = some true
  ki_Spans_Spans : PySem.W.kitOne K (.ref c_Spans) (.ref c_Spans) = some true
  kb_NoneType : PySem.W.kitOne K (.type "NoneType") (.ref c_Spans) = some false
  kb_bool : PySem.W.kitOne K (.type "bool") (.ref c_Spans) = some false
  kb_int : PySem.W.kitOne K (.type "int") (.ref c_Spans) = some false
  kb_str : PySem.W.kitOne K (.type "str") (.ref c_Spans) = some false
  kb_tuple : PySem.W.kitOne K (.type "tuple") (.ref c_Spans) = some false
  kb_list : PySem.W.kitOne K (.type "list") (.ref c_Spans) = some false
  sf_Spans : PySem.W.selfFirst K c_Spans = true
  nf_NoneType : PySem.W.notFirst K c_Spans (.type "NoneType") = true
  nf_bool : PySem.W.notFirst K c_Spans (.type "bool") = true
  nf_int : PySem.W.notFirst K c_Spans (.type "int") = true
  nf_str : PySem.W.notFirst K c_Spans (.type "str") = true
  nf_tuple : PySem.W.notFirst K c_Spans (.type "tuple") = true
  nf_list : PySem.W.notFirst K c_Spans (.type "list") = true
  sb_NoneType : PySem.W.subIn K (.ref c_Spans) (.type "NoneType") = some false
  sb_bool : PySem.W.subIn K (.ref c_Spans) (.type "bool") = some false
  sb_int : PySem.W.subIn K (.ref c_Spans) (.type "int") = some false
  sb_str : PySem.W.subIn K (.ref c_Spans) (.type "str") = some false
  sb_tuple : PySem.W.subIn K (.ref c_Spans) (.type "tuple") = some false
  sb_list : PySem.W.subIn K (.ref c_Spans) (.type "list") = some false
  b_NotImplemented : mg "NotImplemented" = none
  b_abs : mg "abs" = none
  b_bool : mg "bool" = none
  b_int : mg "int" = none
  b_isinstance : mg "isinstance" = none
  b_len : mg "len" = none
  b_list : mg "list" = none
  b_max : mg "max" = none
  b_min : mg "min" = none
  b_range : mg "range" = none
  b_sorted : mg "sorted" = none
  b_sum : mg "sum" = none
  b_tuple : mg "tuple" = none

section
variable {P : Program} {w : World} {K : PySem.W.Frag} {mg : Str → Option Value} {base : Heap}
/-! ### kinds of values -/
/-- whether x is an int and no bool, by its kind -/
def IntK (K : PySem.W.Frag) (H : Hp) (x : V) (r : Bool) : Prop := ∃ (t : Value) (i b : Bool), TyX K H x t ∧ PySem.W.kitOne K t (.type "int") = some i ∧ PySem.W.kitOne K t (.type "bool") = some b ∧ r = (i && !b)
theorem intK_int {K : PySem.W.Frag} {H : Hp} (n : Int) : IntK K H (.int n) true := ⟨.type "int", true, false, .base (.int n), kit_ty (by decide +kernel), kit_ty (by decide +kernel), rfl⟩
/-- isinstance(x, int) and not isinstance(x, bool) -/
def sp_is_integer (K : PySem.W.Frag) : Sp := fun vs H Q _ => ∃ (x : V) (r : Bool), vs = [x] ∧ IntK K H x r ∧ Q (.bl r) H
theorem ok_is_integer (T : Txt K mg) : FnOk P w K mg base CX0 1 T.a_is_integer T.fd_is_integer ["value"] (sp_is_integer K) := by
  have S := sc_is_integer
  refine T.F_is_integer.ok S (fun vs H Q E h => ?_) (fun cdv A outer s H vs Q E hr h => ?_)
  · obtain ⟨x, r, rfl, _⟩ := h
    rfl
  · obtain ⟨x, r, rfl, ⟨t, i, b, ty, hi, hb, rfl⟩, k⟩ := h
    refine ⟨_, (pss_one (ps_ret (pe_and (pe_callB (id := "isinstance") call_isi (by rfl) T.b_isinstance (by decide +kernel) (pa_cons (pv 0) (pa_cons (pe_bltn (v := .ty "int") (u := .type "int") (by rfl) T.b_int (by decide +kernel) rfl) pa_nil))) (pe_one (pe_not (pe_callB (id := "isinstance") call_isi (by rfl) T.b_isinstance (by decide +kernel) (pa_cons (pv 0) (pa_cons (pe_bltn (v := .ty "bool") (u := .type "bool") (by rfl) T.b_bool (by decide +kernel) rfl) pa_nil)))))))), ?_⟩
    refine ⟨_, rfl, _, _, _, _, i, rfl, .ty _, ty, hi, i, rfl, ?_⟩
    cases i with
    | false => exact iteF k
    | true => exact iteT ⟨_, rfl, _, _, _, _, b, rfl, .ty _, ty, hb, b, rfl, k⟩
/-! ### sequences, items by their kinds -/
theorem tyX_same {K : PySem.W.Frag} {H H' : Hp} {x : V} {t : Value} (h : TyX K H x t) (s : Same H H') : TyX K H' x t := by
  cases h with
  | base b =>
    refine .base ?_
    cases b with
    | non => exact .non
    | bl y => exact .bl y
    | int i => exact .int i
    | str y => exact .str y
    | flt y => exact .flt y
    | lst e => exact .lst (s _ _ e)
    | frz e => exact .frz (s _ _ e)
    | tup e => exact .tup (s _ _ e)
    | dK e => exact .dK (s _ _ e)
    | dT e => exact .dT (s _ _ e)
    | ins e cl ha hn ht hm => exact .ins (s _ _ e) cl ha hn ht hm
  | byt b => exact .byt b
  | set e => exact .set (s _ _ e)
  | kList e c => exact .kList e c
  | kTuple e c => exact .kTuple e c
  | kDict e c => exact .kDict e c
  | fTuple e => exact .fTuple (s _ _ e)
  | fDict e => exact .fDict (s _ _ e)
theorem IntK.same {K : PySem.W.Frag} {H H' : Hp} {x : V} {r : Bool} (h : IntK K H x r) (s : Same H H') : IntK K H' x r := by
  obtain ⟨t, i, b, ty, h1, h2, h3⟩ := h
  exact ⟨t, i, b, tyX_same ty s, h1, h2, h3⟩
/-- x is the int n, or no int at all -/
def Kd (K : PySem.W.Frag) (H : Hp) (x : V) : Option Int → Prop
  | some n => x = .int n
  | none => IntK K H x false
theorem Kd.same {K : PySem.W.Frag} {H H' : Hp} {x : V} {o : Option Int} (h : Kd K H x o) (s : Same H H') : Kd K H' x o := by
  cases o with
  | some n => exact h
  | none => exact IntK.same h s
/-- what lies in lo .. hi -/
def inR (lo hi : Int) : Option Int → Bool
  | some n => decide (lo ≤ n) && decide (n ≤ hi)
  | none => false
/-- a list or a tuple -/
def SeqA (K : PySem.W.Frag) (H : Hp) (a : Addr) (xs : List V) : Prop := SqL K H a xs ∨ SqT K H a xs
theorem SeqA.lst {K : PySem.W.Frag} {H : Hp} {a : Addr} {xs : List V} (h : H a = some (.lst xs)) : SeqA K H a xs := .inl (SqL.of h)
theorem SeqA.tup {K : PySem.W.Frag} {H : Hp} {a : Addr} {xs : List V} (h : H a = some (.tup xs)) : SeqA K H a xs := .inr (SqT.of h)
theorem SeqA.sm {K : PySem.W.Frag} {H H' : Hp} {a : Addr} {xs : List V} (h : SeqA K H a xs) (s : Same H H') : SeqA K H' a xs := h.elim (fun h => .inl (s.seq h)) fun h => .inr (sqT_sm h s)
/-- whether x is a sequence, by its kind -/
def SeqK (K : PySem.W.Frag) (H : Hp) (x : V) (r : Bool) : Prop := ∃ t, TyX K H x t ∧ PySem.W.kitAny K t [.type "list", .type "tuple"] = some r
theorem kit2 {K : PySem.W.Frag} {t : Value} {a b : Bool} (h1 : PySem.W.kitOne K t (.type "list") = some a) (h2 : PySem.W.kitOne K t (.type "tuple") = some b) : PySem.W.kitAny K t [.type "list", .type "tuple"] = some (a || b) := by
  unfold PySem.W.kitAny
  rw [h1]
  cases a with
  | true => rfl
  | false =>
    show PySem.W.kitAny K t [.type "tuple"] = some b
    unfold PySem.W.kitAny
    rw [h2]
    cases b <;> rfl
theorem seqK_ty {K : PySem.W.Frag} {H : Hp} {x : V} {n : String} {a b : Bool} (t : TyX K H x (.type n)) (h1 : kitB n "list" = some a) (h2 : kitB n "tuple" = some b) : SeqK K H x (a || b) := ⟨_, t, kit2 (kit_ty h1) (kit_ty h2)⟩
theorem seqK_of {K : PySem.W.Frag} {H : Hp} {a : Addr} {xs : List V} (h : SeqA K H a xs) : SeqK K H (.ref a) true := by
  rcases h with h | h
  · rcases h with (h | ⟨o, h⟩) | ⟨o, its, n, hk, hc, _⟩
    · exact seqK_ty (a := true) (b := false) (.base (.lst h)) (by decide +kernel) (by decide +kernel)
    · exact seqK_ty (a := true) (b := false) (.base (.frz h)) (by decide +kernel) (by decide +kernel)
    · exact seqK_ty (a := true) (b := false) (.kList hk hc) (by decide +kernel) (by decide +kernel)
  · rcases h with (h | ⟨o, h⟩) | ⟨o, its, n, hk, hc, _⟩
    · exact seqK_ty (a := false) (b := true) (.base (.tup h)) (by decide +kernel) (by decide +kernel)
    · exact seqK_ty (a := false) (b := true) (.fTuple h) (by decide +kernel) (by decide +kernel)
    · exact seqK_ty (a := false) (b := true) (.kTuple hk hc) (by decide +kernel) (by decide +kernel)
/-! ### lists stay lists -/
def Typ (H H' : Hp) : Prop := ∀ a o, H a = some o → H' a = some o ∨ ((∃ xs, o = .lst xs) ∧ ∃ ys, H' a = some (.lst ys))
theorem Typ.refl (H : Hp) : Typ H H := fun _ _ h => .inl h
theorem Typ.of {H H' : Hp} (s : Same H H') : Typ H H' := fun _ _ h => .inl (s _ _ h)
theorem Typ.trans {H H1 H2 : Hp} (x : Typ H H1) (y : Typ H1 H2) : Typ H H2 := fun a o h => by
  rcases x a o h with h1 | ⟨hx, ys, h1⟩
  · exact y a o h1
  · rcases y a _ h1 with h2 | ⟨_, zs, h2⟩
    · exact .inr ⟨hx, ys, h2⟩
    · exact .inr ⟨hx, zs, h2⟩
theorem Typ.upd {H : Hp} {a : Addr} {xs ys : List V} (h : H a = some (.lst xs)) : Typ H (L2.upd H a (.lst ys)) := fun b o hb => by
  by_cases q : b = a
  · subst q
    rw [h] at hb
    cases hb
    exact .inr ⟨⟨_, rfl⟩, ys, upd_same⟩
  · exact .inl (by rw [upd_ne q]; exact hb)
theorem Typ.purse {H H' : Hp} {p c : Addr} (P : Purse p c H) (P' : Purse p c H') (s : SameX p H H') : Typ H H' := fun b o hb => by
  by_cases q : b = p
  · subst q
    obtain ⟨⟨xs, h⟩, _⟩ := P.there
    obtain ⟨⟨ys, h'⟩, _⟩ := P'.there
    rw [h] at hb
    cases hb
    exact .inr ⟨⟨_, rfl⟩, ys, h'⟩
  · exact .inl (s b o q hb)
theorem tyX_typ {K : PySem.W.Frag} {H H' : Hp} {x : V} {t : Value} (h : TyX K H x t) (s : Typ H H') : TyX K H' x t := by
  cases h with
  | base b =>
    refine .base ?_
    cases b with
    | non => exact .non
    | bl y => exact .bl y
    | int i => exact .int i
    | str y => exact .str y
    | flt y => exact .flt y
    | lst e => exact (s _ _ e).elim (fun h => .lst h) fun ⟨_, ys, h⟩ => .lst h
    | frz e => exact (s _ _ e).elim (fun h => .frz h) fun ⟨⟨_, z⟩, _⟩ => nomatch z
    | tup e => exact (s _ _ e).elim (fun h => .tup h) fun ⟨⟨_, z⟩, _⟩ => nomatch z
    | dK e => exact (s _ _ e).elim (fun h => .dK h) fun ⟨⟨_, z⟩, _⟩ => nomatch z
    | dT e => exact (s _ _ e).elim (fun h => .dT h) fun ⟨⟨_, z⟩, _⟩ => nomatch z
    | ins e cl ha hn ht hm => exact (s _ _ e).elim (fun h => .ins h cl ha hn ht hm) fun ⟨⟨_, z⟩, _⟩ => nomatch z
  | byt b => exact .byt b
  | set e => exact (s _ _ e).elim (fun h => .set h) fun ⟨⟨_, z⟩, _⟩ => nomatch z
  | kList e c => exact .kList e c
  | kTuple e c => exact .kTuple e c
  | kDict e c => exact .kDict e c
  | fTuple e => exact (s _ _ e).elim (fun h => .fTuple h) fun ⟨⟨_, z⟩, _⟩ => nomatch z
  | fDict e => exact (s _ _ e).elim (fun h => .fDict h) fun ⟨⟨_, z⟩, _⟩ => nomatch z
theorem Kd.typ {K : PySem.W.Frag} {H H' : Hp} {x : V} {o : Option Int} (h : Kd K H x o) (s : Typ H H') : Kd K H' x o := by
  cases o with
  | some n => exact h
  | none =>
    obtain ⟨t, i, b, ty, h1, h2, h3⟩ := (show IntK K H x false from h)
    exact ⟨t, i, b, tyX_typ ty s, h1, h2, h3⟩
theorem intK_no {K : PySem.W.Frag} {H : Hp} {x : V} {n : String} {i b : Bool} (t : TyX K H x (.type n)) (h1 : kitB n "int" = some i) (h2 : kitB n "bool" = some b) (h : (i && !b) = false) : IntK K H x false := ⟨_, i, b, t, kit_ty h1, kit_ty h2, h.symm⟩
theorem ixN_nat {n j : Nat} {z : Int} (e : z = (j : Int)) (h : j < n) : ixN n z = some j := by
  subst e
  unfold ixN
  rw [if_pos (by omega), if_pos (by omega)]
  rfl
/-! ### equality of words -/
theorem dec_int (a b : Int) : decide (V.int a = V.int b) = decide (a = b) := by
  by_cases e : a = b
  · rw [decide_eq_true e, decide_eq_true (congrArg V.int e)]
  · rw [decide_eq_false e, decide_eq_false (fun q => e (V.int.inj q))]
theorem dec_bl (a b : Bool) : decide (V.bl a = V.bl b) = (a == b) := by
  cases a <;> cases b <;> rfl
/-! ### steps: readings by their form -/
section
variable {K : PySem.W.Frag} {σ : L2.St} {H : Hp} {Q : VK} {QL : List V → Hp → Prop} {QB : Bool → Hp → Prop} {QO : Option Int → Hp → Prop} {QS : L2.St → Hp → Prop} {v w : V} {a0 a1 a2 a3 a4 a5 a6 a7 a8 a9 a10 a11 a12 a13 a14 a15 a16 a17 a18 a19 : Option V} {te tb tc : TE} {ta : TA} {t u : TT} {ts us : TS} {D : Ends} {g : TG}
def rTupOf (K : PySem.W.Frag) : List V → Hp → VK → Prop := fun xs H Q => ∃ p ys, xs = [.ref p] ∧ ((SqL K H p ys ∧ ∀ l, H l = none → Q (.ref l) (L2.upd H l (.tup ys))) ∨ SqT K H p ys ∧ Q (.ref p) H)
theorem call_tupK {X : Cx} {K : PySem.W.Frag} (e : X.K = K) : CallR X (.type "tuple") (rTupOf K) := e ▸ call_tuple_of
def rLstOf (K : PySem.W.Frag) : List V → Hp → VK → Prop := fun xs H Q => ∃ p ys, xs = [.ref p] ∧ (SqL K H p ys ∨ SqT K H p ys) ∧ ∀ l, H l = none → Q (.ref l) (L2.upd H l (.lst ys))
theorem call_listK {X : Cx} {K : PySem.W.Frag} (e : X.K = K) : CallR X (.type "list") (rLstOf K) := e ▸ call_list_of
def rLenOf (K : PySem.W.Frag) : List V → Hp → VK → Prop := fun xs H Q => ∃ p ys, xs = [.ref p] ∧ (SqL K H p ys ∨ SqT K H p ys) ∧ Q (.int (ys.length : Int)) H
theorem call_lenK {X : Cx} {K : PySem.W.Frag} (e : X.K = K) : CallR X (.builtin "len") (rLenOf K) := e ▸ call_len_seq
theorem all_cons {α : Type} {p : α → Prop} {a : α} {l : List α} (h : p a) (r : ∀ q ∈ l, p q) : ∀ q ∈ a :: l, p q := fun q hq => by
  rcases List.mem_cons.mp hq with e | e
  · rw [e]; exact h
  · exact r q e
theorem x_v0 (q : Q v H) : tVar 0 (some v :: σ) H Q := ⟨_, rfl, q⟩
theorem x_g0 (q : QS (some v :: σ) H) : gName 0 v (a0 :: σ) H QS := q
theorem x_v1 (q : Q v H) : tVar 1 (a0 :: some v :: σ) H Q := ⟨_, rfl, q⟩
theorem x_g1 (q : QS (a0 :: some v :: σ) H) : gName 1 v (a0 :: a1 :: σ) H QS := q
theorem x_v2 (q : Q v H) : tVar 2 (a0 :: a1 :: some v :: σ) H Q := ⟨_, rfl, q⟩
theorem x_g2 (q : QS (a0 :: a1 :: some v :: σ) H) : gName 2 v (a0 :: a1 :: a2 :: σ) H QS := q
theorem x_v3 (q : Q v H) : tVar 3 (a0 :: a1 :: a2 :: some v :: σ) H Q := ⟨_, rfl, q⟩
theorem x_g3 (q : QS (a0 :: a1 :: a2 :: some v :: σ) H) : gName 3 v (a0 :: a1 :: a2 :: a3 :: σ) H QS := q
theorem x_v4 (q : Q v H) : tVar 4 (a0 :: a1 :: a2 :: a3 :: some v :: σ) H Q := ⟨_, rfl, q⟩
theorem x_g4 (q : QS (a0 :: a1 :: a2 :: a3 :: some v :: σ) H) : gName 4 v (a0 :: a1 :: a2 :: a3 :: a4 :: σ) H QS := q
theorem x_v5 (q : Q v H) : tVar 5 (a0 :: a1 :: a2 :: a3 :: a4 :: some v :: σ) H Q := ⟨_, rfl, q⟩
theorem x_g5 (q : QS (a0 :: a1 :: a2 :: a3 :: a4 :: some v :: σ) H) : gName 5 v (a0 :: a1 :: a2 :: a3 :: a4 :: a5 :: σ) H QS := q
theorem x_v6 (q : Q v H) : tVar 6 (a0 :: a1 :: a2 :: a3 :: a4 :: a5 :: some v :: σ) H Q := ⟨_, rfl, q⟩
theorem x_g6 (q : QS (a0 :: a1 :: a2 :: a3 :: a4 :: a5 :: some v :: σ) H) : gName 6 v (a0 :: a1 :: a2 :: a3 :: a4 :: a5 :: a6 :: σ) H QS := q
theorem x_v7 (q : Q v H) : tVar 7 (a0 :: a1 :: a2 :: a3 :: a4 :: a5 :: a6 :: some v :: σ) H Q := ⟨_, rfl, q⟩
theorem x_g7 (q : QS (a0 :: a1 :: a2 :: a3 :: a4 :: a5 :: a6 :: some v :: σ) H) : gName 7 v (a0 :: a1 :: a2 :: a3 :: a4 :: a5 :: a6 :: a7 :: σ) H QS := q
theorem x_v8 (q : Q v H) : tVar 8 (a0 :: a1 :: a2 :: a3 :: a4 :: a5 :: a6 :: a7 :: some v :: σ) H Q := ⟨_, rfl, q⟩
theorem x_g8 (q : QS (a0 :: a1 :: a2 :: a3 :: a4 :: a5 :: a6 :: a7 :: some v :: σ) H) : gName 8 v (a0 :: a1 :: a2 :: a3 :: a4 :: a5 :: a6 :: a7 :: a8 :: σ) H QS := q
theorem x_v9 (q : Q v H) : tVar 9 (a0 :: a1 :: a2 :: a3 :: a4 :: a5 :: a6 :: a7 :: a8 :: some v :: σ) H Q := ⟨_, rfl, q⟩
theorem x_g9 (q : QS (a0 :: a1 :: a2 :: a3 :: a4 :: a5 :: a6 :: a7 :: a8 :: some v :: σ) H) : gName 9 v (a0 :: a1 :: a2 :: a3 :: a4 :: a5 :: a6 :: a7 :: a8 :: a9 :: σ) H QS := q
theorem x_v10 (q : Q v H) : tVar 10 (a0 :: a1 :: a2 :: a3 :: a4 :: a5 :: a6 :: a7 :: a8 :: a9 :: some v :: σ) H Q := ⟨_, rfl, q⟩
theorem x_g10 (q : QS (a0 :: a1 :: a2 :: a3 :: a4 :: a5 :: a6 :: a7 :: a8 :: a9 :: some v :: σ) H) : gName 10 v (a0 :: a1 :: a2 :: a3 :: a4 :: a5 :: a6 :: a7 :: a8 :: a9 :: a10 :: σ) H QS := q
theorem x_v11 (q : Q v H) : tVar 11 (a0 :: a1 :: a2 :: a3 :: a4 :: a5 :: a6 :: a7 :: a8 :: a9 :: a10 :: some v :: σ) H Q := ⟨_, rfl, q⟩
theorem x_g11 (q : QS (a0 :: a1 :: a2 :: a3 :: a4 :: a5 :: a6 :: a7 :: a8 :: a9 :: a10 :: some v :: σ) H) : gName 11 v (a0 :: a1 :: a2 :: a3 :: a4 :: a5 :: a6 :: a7 :: a8 :: a9 :: a10 :: a11 :: σ) H QS := q
theorem x_v12 (q : Q v H) : tVar 12 (a0 :: a1 :: a2 :: a3 :: a4 :: a5 :: a6 :: a7 :: a8 :: a9 :: a10 :: a11 :: some v :: σ) H Q := ⟨_, rfl, q⟩
theorem x_g12 (q : QS (a0 :: a1 :: a2 :: a3 :: a4 :: a5 :: a6 :: a7 :: a8 :: a9 :: a10 :: a11 :: some v :: σ) H) : gName 12 v (a0 :: a1 :: a2 :: a3 :: a4 :: a5 :: a6 :: a7 :: a8 :: a9 :: a10 :: a11 :: a12 :: σ) H QS := q
theorem x_v13 (q : Q v H) : tVar 13 (a0 :: a1 :: a2 :: a3 :: a4 :: a5 :: a6 :: a7 :: a8 :: a9 :: a10 :: a11 :: a12 :: some v :: σ) H Q := ⟨_, rfl, q⟩
theorem x_g13 (q : QS (a0 :: a1 :: a2 :: a3 :: a4 :: a5 :: a6 :: a7 :: a8 :: a9 :: a10 :: a11 :: a12 :: some v :: σ) H) : gName 13 v (a0 :: a1 :: a2 :: a3 :: a4 :: a5 :: a6 :: a7 :: a8 :: a9 :: a10 :: a11 :: a12 :: a13 :: σ) H QS := q
theorem x_v14 (q : Q v H) : tVar 14 (a0 :: a1 :: a2 :: a3 :: a4 :: a5 :: a6 :: a7 :: a8 :: a9 :: a10 :: a11 :: a12 :: a13 :: some v :: σ) H Q := ⟨_, rfl, q⟩
theorem x_g14 (q : QS (a0 :: a1 :: a2 :: a3 :: a4 :: a5 :: a6 :: a7 :: a8 :: a9 :: a10 :: a11 :: a12 :: a13 :: some v :: σ) H) : gName 14 v (a0 :: a1 :: a2 :: a3 :: a4 :: a5 :: a6 :: a7 :: a8 :: a9 :: a10 :: a11 :: a12 :: a13 :: a14 :: σ) H QS := q
theorem x_v15 (q : Q v H) : tVar 15 (a0 :: a1 :: a2 :: a3 :: a4 :: a5 :: a6 :: a7 :: a8 :: a9 :: a10 :: a11 :: a12 :: a13 :: a14 :: some v :: σ) H Q := ⟨_, rfl, q⟩
theorem x_g15 (q : QS (a0 :: a1 :: a2 :: a3 :: a4 :: a5 :: a6 :: a7 :: a8 :: a9 :: a10 :: a11 :: a12 :: a13 :: a14 :: some v :: σ) H) : gName 15 v (a0 :: a1 :: a2 :: a3 :: a4 :: a5 :: a6 :: a7 :: a8 :: a9 :: a10 :: a11 :: a12 :: a13 :: a14 :: a15 :: σ) H QS := q
theorem x_v16 (q : Q v H) : tVar 16 (a0 :: a1 :: a2 :: a3 :: a4 :: a5 :: a6 :: a7 :: a8 :: a9 :: a10 :: a11 :: a12 :: a13 :: a14 :: a15 :: some v :: σ) H Q := ⟨_, rfl, q⟩
theorem x_g16 (q : QS (a0 :: a1 :: a2 :: a3 :: a4 :: a5 :: a6 :: a7 :: a8 :: a9 :: a10 :: a11 :: a12 :: a13 :: a14 :: a15 :: some v :: σ) H) : gName 16 v (a0 :: a1 :: a2 :: a3 :: a4 :: a5 :: a6 :: a7 :: a8 :: a9 :: a10 :: a11 :: a12 :: a13 :: a14 :: a15 :: a16 :: σ) H QS := q
theorem x_v17 (q : Q v H) : tVar 17 (a0 :: a1 :: a2 :: a3 :: a4 :: a5 :: a6 :: a7 :: a8 :: a9 :: a10 :: a11 :: a12 :: a13 :: a14 :: a15 :: a16 :: some v :: σ) H Q := ⟨_, rfl, q⟩
theorem x_g17 (q : QS (a0 :: a1 :: a2 :: a3 :: a4 :: a5 :: a6 :: a7 :: a8 :: a9 :: a10 :: a11 :: a12 :: a13 :: a14 :: a15 :: a16 :: some v :: σ) H) : gName 17 v (a0 :: a1 :: a2 :: a3 :: a4 :: a5 :: a6 :: a7 :: a8 :: a9 :: a10 :: a11 :: a12 :: a13 :: a14 :: a15 :: a16 :: a17 :: σ) H QS := q
theorem x_v18 (q : Q v H) : tVar 18 (a0 :: a1 :: a2 :: a3 :: a4 :: a5 :: a6 :: a7 :: a8 :: a9 :: a10 :: a11 :: a12 :: a13 :: a14 :: a15 :: a16 :: a17 :: some v :: σ) H Q := ⟨_, rfl, q⟩
theorem x_g18 (q : QS (a0 :: a1 :: a2 :: a3 :: a4 :: a5 :: a6 :: a7 :: a8 :: a9 :: a10 :: a11 :: a12 :: a13 :: a14 :: a15 :: a16 :: a17 :: some v :: σ) H) : gName 18 v (a0 :: a1 :: a2 :: a3 :: a4 :: a5 :: a6 :: a7 :: a8 :: a9 :: a10 :: a11 :: a12 :: a13 :: a14 :: a15 :: a16 :: a17 :: a18 :: σ) H QS := q
theorem x_v19 (q : Q v H) : tVar 19 (a0 :: a1 :: a2 :: a3 :: a4 :: a5 :: a6 :: a7 :: a8 :: a9 :: a10 :: a11 :: a12 :: a13 :: a14 :: a15 :: a16 :: a17 :: a18 :: some v :: σ) H Q := ⟨_, rfl, q⟩
theorem x_g19 (q : QS (a0 :: a1 :: a2 :: a3 :: a4 :: a5 :: a6 :: a7 :: a8 :: a9 :: a10 :: a11 :: a12 :: a13 :: a14 :: a15 :: a16 :: a17 :: a18 :: some v :: σ) H) : gName 19 v (a0 :: a1 :: a2 :: a3 :: a4 :: a5 :: a6 :: a7 :: a8 :: a9 :: a10 :: a11 :: a12 :: a13 :: a14 :: a15 :: a16 :: a17 :: a18 :: a19 :: σ) H QS := q
theorem x_c (q : Q v H) : tC v σ H Q := q
theorem x_op {r : R2} (q : te σ H fun x H1 => tb σ H1 fun y H2 => r x y H2 Q) : tOp r te tb σ H Q := q
theorem x_un {r : V → Hp → VK → Prop} (q : te σ H fun x H1 => r x H1 Q) : tUn r te σ H Q := q
theorem x_test (q : te σ H fun x H1 => ∃ k, x = .bl k ∧ QB k H1) : tTest te σ H QB := q
theorem x_tB (q : te σ H fun x H1 => ∃ k, x = .bl k ∧ QB k H1) : tB te σ H QB := q
theorem x_and (q : t σ H fun c H1 => if c = true then u σ H1 QB else QB false H1) : tAnd t u σ H QB := q
theorem x_or (q : t σ H fun c H1 => if c = true then QB true H1 else u σ H1 QB) : tOr t u σ H QB := q
theorem x_not (q : t σ H fun c H1 => QB (!c) H1) : tNot t σ H QB := q
theorem x_andV (q : te σ H fun x H1 => ∃ c, x = .bl c ∧ if c = true then tb σ H1 Q else Q (.bl false) H1) : tAndV te tb σ H Q := q
theorem x_orV (q : te σ H fun x H1 => ∃ c, x = .bl c ∧ if c = true then Q (.bl true) H1 else tb σ H1 Q) : tOrV te tb σ H Q := q
theorem x_notV (q : te σ H fun x H1 => ∃ c, x = .bl c ∧ Q (.bl (!c)) H1) : tNotV te σ H Q := q
theorem x_if (q : t σ H fun c H1 => if c = true then te σ H1 Q else tb σ H1 Q) : tIf t te tb σ H Q := q
theorem x_ifS (q : t σ H fun b H1 => if b = true then ts D σ H1 else us D σ H1) : tIfS t ts us D σ H := q
theorem x_seq (q : ts ⟨us D, D.rt, D.bk, D.ct⟩ σ H) : tSeq ts us D σ H := q
theorem x_next (q : D.nx σ H) : tNext D σ H := q
theorem x_brk (q : D.bk σ H) : tBreak D σ H := q
theorem x_cont (q : D.ct σ H) : tCont D σ H := q
theorem x_nx {f : L2.St → Hp → Prop} {r : VK} {b c : L2.St → Hp → Prop} (q : f σ H) : Ends.nx ⟨f, r, b, c⟩ σ H := q
theorem x_rt {f : VK} {n b c : L2.St → Hp → Prop} (q : f v H) : Ends.rt ⟨n, f, b, c⟩ v H := q
theorem x_bk {f : L2.St → Hp → Prop} {r : VK} {n c : L2.St → Hp → Prop} (q : f σ H) : Ends.bk ⟨n, r, f, c⟩ σ H := q
theorem x_ct {f : L2.St → Hp → Prop} {r : VK} {n b : L2.St → Hp → Prop} (q : f σ H) : Ends.ct ⟨n, r, b, f⟩ σ H := q
theorem x_drop (q : te σ H fun _ H1 => D.nx σ H1) : tDrop te D σ H := q
theorem x_ret (q : te σ H fun x H1 => D.rt x H1) : tRet te D σ H := q
theorem x_retN (q : D.rt .non H) : tRetN D σ H := q
theorem x_asg (q : te σ H fun x H1 => g x σ H1 D.nx) : tAsg te g D σ H := q
theorem x_nil (q : QL [] H) : tNil σ H QL := q
theorem x_cons (q : te σ H fun x H1 => ta σ H1 fun xs H2 => QL (x :: xs) H2) : tCons te ta σ H QL := q
theorem x_call {sp : Sp} {dvs : List V} {E : XK} (q : ta σ H fun vs H1 => sp (vs ++ dvs) H1 Q E) : tCall sp dvs E ta σ H Q := q
theorem x_cb {r : List V → Hp → VK → Prop} (q : ta σ H fun vs H1 => r vs H1 Q) : tCB r ta σ H Q := q
theorem x_bm {T : String} {r : V → List V → Hp → VK → Prop} (q : te σ H fun x H1 => tyV K T x H1 ∧ ta σ H1 fun xs H2 => r x xs H2 Q) : tBM K T r te ta σ H Q := q
theorem x_sl {r : V → Option Int → Option Int → Hp → VK → Prop} {tl th : TO} (q : te σ H fun x H1 => tl σ H1 fun l H2 => th σ H2 fun u H3 => r x l u H3 Q) : tSl r te tl th σ H Q := q
theorem x_np (q : QO none H) : tNoPart σ H QO := q
theorem x_pt (q : te σ H fun x H1 => ∃ i, x = .int i ∧ QO (some i) H1) : tPart te σ H QO := q
theorem x_exI {P : Int → Prop} {i : Int} (q : P i) : ∃ k, V.int i = V.int k ∧ P k := ⟨_, rfl, q⟩
theorem x_exB {P : Bool → Prop} {b : Bool} (q : P b) : ∃ k, V.bl b = V.bl k ∧ P k := ⟨_, rfl, q⟩
theorem x_I0 {f : Int → Int → V} {i j : Int} (q : Q (f i j) H) : rI0 f (.int i) (.int j) H Q := ⟨_, _, rfl, rfl, q⟩
theorem x_eqI {i j : Int} (q : Q (.bl (decide (i = j))) H) : rEq (.int i) (.int j) H Q := ⟨rfl, by rw [My.dec_int]; exact q⟩
theorem x_neI {i j : Int} (q : Q (.bl (!decide (i = j))) H) : rNe (.int i) (.int j) H Q := ⟨rfl, by rw [My.dec_int]; exact q⟩
theorem x_eqS {i j : Str} (q : Q (.bl (decide (i = j))) H) : rEq (.str i) (.str j) H Q := ⟨rfl, by
  have e : decide (V.str i = V.str j) = decide (i = j) := by
    by_cases h : i = j
    · rw [decide_eq_true h, decide_eq_true (congrArg V.str h)]
    · rw [decide_eq_false h, decide_eq_false (fun z => h (V.str.inj z))]
  rw [e]; exact q⟩
theorem x_neS {i j : Str} (q : Q (.bl (!decide (i = j))) H) : rNe (.str i) (.str j) H Q := ⟨rfl, by
  have e : decide (V.str i = V.str j) = decide (i = j) := by
    by_cases h : i = j
    · rw [decide_eq_true h, decide_eq_true (congrArg V.str h)]
    · rw [decide_eq_false h, decide_eq_false (fun z => h (V.str.inj z))]
  rw [e]; exact q⟩
def brB (b : Bool) (p q : Prop) : Prop := (b = true → p) ∧ (b = false → q)
theorem x_ite {b : Bool} {p q : Prop} (h : brB b p q) : if b = true then p else q := by
  cases b with
  | true => rw [if_pos rfl]; exact h.1 rfl
  | false => rw [if_neg Bool.false_ne_true]; exact h.2 rfl
theorem x_brT {p q : Prop} (h : p) : brB true p q := ⟨fun _ => h, fun z => nomatch z⟩
theorem x_brF {p q : Prop} (h : q) : brB false p q := ⟨fun z => (nomatch z), fun _ => h⟩
theorem x_brN {b : Bool} {p q : Prop} (h : brB b q p) : brB (!b) p q := by
  cases b with
  | true => exact x_brF (h.1 rfl)
  | false => exact x_brT (h.2 rfl)
theorem br2 {b : Bool} {p q : Prop} (h1 : b = true → p) (h2 : b = false → q) : brB b p q := ⟨h1, h2⟩
theorem brD {c : Prop} [Decidable c] {p q : Prop} (h1 : c → p) (h2 : ¬ c → q) : brB (decide c) p q := ⟨fun h => h1 (of_decide_eq_true h), fun h => h2 (of_decide_eq_false h)⟩
theorem brT {b : Bool} {p q : Prop} (e : b = true) (h : p) : brB b p q := ⟨fun _ => h, fun z => by rw [e] at z; cases z⟩
theorem brF {b : Bool} {p q : Prop} (e : b = false) (h : q) : brB b p q := ⟨fun z => (by rw [e] at z; cases z), fun _ => h⟩
theorem brDT {c : Prop} [Decidable c] {p q : Prop} (e : c) (h : p) : brB (decide c) p q := brT (decide_eq_true e) h
theorem brDF {c : Prop} [Decidable c] {p q : Prop} (e : ¬ c) (h : q) : brB (decide c) p q := brF (decide_eq_false e) h
theorem x_ixL {a : Addr} {xs : List V} {i : Int} (h : H a = some (.lst xs)) (hi : atI xs i = some v) (q : Q v H) : rIxL K (.ref a) (.int i) H Q := ⟨_, _, _, _, rfl, rfl, SqL.of h, hi, q⟩
theorem x_ixT {a : Addr} {xs : List V} {i : Int} (h : H a = some (.tup xs)) (hi : atI xs i = some v) (q : Q v H) : rIxT K (.ref a) (.int i) H Q := ⟨_, _, _, _, rfl, rfl, SqT.of h, hi, q⟩
def rNewL (xs : List V) (H : Hp) (Q : VK) : Prop := xs.length ≤ sizeLine ∧ ∀ p, H p = none → Q (.ref p) (L2.upd H p (.lst xs))
def rNewT (xs : List V) (H : Hp) (Q : VK) : Prop := xs.length ≤ sizeLine ∧ ∀ p, H p = none → Q (.ref p) (L2.upd H p (.tup xs))
theorem x_lst (q : ta σ H fun xs H1 => rNewL xs H1 Q) : tLst ta σ H Q := q
theorem x_tup (q : ta σ H fun xs H1 => rNewT xs H1 Q) : tTup ta σ H Q := q
theorem x_new {n : Nat} {P : Prop} (h : n ≤ 100000) (q : P) : n ≤ sizeLine ∧ P := ⟨Nat.le_trans h (by decide), q⟩
theorem x_sFld {f : Str} (q : tb σ H fun y H1 => te σ H1 fun x H2 => ∃ a C dx fs, x = .ref a ∧ H2 a = some (.ins C dx fs) ∧ Cls K C ∧ NoAttr K C f ∧ fs.length < 1000 ∧ D.nx σ (L2.upd H2 a (.ins C dx (putF f y fs)))) : sFld K te tb f D σ H := q
theorem x_fld {f : Str} (q : te σ H fun x H1 => ∃ a C dx fs v, x = .ref a ∧ H1 a = some (.ins C dx fs) ∧ Cls K C ∧ NoAttr K C f ∧ fs.lookup f = some v ∧ Q v H1) : tFld K te f σ H Q := q
/-- a field is stored -/
theorem fstore {f : Str} {y : V} {p C dx : Addr} {fs fs' : List (Str × V)} {P : Hp → Prop} (h : H p = some (.ins C dx fs)) (c : Cls K C) (n : NoAttr K C f) (l : fs.length < 1000) (e : putF f y fs = fs') (q : ∀ H', SameX p H H' → H' p = some (.ins C dx fs') → P H') :
    ∃ a C dx fs, V.ref p = .ref a ∧ H a = some (.ins C dx fs) ∧ Cls K C ∧ NoAttr K C f ∧ fs.length < 1000 ∧ P (L2.upd H a (.ins C dx (putF f y fs))) := ⟨p, C, dx, fs, rfl, h, c, n, l, q _ SameX.upd (by rw [e]; exact upd_same)⟩
/-- a field is read -/
theorem fget {f : Str} {v : V} {p C dx : Addr} {fs : List (Str × V)} {P : V → Prop} (h : H p = some (.ins C dx fs)) (c : Cls K C) (n : NoAttr K C f) (e : fs.lookup f = some v) (q : P v) :
    ∃ a C dx fs v, V.ref p = .ref a ∧ H a = some (.ins C dx fs) ∧ Cls K C ∧ NoAttr K C f ∧ fs.lookup f = some v ∧ P v := ⟨p, C, dx, fs, v, rfl, h, c, n, e, q⟩
/-- tuple(seq) -/
theorem tupleOf {a : Addr} {xs : List V} (h : SeqA K H a xs) (q : ∀ l H', Same H H' → SqT K H' l xs → Q (.ref l) H') :
    rTupOf K [.ref a] H Q :=
  ⟨a, xs, rfl, h.elim (fun h => .inl ⟨h, fun l hl => q l _ (Same.new hl) (SqT.of upd_same)⟩) fun h => .inr ⟨h, q a H (Same.refl H) h⟩⟩
/-- list(seq) -/
theorem listOf {a : Addr} {xs : List V} (h : SeqA K H a xs) (q : ∀ l H', H l = none → Same H H' → H' l = some (.lst xs) → Q (.ref l) H') :
    rLstOf K [.ref a] H Q := ⟨a, xs, rfl, h, fun l hl => q l _ hl (Same.new hl) upd_same⟩
/-- new lists, new tuples, sums of lists, appends, by what stands afterwards -/
theorem newList {xs : List V} (h : xs.length ≤ 100000) (q : ∀ l H', H l = none → Same H H' → H' l = some (.lst xs) → Q (.ref l) H') : rNewL xs H Q := ⟨Nat.le_trans h (by decide), fun l hl => q l _ hl (Same.new hl) upd_same⟩
theorem newTup {xs : List V} (h : xs.length ≤ 100000) (q : ∀ l H', H l = none → Same H H' → H' l = some (.tup xs) → Q (.ref l) H') : rNewT xs H Q := ⟨Nat.le_trans h (by decide), fun l hl => q l _ hl (Same.new hl) upd_same⟩
theorem catList {a b : Addr} {xs zs : List V} (ha : H a = some (.lst xs)) (hb : H b = some (.lst zs)) (h : xs.length + zs.length ≤ 100000) (q : ∀ l H', H l = none → Same H H' → H' l = some (.lst (xs ++ zs)) → Q (.ref l) H') : rCat (.ref a) (.ref b) H Q :=
  ⟨a, b, xs, zs, rfl, rfl, ha, hb, Nat.le_trans h (by decide), fun l hl => q l _ hl (Same.new hl) upd_same⟩
theorem appList {a : Addr} {xs : List V} {y : V} (ha : H a = some (.lst xs)) (h : xs.length < 100000) (q : ∀ H', SameX a H H' → H' a = some (.lst (xs ++ [y])) → Q .non H') : rAppend (.ref a) [y] H Q := ⟨a, xs, y, rfl, rfl, ha, Nat.lt_of_lt_of_le h (by decide), q _ SameX.upd upd_same⟩
theorem isList {a : Addr} {xs : List V} (ha : H a = some (.lst xs)) : tyV K "list" (.ref a) H := .inl ⟨rfl, xs, SqL.of ha⟩
theorem ixL {a : Addr} {xs : List V} {i : Nat} (ha : H a = some (.lst xs)) (hi : xs[i]? = some v) (q : Q v H) : rIxL K (.ref a) (.int (i : Int)) H Q := ⟨a, xs, i, v, rfl, rfl, SqL.of ha, atI_nat hi, q⟩
theorem ixT {a : Addr} {xs : List V} {i : Nat} (ha : SqT K H a xs) (hi : xs[i]? = some v) (q : Q v H) : rIxT K (.ref a) (.int (i : Int)) H Q := ⟨a, xs, i, v, rfl, rfl, ha, atI_nat hi, q⟩
theorem setL {a : Addr} {xs : List V} {i : Nat} {P : Hp → Prop} (ha : H a = some (.lst xs)) (hi : i < xs.length) (q : ∀ H', SameX a H H' → H' a = some (.lst (xs.set i v)) → P H') : rSetL (.ref a) (.int (i : Int)) v H P := ⟨a, xs, i, i, rfl, rfl, ha, ixN_nat rfl hi, q _ SameX.upd upd_same⟩
theorem lenA {a : Addr} {xs : List V} (h : SeqA K H a xs) (q : Q (.int (xs.length : Int)) H) : rLenOf K [.ref a] H Q := ⟨a, xs, rfl, h, q⟩
/-- what a for asks once its turns are known -/
def forK (J : It) (g : TG) (tb : TS) (D : Ends) (σ : L2.St) (H : Hp) : Prop := ∃ W : Nat → Nat → L2.St → Hp → Prop, (∃ m, W 0 m σ H) ∧ ∀ i m σ H, W i m σ H →
  (J.stop i H ∧ D.nx σ H) ∨ (J.go i H ∧ ∃ N : L2.St → Hp → Prop, (∀ σ' H', N σ' H' → ∃ m', m' < m ∧ W (i + 1) m' σ' H') ∧ ∀ x H', J.yld i H x H' → g x σ H' fun σ2 H2 => tb { D with nx := N, ct := N, bk := D.nx } σ2 H2)
def forI (g : TG) (tb : TS) (D : Ends) (σ : L2.St) (n : Int) (H : Hp) : Prop := ∃ j : Int, [V.int n] = [.int j] ∧ -(2 ^ 62) ≤ j ∧ j < 2 ^ 62 ∧ forK (Itr 0 j.toNat) g tb D σ H
theorem x_for1 (q : ta σ H fun vs H1 => ∃ j : Int, vs = [.int j] ∧ -(2 ^ 62) ≤ j ∧ j < 2 ^ 62 ∧ forK (Itr 0 j.toNat) g ts D σ H1) : tFor (iRng1 ta) g ts D σ H := q
theorem x_forL (q : te σ H fun x H1 => ∃ a, x = .ref a ∧ (∃ xs, SqL K H1 a xs) ∧ forK (Itl K a) g ts D σ H1) : tFor (iList K te) g ts D σ H := q
theorem x_forT (q : te σ H fun x H1 => ∃ a, x = .ref a ∧ (∃ xs, SqT K H1 a xs) ∧ forK (Itt K a) g ts D σ H1) : tFor (iTup K te) g ts D σ H := q
theorem rng1 {n : Int} (h0 : -100000 ≤ n) (h1 : n ≤ 100000) (q : forK (Itr 0 n.toNat) g ts D σ H) : ∃ j : Int, [V.int n] = [.int j] ∧ -(2 ^ 62) ≤ j ∧ j < 2 ^ 62 ∧ forK (Itr 0 j.toNat) g ts D σ H := ⟨n, rfl, by omega, by omega, q⟩
theorem overL {a : Addr} {xs : List V} (h : SqL K H a xs) (q : forK (Itl K a) g ts D σ H) : ∃ b, V.ref a = .ref b ∧ (∃ xs, SqL K H b xs) ∧ forK (Itl K b) g ts D σ H := ⟨a, rfl, ⟨_, h⟩, q⟩
theorem overT {a : Addr} {xs : List V} (h : SqT K H a xs) (q : forK (Itt K a) g ts D σ H) : ∃ b, V.ref a = .ref b ∧ (∃ xs, SqT K H b xs) ∧ forK (Itt K b) g ts D σ H := ⟨a, rfl, ⟨_, h⟩, q⟩
end
/-! ### steps: more readings by their form -/
theorem pe_fldK {X : Cx} {K : PySem.W.Frag} {e : Expr} {f : Str} {pos : Pos} {ta : TE} (eK : X.K = K) (he : PE X e ta) (hb : attributeBase e f X.env (eval e X.env) = eval e X.env) : PE X (.Attribute e f pos) (tFld K ta f) := eK ▸ pe_fld he hb
section
variable {K : PySem.W.Frag} {σ : L2.St} {H : Hp} {Q : VK} {QS : L2.St → Hp → Prop} {v : V} {te tb ti : TE} {tt : TT} {D : Ends}
theorem x_gsub {to ti : TE} {t : TSet} (q : to σ H fun o H1 => ti σ H1 fun i H2 => t o i v H2 fun H3 => QS σ H3) : gSub to ti t v σ H QS := q
theorem x_int1 {P : Int → Prop} {R : Prop} {i : Int} (q : P i) : (∃ k, [V.int i] = [V.int k] ∧ P k) ∨ R := .inl ⟨i, rfl, q⟩
theorem x_exL {P : Int → Prop} {i : Int} (q : P i) : ∃ k, [V.int i] = [V.int k] ∧ P k := ⟨i, rfl, q⟩
theorem min_if (i j : Int) : (if j < i then j else i) = min i j := by rw [Int.min_def]; split <;> split <;> omega
theorem max_if (i j : Int) : (if j > i then j else i) = max i j := by rw [Int.max_def]; split <;> split <;> omega
def rMin2 : List V → Hp → VK → Prop := fun xs H Q => ∃ i j, xs = [.int i, .int j] ∧ Q (.int (min i j)) H
def rMax2 : List V → Hp → VK → Prop := fun xs H Q => ∃ i j, xs = [.int i, .int j] ∧ Q (.int (max i j)) H
def ab (x : Int) : Int := if x < 0 then -x else x
def rAbs : List V → Hp → VK → Prop := fun xs H Q => ∃ i, xs = [.int i] ∧ Q (.int (ab i)) H
theorem call_min2K {X : Cx} (hc : X.calm = true) : CallR X (.builtin "min") rMin2 := by
  intro pins s σ H xs us Q I r h
  obtain ⟨i, j, e, q⟩ := h
  exact call_min2 hc pins s σ H xs us Q I r ⟨i, j, e, by rw [min_if]; exact q⟩
theorem call_max2K {X : Cx} (hc : X.calm = true) : CallR X (.builtin "max") rMax2 := by
  intro pins s σ H xs us Q I r h
  obtain ⟨i, j, e, q⟩ := h
  exact call_max2 hc pins s σ H xs us Q I r ⟨i, j, e, by rw [max_if]; exact q⟩
theorem call_absK {X : Cx} : CallR X (.builtin "abs") rAbs := call_abs
theorem x_min2 {i j : Int} (q : Q (.int (min i j)) H) : rMin2 [.int i, .int j] H Q := ⟨i, j, rfl, q⟩
theorem x_max2 {i j : Int} (q : Q (.int (max i j)) H) : rMax2 [.int i, .int j] H Q := ⟨i, j, rfl, q⟩
theorem x_abs {i : Int} (q : Q (.int (ab i)) H) : rAbs [.int i] H Q := ⟨i, rfl, q⟩
theorem x_brTT {p q : Prop} (h : p) : brB (true && true) p q := x_brT h
theorem x_mod {i j : Int} (h : 0 < j) (q : Q (.int (i % j)) H) : rI (fun _ j => 0 < j) (fun i j => .int (i % j)) (.int i) (.int j) H Q := ⟨i, j, rfl, rfl, h, q⟩
theorem x_mulR {i j : Int} (h : -(2 ^ 64) < j ∧ j < 2 ^ 64) (q : Q (.int (i * j)) H) : rI CMul (fun i j => .int (i * j)) (.int i) (.int j) H Q := ⟨i, j, rfl, rfl, .inr h, q⟩
theorem x_mulL {i j : Int} (h : -(2 ^ 64) < i ∧ i < 2 ^ 64) (q : Q (.int (i * j)) H) : rI CMul (fun i j => .int (i * j)) (.int i) (.int j) H Q := ⟨i, j, rfl, rfl, .inl h, q⟩
theorem x_div {i j : Int} (h : 0 < j ∧ j < 1073741824) (q : Q (.int (i / j)) H) : rI CDiv (fun i j => .int (i / j)) (.int i) (.int j) H Q := ⟨i, j, rfl, rfl, h, q⟩
theorem x_divW {i j : Int} (h0 : 0 < j) (h : j < 2 ^ 62) (q : Q (.int (i / j)) H) : rI CDivW (fun i j => .int (i / j)) (.int i) (.int j) H Q := ⟨i, j, rfl, rfl, ⟨h0, Nat.lt_trans (PySem.Flt.log2_lt_of (k := 62) (by decide) (by omega)) (by decide)⟩, q⟩
theorem x_pow {i j : Int} (h : 0 ≤ j ∧ j ≤ 1000000 ∧ i.natAbs < 2 ^ 64) (q : Q (.int (i ^ j.toNat)) H) : rI CPow (fun i j => .int (i ^ j.toNat)) (.int i) (.int j) H Q := ⟨i, j, rfl, rfl, h, q⟩
theorem x_nN {P : Prop} (q : P) : V.non = V.non ∧ P := ⟨rfl, q⟩
theorem x_chain {r r' : R2} {tc : TE} (q : te σ H fun x H1 => tb σ H1 fun y H2 => r x y H2 fun z H3 => ∃ k, z = .bl k ∧ brB k (tc σ H3 fun w' H4 => r' y w' H4 Q) (Q (.bl false) H3)) : tChain r r' te tb tc σ H Q := by
  refine cast (congrArg (fun z => te σ H z) ?_) q
  funext x H1
  refine congrArg (fun z => tb σ H1 z) ?_
  funext y H2
  refine congrArg (fun z => r x y H2 z) ?_
  funext z H3
  refine congrArg Exists ?_
  funext k
  refine congrArg (fun p => z = .bl k ∧ p) ?_
  exact propext ⟨fun h => x_ite h, fun h => by cases k with
    | true => exact x_brT (by rw [if_pos rfl] at h; exact h)
    | false => exact x_brF (by rw [if_neg Bool.false_ne_true] at h; exact h)⟩
theorem x_meth {C : Addr} {m : Str} {sp : Sp} {dvs : List V} {E : XK} {ta : TE} {t : TA} (q : ta σ H fun x H1 => ∃ a dx fs, x = .ref a ∧ H1 a = some (.ins C dx fs) ∧ fs.lookup m = none ∧ t σ H1 fun vs H2 => sp (x :: (vs ++ dvs)) H2 Q E) : tMeth C m sp dvs E ta t σ H Q := q
theorem x_prop {C : Addr} {sp : Sp} {dvs : List V} {E : XK} {ta : TE} (q : ta σ H fun x H1 => ∃ a dx fs, x = .ref a ∧ H1 a = some (.ins C dx fs) ∧ sp (.ref a :: dvs) H1 Q E) : tProp C sp dvs E ta σ H Q := q
theorem x_make {C : Addr} {sp : Sp} {dvs : List V} {E : XK} {t : TA} (q : t σ H fun vs H1 => ∀ x dx, H1 x = none → H1 dx = none → dx ≠ x → sp (.ref x :: (vs ++ dvs)) (upd (upd H1 dx (.own x)) x (.ins C dx [])) (fun v H2 => v = .non ∧ Q (.ref x) H2) E) : tMake C sp dvs E t σ H Q := q
theorem x_fldaug {rd : V → V → Hp → VK → Prop} {f : Str} (q : te σ H fun x H1 => ∃ a C dx fs v, x = .ref a ∧ H1 a = some (.ins C dx fs) ∧ Cls K C ∧ NoAttr K C f ∧ fs.lookup f = some v ∧ tb σ H1 fun y H2 => rd v y H2 fun z H3 => ∃ dx' fs', H3 a = some (.ins C dx' fs') ∧ fs'.length < 1000 ∧ D.nx σ (L2.upd H3 a (.ins C dx' (putF f z fs')))) : sFldAug K te tb rd f D σ H := q
theorem x_rAdd {i j : Int} (q : Q (.int (i + j)) H) : rAdd (.int i) (.int j) H Q := ⟨i, j, rfl, rfl, q⟩
theorem x_ipI {f : Int → Int → Int} {i j : Int} (q : Q (.int (f i j)) H) : ipI f (.int i) (.int j) H Q := ⟨i, j, rfl, rfl, q⟩
theorem x_rSub {i j : Int} (q : Q (.int (i - j)) H) : rSub (.int i) (.int j) H Q := ⟨i, j, rfl, rfl, q⟩
theorem rngF {n : Int} {g : TG} {ts : TS} (h0 : -100000 ≤ n) (h1 : n ≤ 100000) (q : forK (Itr 0 n.toNat) g ts D σ H) : -(2 ^ 62) ≤ n ∧ n < 2 ^ 62 ∧ forK (Itr 0 n.toNat) g ts D σ H := ⟨by omega, by omega, q⟩
/-- a field is raised -/
theorem fraise {f : Str} {p C dx : Addr} {fs : List (Str × V)} {P : Hp → Prop} {T : V → V → Hp → VK → Prop} {tv : TE} {σ : L2.St} (h : H p = some (.ins C dx fs)) (c : Cls K C) (n : NoAttr K C f) (l : fs.length < 1000) (e : fs.lookup f = some v)
    (q : tv σ H fun y H2 => T v y H2 fun z H3 => ∃ dx' fs', H3 p = some (.ins C dx' fs') ∧ fs'.length < 1000 ∧ P (L2.upd H3 p (.ins C dx' (putF f z fs')))) :
    ∃ a C dx fs v, V.ref p = .ref a ∧ H a = some (.ins C dx fs) ∧ Cls K C ∧ NoAttr K C f ∧ fs.lookup f = some v ∧ tv σ H fun y H2 => T v y H2 fun z H3 => ∃ dx' fs', H3 a = some (.ins C dx' fs') ∧ fs'.length < 1000 ∧ P (L2.upd H3 a (.ins C dx' (putF f z fs'))) := ⟨p, C, dx, fs, v, rfl, h, c, n, e, q⟩
theorem fput {f : Str} {z : V} {p C dx : Addr} {fs fs' : List (Str × V)} {P : Hp → Prop} (h : H p = some (.ins C dx fs)) (l : fs.length < 1000) (e : putF f z fs = fs') (q : ∀ H', SameX p H H' → H' p = some (.ins C dx fs') → P H') :
    ∃ dx' fs', H p = some (.ins C dx' fs') ∧ fs'.length < 1000 ∧ P (L2.upd H p (.ins C dx' (putF f z fs'))) := ⟨dx, fs, h, l, q _ SameX.upd (by rw [e]; exact upd_same)⟩
end
/-! ### o[i] op= e, o a list -/
theorem pget_list {X : Cx} : PGet X (rIxL X.K) := by
  intro pins s σ H o i ov iv Q I ro ri h
  obtain ⟨p, xs, k, z, rfl, rfl, hq, he, q⟩ := h
  cases ro
  obtain ⟨t, rfl⟩ := ri
  obtain ⟨its, r, pl, hz⟩ := I.list hq
  obtain ⟨j, h1, h2, h3, h4, h5⟩ := atI_get he
  obtain ⟨w, ew, rw'⟩ := r.get h2
  have hl := r.length
  have hn := line63
  have fin : EP X pins σ Q w s := ⟨z, H, I, rw', q⟩
  by_cases h0 : 0 ≤ k
  · have hj : k.toNat = j := by
      rw [seqIndex_of h0 h5] at h1
      exact Option.some.inj h1
    exact wpAny_getItem_list pl.isList h0 (by omega) (by rw [hj]; simpa using ew) fin
  · have hj : (k + (its.toArray.size : Int)).toNat = j := by
      rw [seqIndex_neg (by omega) h4] at h1
      rw [List.size_toArray, ← hl]
      exact Option.some.inj h1
    exact wpAny_getItem_list_neg pl.isList (by omega) (by rw [List.size_toArray] <;> omega) (by omega) (by rw [hj]; simpa using ew) fin
theorem x_augS {to ti te : TE} {tget : V → V → Hp → VK → Prop} {tip : TIp} {tset : TSet} {D : Ends} {σ : L2.St} {H : Hp} (q : to σ H fun o H1 => ti σ H1 fun i H2 => tget o i H2 fun x H3 => te σ H3 fun y H4 => tip x y H4 fun z H5 => tset o i z H5 fun H6 => D.nx σ H6) : tAugS to ti te tget tip tset D σ H := q
theorem x_negU {i : Int} {H : Hp} {Q : VK} (q : Q (.int (-i)) H) : rU (fun i => .int (-i)) (.int i) H Q := ⟨i, rfl, q⟩
/-- for_range, by its name -/
theorem for_rangeK {lo : Int} {n : Nat} {g : TG} {ts : TS} {D : Ends} {σ : L2.St} {H : Hp} (Pv : Nat → L2.St → Hp → Prop) (h0 : Pv 0 σ H)
    (hs : ∀ i σ H, i < n → Pv i σ H → g (.int (lo + i)) σ H fun σ2 H2 => ts { D with nx := Pv (i + 1), ct := Pv (i + 1), bk := D.nx } σ2 H2) (hd : ∀ σ H, Pv n σ H → D.nx σ H) : forK (Itr lo n) g ts D σ H := for_range Pv h0 hs hd
local macro_rules
  | `(tactic| w_up) => `(tactic| with_reducible first
    | refine x_seq ?_ | refine x_asg ?_ | refine x_op ?_ | refine x_c ?_
    | refine x_v0 ?_ | refine x_v1 ?_ | refine x_v2 ?_ | refine x_v3 ?_ | refine x_v4 ?_ | refine x_v5 ?_ | refine x_v6 ?_ | refine x_v7 ?_ | refine x_v8 ?_ | refine x_v9 ?_ | refine x_v10 ?_ | refine x_v11 ?_ | refine x_v12 ?_ | refine x_v13 ?_ | refine x_v14 ?_ | refine x_v15 ?_ | refine x_v16 ?_ | refine x_v17 ?_ | refine x_v18 ?_ | refine x_v19 ?_
    | refine x_g0 ?_ | refine x_g1 ?_ | refine x_g2 ?_ | refine x_g3 ?_ | refine x_g4 ?_ | refine x_g5 ?_ | refine x_g6 ?_ | refine x_g7 ?_ | refine x_g8 ?_ | refine x_g9 ?_ | refine x_g10 ?_ | refine x_g11 ?_ | refine x_g12 ?_ | refine x_g13 ?_ | refine x_g14 ?_ | refine x_g15 ?_ | refine x_g16 ?_ | refine x_g17 ?_ | refine x_g18 ?_ | refine x_g19 ?_
    | refine x_cons ?_ | refine x_nil ?_ | refine x_I0 ?_ | refine x_exI ?_ | refine x_exB ?_ | refine x_eqI ?_ | refine x_neI ?_ | refine x_eqS ?_ | refine x_neS ?_
    | refine x_test ?_ | refine x_tB ?_ | refine x_ifS ?_ | refine x_if ?_ | refine x_and ?_ | refine x_or ?_ | refine x_not ?_ | refine x_andV ?_ | refine x_orV ?_ | refine x_notV ?_
    | refine x_ite ?_ | refine x_brT ?_ | refine x_brF ?_ | refine x_brN ?_
    | refine x_call ?_ | refine x_for1 ?_ | refine x_forL ?_ | refine x_forT ?_ | refine x_sFld ?_ | refine x_fld ?_ | refine x_cb ?_ | refine x_bm ?_ | refine x_un ?_ | refine x_sl ?_ | refine x_np ?_ | refine x_pt ?_
    | refine x_next ?_ | refine x_ret ?_ | refine x_retN ?_ | refine x_drop ?_ | refine x_brk ?_ | refine x_cont ?_ | refine x_lst ?_ | refine x_tup ?_ | dsimp only | dsimp only [List.set_cons_succ, List.set_cons_zero])
local macro_rules
  | `(tactic| o_args) => `(tactic| repeat w_up)
local macro_rules
  | `(tactic| w_up) => `(tactic| first
    | with_reducible refine x_augS ?_ | with_reducible refine x_negU ?_ | with_reducible refine x_gsub ?_ | with_reducible refine x_int1 ?_ | with_reducible refine x_exL ?_ | with_reducible refine x_min2 ?_ | with_reducible refine x_max2 ?_ | with_reducible refine x_abs ?_ | with_reducible refine x_brTT ?_
    | with_reducible refine x_mod (by decide) ?_ | with_reducible refine x_mulR ⟨by decide, by decide⟩ ?_ | with_reducible refine x_mulL ⟨by decide, by decide⟩ ?_ | with_reducible refine x_div ⟨by decide, by decide⟩ ?_
    | with_reducible refine x_pow ⟨by decide, by decide, by decide⟩ ?_
    | with_reducible refine x_nN ?_ | with_reducible refine x_chain ?_ | with_reducible refine x_meth ?_ | with_reducible refine x_prop ?_ | with_reducible refine x_make ?_ | with_reducible refine x_fldaug ?_ | with_reducible refine x_ipI ?_ | with_reducible refine x_rAdd ?_ | with_reducible refine x_rSub ?_
    | with_reducible refine brDT (by decide) ?_ | with_reducible refine brDF (by decide) ?_
    | with_reducible refine x_ixT (by assumption) (by with_unfolding_all exact rfl) ?_
    | with_reducible refine x_ixL (by assumption) (by with_unfolding_all exact rfl) ?_)
/-! ### general words -/
theorem Same.ofX {D : Addr} {H H' : Hp} (hD : H D = none) (s : SameX D H H') : Same H H' := fun b o e => s b o (ne_of_none e hD) e
theorem getq_lt {α : Type} {xs : List α} {i : Nat} {x : α} (h : xs[i]? = some x) : i < xs.length := (List.getElem?_eq_some_iff.mp h).1
theorem getq_app {α : Type} {vs : List α} {v w : α} {k : Nat} (h : (vs ++ [v])[k]? = some w) : (k < vs.length ∧ vs[k]? = some w) ∨ (k = vs.length ∧ w = v) := by
  have hk := getq_lt h
  rw [List.length_append] at hk
  have hk : k < vs.length + 1 := hk
  by_cases q : k < vs.length
  · rw [List.getElem?_append_left q] at h
    exact .inl ⟨q, h⟩
  · have e : k = vs.length := by omega
    subst e
    rw [List.getElem?_append_right (Nat.le_refl _), Nat.sub_self] at h
    exact .inr ⟨rfl, (Option.some.inj h).symm⟩
theorem none_back {p l : Addr} {H H' : Hp} (s : SameX p H H') (n : l ≠ p) (h : H' l = none) : H l = none := by
  cases q : H l with
  | none => rfl
  | some o => rw [s _ _ n q] at h; cases h
theorem none_of {H H' : Hp} {l : Addr} (s : Same H H') (h : H' l = none) : H l = none := by
  cases q : H l with
  | none => rfl
  | some o => rw [s _ _ q] at h; cases h
/-- only lists change -/
def LS (H H' : Hp) : Prop := ∀ a o, (∀ xs, o ≠ .lst xs) → H a = some o → H' a = some o
theorem LS.refl (H : Hp) : LS H H := fun _ _ _ h => h
theorem LS.trans {H H1 H2 : Hp} (x : LS H H1) (y : LS H1 H2) : LS H H2 := fun a o n h => y a o n (x a o n h)
theorem LS.of {H H' : Hp} (s : Same H H') : LS H H' := fun a o _ h => s a o h
theorem LS.ofX {H H' : Hp} {p : Addr} {xs : List V} (hp : H p = some (.lst xs)) (s : SameX p H H') : LS H H' := fun a o n h => s a o (fun e => by subst e; rw [hp] at h; cases h; exact n _ rfl) h
theorem LS.sqT {K : PySem.W.Frag} {H H' : Hp} {a : Addr} {xs : List V} (s : LS H H') (h : SqT K H a xs) : SqT K H' a xs := by
  rcases h with (h | ⟨o, h⟩) | h
  · exact .inl (.inl (s _ _ (fun _ z => nomatch z) h))
  · exact .inl (.inr ⟨o, s _ _ (fun _ z => nomatch z) h⟩)
  · exact .inr h
theorem sliceL {K : PySem.W.Frag} {H : Hp} {Q : VK} {a : Addr} {xs : List V} {lo hi : Option Int} (h : SqL K H a xs) (q : ∀ l H', H l = none → Same H H' → H' l = some (.lst (cutV xs lo hi)) → Q (.ref l) H') : rSlL K (.ref a) lo hi H Q := ⟨a, xs, rfl, h, fun l hl => q l _ hl (Same.new hl) upd_same⟩
theorem cut_to (xs : List V) (i : Nat) : cutV xs none (some (i : Int)) = xs.take i := by
  have e1 : HT.sIx xs.length 0 none = 0 := rfl
  have e2 : HT.sIx xs.length xs.length (some (i : Int)) = min i xs.length := by
    unfold HT.sIx
    simp
    intro h
    omega
  unfold cutV
  rw [e1, e2, List.drop_zero, Nat.sub_zero, List.take_eq_take_iff]
  omega
theorem cut_from (xs : List V) (i : Nat) : cutV xs (some (i : Int)) none = xs.drop i := by
  have e1 : HT.sIx xs.length xs.length none = xs.length := rfl
  have e2 : HT.sIx xs.length 0 (some (i : Int)) = min i xs.length := HT.sIx_nat _ _ _
  unfold cutV
  rw [e1, e2]
  by_cases h : i ≤ xs.length
  · rw [Nat.min_eq_left h, List.take_of_length_le (by rw [List.length_drop]; exact Nat.le_refl _)]
  · rw [Nat.min_eq_right (by omega), Nat.sub_self, List.take_zero, List.drop_of_length_le (by omega)]
theorem dp_ints {K : PySem.W.Frag} {H : Hp} : ∀ ns : List Int, DpAll K H (ns.map V.int) (ns.map PyData.int)
  | [] => .nil
  | n :: r => .cons (.int n) (dp_ints r)
theorem lay_all : ∀ ns : List Int, PyData.canLayAll0 (ns.map PyData.int) = true ∧ PyData.depthAll (ns.map PyData.int) = 0
  | [] => ⟨by simp only [List.map_nil, PyData.canLayAll0], by simp only [List.map_nil, PyData.depthAll]⟩
  | n :: r => by
    obtain ⟨h1, h2⟩ := lay_all r
    exact ⟨by simp only [List.map_cons, PyData.canLayAll0, PyData.canLay0, h1, Bool.and_self], by simp only [List.map_cons, PyData.depthAll, PyData.depth, h2, Nat.max_self]⟩
theorem lay_ints (ns : List Int) : PySem.SeqAt.shaped (.list (ns.map PyData.int)) = true := by
  obtain ⟨h1, h2⟩ := lay_all ns
  unfold PySem.SeqAt.shaped
  simp only [PyData.canLay0, PyData.depth, h1, h2]
  decide
theorem eqv_all : ∀ xs ys : List Int, PyData.eqvAll (xs.map PyData.int) (ys.map PyData.int) = decide (xs = ys)
  | [], [] => by simp [PyData.eqvAll]
  | [], y :: ys => by simp [PyData.eqvAll]
  | x :: xs, [] => by simp [PyData.eqvAll]
  | x :: xs, y :: ys => by
    have e := eqv_all xs ys
    simp only [List.map_cons, PyData.eqvAll, e, PyData.eqv]
    by_cases h : x = y <;> by_cases g : xs = ys <;> simp [h, g]
theorem eqv_ints (xs ys : List Int) : PyData.eqv (.list (xs.map PyData.int)) (.list (ys.map PyData.int)) = decide (xs = ys) := by
  simp only [PyData.eqv]
  exact eqv_all xs ys
/-- two lists of ints compared -/
theorem eqLL {K : PySem.W.Frag} {H : Hp} {Q : VK} {a b : Addr} {xs ys : List Int} (ha : SqL K H a (xs.map V.int)) (hb : SqL K H b (ys.map V.int)) (q : Q (.bl (decide (xs = ys))) H) : rEqD K (.ref a) (.ref b) H Q :=
  ⟨_, _, .lst ha (dp_ints xs), .lst hb (dp_ints ys), lay_ints xs, lay_ints ys, by rw [eqv_ints]; exact q⟩
theorem neLL {K : PySem.W.Frag} {H : Hp} {Q : VK} {a b : Addr} {xs ys : List Int} (ha : SqL K H a (xs.map V.int)) (hb : SqL K H b (ys.map V.int)) (q : Q (.bl (!decide (xs = ys))) H) : rNeD K (.ref a) (.ref b) H Q :=
  ⟨_, _, .lst ha (dp_ints xs), .lst hb (dp_ints ys), lay_ints xs, lay_ints ys, by rw [eqv_ints]; exact q⟩
/-- a comprehension over a list of ints, filtered, its items ints -/
theorem lc_ints {K : PySem.W.Frag} {a : Addr} {ns : List Int} {te tel : TE} {tt : TT} {σ : L2.St} {H : Hp} {Q : VK} {j : Nat} (p : Int → Bool) (f : Int → Int) (hte : ∀ R' : VK, R' (.ref a) H → te σ H R') (hS : SqL K H a (ns.map V.int)) (hz : ns.length < 100000)
    (ht : ∀ x ∈ ns, ∀ H', Same H H' → ∀ Qt : Bool → Hp → Prop, Qt (p x) H' → tt ((σ.set j none).set j (some (.int x))) H' Qt)
    (he : ∀ x ∈ ns, p x = true → ∀ H', Same H H' → ∀ Qe : VK, Qe (.int (f x)) H' → tel ((σ.set j none).set j (some (.int x))) H' Qe)
    (hd : ∀ D H', H D = none → Same H H' → H' D = some (.lst (((ns.filter p).map f).map V.int)) → Q (.ref D) H') : tLc (iList K te) (gName j) tt tel [j] σ H Q := by
  refine hte _ ⟨a, rfl, ⟨_, hS⟩, fun D hD => lc_list (K := K) (a := a) (xs := ns.map V.int) (fun i H' => H' D = some (.lst ((((ns.take i).filter p).map f).map V.int)) ∧ SameX D H H') ⟨upd_same, SameX.upd⟩ (fun i H' _ h => (Same.ofX hD h.2).seq hS) ?_ ?_⟩
  · rintro i x H' hi ⟨h1, h2⟩
    rw [List.getElem?_map] at hi
    cases e : ns[i]? with
    | none => rw [e] at hi; cases hi
    | some u =>
      rw [e] at hi
      cases hi
      have hil := getq_lt e
      have mem : u ∈ ns := List.mem_of_getElem? e
      refine ⟨?_, ?_⟩
      · show ((((σ.set j none).set j (some (.int u))).set j none) = σ.set j none)
        rw [List.set_set, List.set_set]
      have e2 : ns.take (i + 1) = ns.take i ++ [u] := by
        rw [List.take_succ, e]
        rfl
      refine ht u mem H' (Same.ofX hD h2) _ ?_
      cases hp : p u with
      | false =>
        rw [if_neg Bool.false_ne_true]
        refine ⟨?_, h2⟩
        rw [e2, List.filter_append]
        simp only [List.filter, hp, List.append_nil]
        exact h1
      | true =>
        rw [if_pos rfl]
        refine he u mem hp H' (Same.ofX hD h2) _ ⟨_, h1, ?_, ?_, h2.upd'⟩
        · rw [List.length_map, List.length_map]
          have := List.length_filter_le p (ns.take i)
          rw [List.length_take] at this
          exact Nat.lt_of_lt_of_le (show _ < 100000 by omega) (by decide)
        · rw [e2, List.filter_append]
          simp only [List.filter, hp, List.map_append, List.map_cons, List.map_nil]
          exact upd_same
  · rintro H' ⟨h1, h2⟩
    rw [List.length_map, List.take_length] at h1
    exact hd D H' hD (Same.ofX hD h2) h1
/-- a comprehension over a list, its items new -/
theorem lc_lstN {K : PySem.W.Frag} {a : Addr} {xs : List V} {te tel : TE} {σ : L2.St} {H : Hp} {Q : VK} {j : Nat} (P : Nat → List V → Hp → Prop) (hte : ∀ R' : VK, R' (.ref a) H → te σ H R') (hS : SqL K H a xs) (hz : xs.length < 100000) (h0 : ∀ H', Same H H' → P 0 [] H')
    (hm : ∀ i vs H1 H2, Same H1 H2 → P i vs H1 → P i vs H2) (hw : ∀ D H1 H2 i vs, H D = none → SameX D H1 H2 → Same H H1 → (∃ acc, H1 D = some (.lst acc)) → P i vs H1 → P i vs H2)
    (hs : ∀ D i x vs H', xs[i]? = some x → Same H H' → P i vs H' → vs.length = i → H D = none → (∃ o, H' D = some o) → ∀ Qe : VK, (∀ v H'', Same H' H'' → P (i + 1) (vs ++ [v]) H'' → Qe v H'') → tel ((σ.set j none).set j (some x)) H' Qe)
    (hd : ∀ D vs H', H D = none → vs.length = xs.length → P xs.length vs H' → H' D = some (.lst vs) → Same H H' → Q (.ref D) H') : tLc (iList K te) (gName j) tYes tel [j] σ H Q := by
  refine hte _ ⟨a, rfl, ⟨_, hS⟩, fun D hD => lc_list (K := K) (a := a) (xs := xs) (fun i H' => ∃ vs : List V, vs.length = i ∧ P i vs H' ∧ H' D = some (.lst vs) ∧ SameX D H H') ⟨[], rfl, h0 _ (Same.new hD), upd_same, SameX.upd⟩ (fun i H' _ ⟨_, _, _, _, h⟩ => (Same.ofX hD h).seq hS) ?_ ?_⟩
  · rintro i x H' hi ⟨vs, hl, hr, h1, h2⟩
    refine ⟨?_, ?_⟩
    · show ((((σ.set j none).set j (some x)).set j none) = σ.set j none)
      rw [List.set_set, List.set_set]
    dsimp only [tYes]
    rw [if_pos rfl]
    have S0 := Same.ofX hD h2
    refine hs D i x vs H' hi S0 hr hl hD ⟨_, h1⟩ _ fun v H'' s2 r => ⟨vs, s2 _ _ h1, ?_, vs ++ [v], ?_, hw D H'' _ _ _ hD SameX.upd (S0.trans s2) ⟨vs, s2 _ _ h1⟩ r, upd_same, (h2.trans (SameX.of s2)).upd'⟩
    · have := getq_lt hi
      exact Nat.lt_of_lt_of_le (show vs.length < 100000 by omega) (by decide)
    · rw [List.length_append, hl]; rfl
  · rintro H' ⟨vs, hl, hr, h1, h2⟩
    exact hd D vs H' hD hl hr h1 (Same.ofX hD h2)
theorem all_rep (n : Nat) : (List.replicate n true).all id = true := by simp
theorem Same.ofX2 {H H1 H2 : Hp} {l : Addr} (hl : H l = none) (s1 : Same H H1) (s2 : SameX l H1 H2) : Same H H2 := fun b o e => s2 b o (ne_of_none e hl) (s1 b o e)
/-! ### own errors -/
abbrev sp_InvalidNumber_init_ (K : PySem.W.Frag) : Sp := sp_xinit K "number"
theorem ok_InvalidNumber_init_ (T : Txt K mg) : FnOk P w K mg base CX0 1 T.a_InvalidNumber_init_ T.fd_InvalidNumber_init_ ["self", "number"] (sp_InvalidNumber_init_ K) := by
  have S := sc_InvalidNumber_init_
  refine T.F_InvalidNumber_init_.ok S (fun vs H Q E h => ?_) (fun cdv A outer s H vs Q E hr h => ?_)
  · obtain ⟨a, C, v, rfl, _⟩ := h
    rfl
  · obtain ⟨a, C, v, rfl, O, hn, ha, k⟩ := h
    refine ⟨_, (pss_one (ps_ost (pv 0) (pv 1))), ?_⟩
    exact ⟨_, rfl, _, rfl, a, C, rfl, O, hn, .inl ⟨ha, k⟩⟩
/-- an error of the class at C with the one field f -/
def Err (C : Addr) (f : Str) (v : V) (H : Hp) (E : XK) : Prop := ∀ d H', Same H H' → H' d = some (.xd [(f, v)]) → E (.ref C) (some d) H'
/-- x lies not in lo .. hi -/
def Out (K : PySem.W.Frag) (H : Hp) (x : V) (lo hi : Int) : Prop := ∃ o, Kd K H x o ∧ inR lo hi o = false
theorem Out.same {K : PySem.W.Frag} {H H' : Hp} {x : V} {lo hi : Int} (h : Out K H x lo hi) (s : Same H H') : Out K H' x lo hi := h.elim fun o h => ⟨o, h.1.same s, h.2⟩
theorem Out.typ {K : PySem.W.Frag} {H H' : Hp} {x : V} {lo hi : Int} (h : Out K H x lo hi) (s : Typ H H') : Out K H' x lo hi := h.elim fun o h => ⟨o, h.1.typ s, h.2⟩
theorem Out.int {K : PySem.W.Frag} {H : Hp} {n lo hi : Int} (h : n < lo ∨ hi < n) : Out K H (.int n) lo hi := ⟨some n, rfl, by
  show (decide (lo ≤ n) && decide (n ≤ hi)) = false
  rcases h with h | h
  · rw [decide_eq_false (show ¬ lo ≤ n by omega)]; rfl
  · rw [decide_eq_false (show ¬ n ≤ hi by omega), Bool.and_false]⟩
theorem Out.odd {K : PySem.W.Frag} {H : Hp} {x : V} {lo hi : Int} (h : IntK K H x false) : Out K H x lo hi := ⟨none, h, rfl⟩
/-- x is no count -/
def Less (K : PySem.W.Frag) (H : Hp) (x : V) (lo : Int) : Prop := (∃ n, x = .int n ∧ n < lo) ∨ IntK K H x false
theorem Less.same {K : PySem.W.Frag} {H H' : Hp} {x : V} {lo : Int} (h : Less K H x lo) (s : Same H H') : Less K H' x lo := h.elim .inl fun h => .inr (h.same s)
/-- menus of a try: what is caught, and what e is -/
theorem errX {K : PySem.W.Frag} {a D dd : Addr} {fs : List (Str × V)} {c : V} {cv : Value} {b : Bool} {H : Hp} {Q : VK} (hcv : ∀ u, RelV c u → u = cv) (ec : ExcC K D) (hd : H dd = some (.xd fs)) (hk : PySem.W.kitOne K (.ref D) cv = some b) (q : Q (.bl b) H) : rIsX K a (.ref D) (some dd) [.ref a, c] H Q := ⟨c, cv, b, D, dd, fs, rfl, hcv, rfl, ec, rfl, hd, hk, q⟩
theorem errF {K : PySem.W.Frag} {a C dd : Addr} {f : Str} {fs : List (Str × V)} {v : V} {H : Hp} {P : V → Prop} (T : XfC K C) (hn : PySem.W.findIn K (.ref C) f = some none) (hd : H dd = some (.xd fs)) (e : fs.lookup f = some v) (q : P v) :
    V.ref a = V.ref a ∧ ∃ (C' dd' : Addr) (fs : List (Str × V)) (v : V), Value.ref C = .ref C' ∧ XfC K C' ∧ PySem.W.findIn K (.ref C') f = some none ∧ some dd = some dd' ∧ H dd' = some (.xd fs) ∧ fs.lookup f = some v ∧ P v := ⟨rfl, C, dd, fs, v, rfl, T, hn, rfl, hd, e, q⟩
section
variable {K : PySem.W.Frag} {σ : L2.St} {H : Hp} {Q : VK} {v : V} {te : TE} {D : Ends} {i : Nat}
theorem x_xg {a : Addr} {cls : Value} {d : Option Addr} {f : Str} (q : te σ H fun x H1 => x = .ref a ∧ ∃ (C dd : Addr) (fs : List (Str × V)) (v : V), cls = .ref C ∧ XfC K C ∧ PySem.W.findIn K (.ref C) f = some none ∧ d = some dd ∧ H1 dd = some (.xd fs) ∧ fs.lookup f = some v ∧ Q v H1) : tXg K a cls d f te σ H Q := q
theorem x_clgo {a : Addr} {ts : TS} (q : ts (unN D i) (σ.set i (some (.ref a))) H) : clGo D (some i) ts a σ H := q
theorem x_methX {C : Addr} {m : Str} {sp : Sp} {E : L2.St → XK} {ta : TE} {t : TA} (q : ta σ H fun x H1 => ∃ a dx fs, x = .ref a ∧ H1 a = some (.ins C dx fs) ∧ fs.lookup m = none ∧ t σ H1 fun vs H2 => sp (x :: vs) H2 Q (E σ)) : tMethX C m sp E ta t σ H Q := q
theorem x_unrt (q : D.rt v H) : (unN D i).rt v H := q
theorem x_unnx (q : D.nx (σ.set i none) H) : (unN D i).nx σ H := q
end
theorem len2 {α : Type} {l : List α} (h : l.length = 2) : ∃ a b, l = [a, b] := by
  match l, h with
  | [a, b], _ => exact ⟨a, b, rfl⟩
theorem len4 {α : Type} {l : List α} (h : l.length = 4) : ∃ a b c d, l = [a, b, c, d] := by
  match l, h with
  | [a, b, c, d], _ => exact ⟨a, b, c, d, rfl⟩
local macro_rules
  | `(tactic| w_up) => `(tactic| first | with_reducible refine x_clgo ?_ | with_reducible refine x_methX ?_ | with_reducible refine x_xg ?_ | with_reducible refine x_unrt ?_ | with_reducible refine x_unnx ?_)
/-! ### is it a sequence -/
def sp_is_sequence (K : PySem.W.Frag) : Sp := fun vs H Q _ => ∃ (x : V) (r : Bool), vs = [x] ∧ SeqK K H x r ∧ ∀ H', Same H H' → Q (.bl r) H'
theorem ok_is_sequence (T : Txt K mg) : FnOk P w K mg base CX0 1 T.a_is_sequence T.fd_is_sequence ["value"] (sp_is_sequence K) := by
  have S := sc_is_sequence
  refine T.F_is_sequence.ok S (fun vs H Q E h => ?_) (fun cdv A outer s H vs Q E hr h => ?_)
  · obtain ⟨x, r, rfl, _⟩ := h
    rfl
  · obtain ⟨x, r, rfl, ⟨t, ty, hk⟩, k⟩ := h
    refine ⟨_, (pss_one (ps_ret (pe_callB (id := "isinstance") call_isiT (by rfl) T.b_isinstance (by decide +kernel) (pa_cons (pv 0) (pa_cons (pe_tup (pa_cons (pe_bltn (v := .ty "list") (u := .type "list") (by rfl) T.b_list (by decide +kernel) rfl) (pa_cons (pe_bltn (v := .ty "tuple") (u := .type "tuple") (by rfl) T.b_tuple (by decide +kernel) rfl) pa_nil))) pa_nil))))), ?_⟩
    refine ⟨_, rfl, (by show 2 ≤ sizeLine; decide), fun tp htp => ?_⟩
    exact ⟨_, tp, _, t, [.type "list", .type "tuple"], r, rfl, upd_same, .cons (.ty _) (.cons (.ty _) .nil), tyX_same ty (Same.new htp), hk, k _ (Same.new htp)⟩
def sp_is_at_least (K : PySem.W.Frag) : Sp := fun vs H Q _ => ∃ (x : V) (lo : Int), vs = [x, .int lo] ∧ ((∃ n, x = .int n ∧ lo ≤ n ∧ Q (.bl true) H) ∨ (Less K H x lo ∧ Q (.bl false) H))
theorem ok_is_at_least (T : Txt K mg) : FnOk P w K mg base CX0 2 T.a_is_at_least T.fd_is_at_least ["value", "low"] (sp_is_at_least K) := by
  have S := sc_is_at_least
  refine T.F_is_at_least.ok S (fun vs H Q E h => ?_) (fun cdv A outer s H vs Q E hr h => ?_)
  · obtain ⟨x, lo, rfl, _⟩ := h
    rfl
  · obtain ⟨x, lo, rfl, h⟩ := h
    refine ⟨_, (pss_one (ps_ret (pe_and (pe_call (ok_is_integer T) (hr.mono (by decide)) rfl T.g_is_integer T.F_is_integer.kp T.B_is_integer .nil pass0 (pa_cons (pv 0) pa_nil)) (pe_one (pe_cmpR op_le (pv 1) (pv 0) (nomark _)))))), ?_⟩
    refine st_is_at_least ?_
    o_args
    rcases h with ⟨n, rfl, hn, k⟩ | ⟨⟨n, rfl, hn⟩ | hk, k⟩
    · refine ⟨_, true, rfl, intK_int n, ?_⟩
      o_args
      rw [decide_eq_true hn]
      exact k
    · refine ⟨_, true, rfl, intK_int n, ?_⟩
      o_args
      rw [decide_eq_false (show ¬ lo ≤ n by omega)]
      exact k
    · refine ⟨_, false, rfl, hk, ?_⟩
      o_args
      exact k
/-! ### comprehensions, any -/
theorem lcG {K : PySem.W.Frag} {a : Addr} {xs : List V} {te tel : TE} {tt : TT} {σ : L2.St} {H : Hp} {Q : VK} {j : Nat} (P : Addr → Nat → List V → Hp → Prop) (hte : ∀ R' : VK, R' (.ref a) H → te σ H R') (hS : SqL K H a xs) (hz : xs.length < 100000)
    (h0 : ∀ D, H D = none → P D 0 [] (upd H D (.lst []))) (hsq : ∀ D i vs H', H D = none → P D i vs H' → SqL K H' a xs)
    (hs : ∀ D i x vs H', H D = none → xs[i]? = some x → vs.length ≤ i → H' D = some (.lst vs) → P D i vs H' → ∀ (Y : VK) (N : Hp → Prop), (∀ v H3, H3 D = some (.lst vs) → P D (i + 1) (vs ++ [v]) (upd H3 D (.lst (vs ++ [v]))) → Y v H3) → (∀ H3, H3 D = some (.lst vs) → P D (i + 1) vs H3 → N H3) →
      tt ((σ.set j none).set j (some x)) H' fun b H2 => if b = true then tel ((σ.set j none).set j (some x)) H2 Y else N H2)
    (hd : ∀ D vs H', H D = none → H' D = some (.lst vs) → vs.length ≤ xs.length → P D xs.length vs H' → Q (.ref D) H') : tLc (iList K te) (gName j) tt tel [j] σ H Q := by
  refine hte _ ⟨a, rfl, ⟨_, hS⟩, fun D hD => lc_list (K := K) (a := a) (xs := xs) (fun i H' => ∃ vs : List V, vs.length ≤ i ∧ P D i vs H' ∧ H' D = some (.lst vs)) ⟨[], Nat.le_refl _, h0 D hD, upd_same⟩ (fun i H' _ ⟨vs, _, h, _⟩ => hsq D i vs H' hD h) ?_ ?_⟩
  · rintro i x H' hi ⟨vs, hl, hp, h1⟩
    have il := (List.getElem?_eq_some_iff.mp hi).1
    refine ⟨?_, ?_⟩
    · show ((((σ.set j none).set j (some x)).set j none) = σ.set j none)
      rw [List.set_set, List.set_set]
    refine hs D i x vs H' hD hi hl h1 hp _ _ (fun v H3 e p => ⟨vs, e, Nat.lt_of_lt_of_le (show vs.length < 100000 by omega) (by decide), vs ++ [v], ?_, p, upd_same⟩) (fun H3 e p => ⟨vs, by omega, p, e⟩)
    rw [List.length_append]
    exact Nat.succ_le_succ hl
  · rintro H' ⟨vs, hl, hp, h1⟩
    exact hd D vs H' hD h1 hl hp
theorem lcGT {K : PySem.W.Frag} {a : Addr} {xs : List V} {te tel : TE} {tt : TT} {σ : L2.St} {H : Hp} {Q : VK} {j : Nat} (P : Addr → Nat → List V → Hp → Prop) (hte : ∀ R' : VK, R' (.ref a) H → te σ H R') (hS : SqT K H a xs) (hz : xs.length < 100000)
    (h0 : ∀ D, H D = none → P D 0 [] (upd H D (.lst []))) (hsq : ∀ D i vs H', H D = none → P D i vs H' → SqT K H' a xs)
    (hs : ∀ D i x vs H', H D = none → xs[i]? = some x → vs.length ≤ i → H' D = some (.lst vs) → P D i vs H' → ∀ (Y : VK) (N : Hp → Prop), (∀ v H3, H3 D = some (.lst vs) → P D (i + 1) (vs ++ [v]) (upd H3 D (.lst (vs ++ [v]))) → Y v H3) → (∀ H3, H3 D = some (.lst vs) → P D (i + 1) vs H3 → N H3) →
      tt ((σ.set j none).set j (some x)) H' fun b H2 => if b = true then tel ((σ.set j none).set j (some x)) H2 Y else N H2)
    (hd : ∀ D vs H', H D = none → H' D = some (.lst vs) → vs.length ≤ xs.length → P D xs.length vs H' → Q (.ref D) H') : tLc (iTup K te) (gName j) tt tel [j] σ H Q := by
  refine hte _ ⟨a, rfl, ⟨_, hS⟩, fun D hD => lc_tup (K := K) (a := a) (xs := xs) (fun i H' => ∃ vs : List V, vs.length ≤ i ∧ P D i vs H' ∧ H' D = some (.lst vs)) ⟨[], Nat.le_refl _, h0 D hD, upd_same⟩ (fun i H' _ ⟨vs, _, h, _⟩ => hsq D i vs H' hD h) ?_ ?_⟩
  · rintro i x H' hi ⟨vs, hl, hp, h1⟩
    have il := (List.getElem?_eq_some_iff.mp hi).1
    refine ⟨?_, ?_⟩
    · show ((((σ.set j none).set j (some x)).set j none) = σ.set j none)
      rw [List.set_set, List.set_set]
    refine hs D i x vs H' hD hi hl h1 hp _ _ (fun v H3 e p => ⟨vs, e, Nat.lt_of_lt_of_le (show vs.length < 100000 by omega) (by decide), vs ++ [v], ?_, p, upd_same⟩) (fun H3 e p => ⟨vs, by omega, p, e⟩)
    rw [List.length_append]
    exact Nat.succ_le_succ hl
  · rintro H' ⟨vs, hl, hp, h1⟩
    exact hd D vs H' hD h1 hl hp
/-! ### a list or a tuple, walked and read -/
def iOr (w1 w2 : TI) : TI := fun σ H R => w1 σ H R ∨ w2 σ H R
theorem pi_seqA {X : Cx} {tg e : Expr} {te : TE} (he : PE X e te) : PI X tg e (iOr (iList X.K te) (iTup X.K te)) := ⟨fun pins s σ H R I h => h.elim ((pi_list he).run pins s σ H R I) ((pi_tup he).run pins s σ H R I)⟩
theorem ix_seqA {K : PySem.W.Frag} {H : Hp} {Q : VK} {a : Addr} {xs : List V} {i : Int} {v : V} (h : SeqA K H a xs) (hi : atI xs i = some v) (q : Q v H) : rIx K (.ref a) (.int i) H Q :=
  h.elim (fun h => .inl ⟨_, _, _, _, rfl, rfl, h, hi, q⟩) (fun h => .inr (.inl ⟨_, _, _, _, rfl, rfl, h, hi, q⟩))
theorem sqT_at {K : PySem.W.Frag} {H H' : Hp} {a : Addr} {xs : List V} (h : SqT K H a xs) (k : ∀ o, H a = some o → H' a = some o) : SqT K H' a xs := by
  rcases h with (h | ⟨o, h⟩) | h
  · exact .inl (.inl (k _ h))
  · exact .inl (.inr ⟨o, k _ h⟩)
  · exact .inr h
theorem sqL_at {K : PySem.W.Frag} {H H' : Hp} {a : Addr} {xs : List V} (h : SqL K H a xs) (k : ∀ o, H a = some o → H' a = some o) : SqL K H' a xs := by
  rcases h with (h | ⟨o, h⟩) | h
  · exact .inl (.inl (k _ h))
  · exact .inl (.inr ⟨o, k _ h⟩)
  · exact .inr h
theorem lcGA {K : PySem.W.Frag} {a : Addr} {xs : List V} {te tel : TE} {tt : TT} {σ : L2.St} {H : Hp} {Q : VK} {j : Nat} (P : Addr → Nat → List V → Hp → Prop) (hte : ∀ R' : VK, R' (.ref a) H → te σ H R') (hS : SeqA K H a xs) (hz : xs.length < 100000)
    (h0 : ∀ D, H D = none → P D 0 [] (upd H D (.lst []))) (hk : ∀ D i vs H', H D = none → P D i vs H' → ∀ o, H a = some o → H' a = some o)
    (hs : ∀ D i x vs H', H D = none → xs[i]? = some x → vs.length ≤ i → H' D = some (.lst vs) → P D i vs H' → ∀ (Y : VK) (N : Hp → Prop), (∀ v H3, H3 D = some (.lst vs) → P D (i + 1) (vs ++ [v]) (upd H3 D (.lst (vs ++ [v]))) → Y v H3) → (∀ H3, H3 D = some (.lst vs) → P D (i + 1) vs H3 → N H3) →
      tt ((σ.set j none).set j (some x)) H' fun b H2 => if b = true then tel ((σ.set j none).set j (some x)) H2 Y else N H2)
    (hd : ∀ D vs H', H D = none → H' D = some (.lst vs) → vs.length ≤ xs.length → P D xs.length vs H' → Q (.ref D) H') : tLc (iOr (iList K te) (iTup K te)) (gName j) tt tel [j] σ H Q :=
  hS.elim (fun h => .inl (lcG P hte h hz h0 (fun D i vs H' hD p => sqL_at h (hk D i vs H' hD p)) hs hd)) fun h => .inr (lcGT P hte h hz h0 (fun D i vs H' hD p => sqT_at h (hk D i vs H' hD p)) hs hd)
/-! ### frames: all but what is named stands, nothing goes -/
def Ch (G : List Addr) (H H' : Hp) : Prop := (∀ b o, b ∉ G → H b = some o → H' b = some o) ∧ ∀ b, H b ≠ none → H' b ≠ none
def Al (F : List Addr) (H : Hp) : Prop := ∀ x ∈ F, H x ≠ none
section
variable {G F : List Addr} {H H1 H2 : Hp} {a l : Addr} {o : HO}
theorem Ch.refl : Ch G H H := ⟨fun _ _ _ h => h, fun _ h => h⟩
theorem Ch.trans (x : Ch G H H1) (y : Ch G H1 H2) : Ch G H H2 := ⟨fun b o n h => y.1 b o n (x.1 b o n h), fun b h => y.2 b (x.2 b h)⟩
theorem Ch.of (s : Same H H1) : Ch G H H1 := ⟨fun b o _ h => s b o h, fun b h => by
  cases q : H b with
  | none => exact absurd q h
  | some o => rw [s _ _ q]; exact fun z => nomatch z⟩
theorem Ch.ofX (h : a ∈ G) (s : SameX a H H1) (e : H1 a = some o) : Ch G H H1 := ⟨fun b o n q => s b o (fun z => n (z ▸ h)) q, fun b q => by
  by_cases z : b = a
  · rw [z, e]; exact fun z => nomatch z
  · cases q' : H b with
    | none => exact absurd q' q
    | some o => rw [s _ _ z q']; exact fun z => nomatch z⟩
theorem Ch.more (x : Ch G H H1) (h : ∀ b ∈ G, b ∈ F) : Ch F H H1 := ⟨fun b o n q => x.1 b o (fun z => n (h b z)) q, x.2⟩
/-- what is new may change -/
theorem Ch.drop (x : Ch (l :: G) H H1) (h : H l = none) : Ch G H H1 := ⟨fun b o n q => x.1 b o (fun z => by
  rcases List.mem_cons.mp z with z | z
  · rw [z, h] at q; cases q
  · exact n z) q, x.2⟩
theorem Ch.same (x : Ch [] H H1) : Same H H1 := fun b o h => x.1 b o (fun z => nomatch z) h
theorem Ch.sameX (x : Ch [a] H H1) : SameX a H H1 := fun b o n h => x.1 b o (fun z => n (List.mem_singleton.mp z)) h
theorem Ch.at (x : Ch G H H1) (n : a ∉ G) (h : H a = some o) : H1 a = some o := x.1 a o n h
theorem Ch.none (x : Ch G H H1) (h : H1 a = none) : H a = none := by
  cases q : H a with
  | none => rfl
  | some o => exact absurd h (x.2 a (by rw [q]; exact fun z => nomatch z))
theorem Al.ch (A : Al F H) (x : Ch G H H1) : Al F H1 := fun b h => x.2 b (A b h)
theorem Al.same (A : Al F H) (x : Same H H1) : Al F H1 := A.ch (Ch.of (G := []) x)
theorem Al.nil : Al [] H := fun _ h => nomatch h
theorem Al.cons (h : H a = some o) (A : Al F H) : Al (a :: F) H := fun b hb => by
  rcases List.mem_cons.mp hb with e | hb
  · rw [e, h]; exact fun z => nomatch z
  · exact A b hb
theorem Al.less (A : Al F H) (h : ∀ b ∈ G, b ∈ F) : Al G H := fun b q => A b (h b q)
theorem Al.new (A : Al F H) (h : H l = none) : l ∉ F := fun z => A l z h
theorem Al.one (h : H a = some o) : Al [a] H := .cons h .nil
end
/-! ### a box of five, drawn from -/
def Box (a : Addr) (F : List Addr) (H : Hp) : Prop := ∃ (c : Addr) (cs : List Int) (p r s n : Int), H a = some (.lst [.ref c, .int p, .int r, .int s, .int n]) ∧ H c = some (.lst (cs.map V.int)) ∧ a ∉ F ∧ c ∉ F ∧ 0 ≤ p ∧ 0 ≤ r
section
variable {a l : Addr} {F G : List Addr} {H H' : Hp}
theorem Box.ch (B : Box a F H) (x : Ch G H H') (h : ∀ b ∈ G, b ∈ F) : Box a F H' := by
  obtain ⟨c, cs, p, r, s, n, h1, h2, h3, h4, h5, h6⟩ := B
  exact ⟨c, cs, p, r, s, n, x.at (fun z => h3 (h _ z)) h1, x.at (fun z => h4 (h _ z)) h2, h3, h4, h5, h6⟩
theorem Box.same (B : Box a F H) (s : Same H H') : Box a F H' := B.ch (Ch.of (G := []) s) (fun _ h => nomatch h)
theorem Box.own (B : Box a F H) (hl : H l = none) (s : Same H H') : Box a (l :: F) H' := by
  obtain ⟨c, cs, p, r, z, n, h1, h2, h3, h4, h5, h6⟩ := B
  refine ⟨c, cs, p, r, z, n, s _ _ h1, s _ _ h2, fun q => ?_, fun q => ?_, h5, h6⟩
  · rcases List.mem_cons.mp q with q | q
    · rw [q, hl] at h1; cases h1
    · exact h3 q
  · rcases List.mem_cons.mp q with q | q
    · rw [q, hl] at h2; cases h2
    · exact h4 q
theorem Box.less (B : Box a F H) (h : ∀ b ∈ G, b ∈ F) : Box a G H := by
  obtain ⟨c, cs, p, r, z, n, h1, h2, h3, h4, h5, h6⟩ := B
  exact ⟨c, cs, p, r, z, n, h1, h2, fun q => h3 (h _ q), fun q => h4 (h _ q), h5, h6⟩
theorem Box.al (B : Box a F H) : ∃ o, H a = some o := by
  obtain ⟨c, cs, p, r, z, n, h1, _⟩ := B
  exact ⟨_, h1⟩
theorem Box.nin (B : Box a F H) : a ∉ F := by
  obtain ⟨c, cs, p, r, z, n, _, _, h, _⟩ := B
  exact h
end
def sp__law_box (K : PySem.W.Frag) : Sp := fun vs H Q _ => ∃ (a : Addr) (ns : List Int), vs = [.ref a] ∧ SqL K H a (ns.map V.int) ∧ ∀ b H', H b = none → Same H H' → (∀ F, Al F H → Box b F H') → Q (.ref b) H'
theorem ok__law_box (T : Txt K mg) : FnOk P w K mg base CX0 1 T.a__law_box T.fd__law_box ["script"] (sp__law_box K) := by
  have S := sc__law_box
  refine T.F__law_box.ok S (fun vs H Q E h => ?_) (fun cdv A outer s H vs Q E hr h => ?_)
  · obtain ⟨a, ns, rfl, _⟩ := h
    rfl
  · obtain ⟨a, ns, rfl, hS, k⟩ := h
    refine ⟨_, (pss_one (ps_ret (pe_lst (pa_cons (pe_callTy (T := "list") (call_listK (K := K) rfl) (by rfl) T.b_list (by decide +kernel) (pa_cons (pv 0) pa_nil)) (pa_cons pe_int (pa_cons pe_int (pa_cons pe_int (pa_cons pe_int pa_nil)))))))), ?_⟩
    refine st__law_box ?_
    o_args
    refine listOf (.inl hS) fun c H1 nc s1 h1 => ?_
    o_args
    refine newList (by simp) fun b H2 nb s2 h2 => ?_
    have bH : H b = none := none_of s1 nb
    o_args
    refine k b H2 bH (s1.trans s2) fun F A => ⟨c, ns, _, _, _, _, h2, s2 _ _ h1, A.new bH, A.new nc, by decide, by decide⟩
def sp__law_draw : Sp := fun vs H Q _ => ∃ (a : Addr) (F : List Addr) (m : Int), vs = [.ref a, .int m] ∧ Box a F H ∧ 0 < m ∧ m < 2 ^ 62 ∧ ∀ d H', 0 ≤ d → d < m → Box a F H' → Ch [a] H H' → Q (.int d) H'
theorem ok__law_draw (T : Txt K mg) : FnOk P w K mg base CX0 1 T.a__law_draw T.fd__law_draw ["box", "size"] (sp__law_draw) := by
  have S := sc__law_draw
  refine T.F__law_draw.ok S (fun vs H Q E h => ?_) (fun cdv A outer s H vs Q E hr h => ?_)
  · obtain ⟨a, F, m, rfl, _⟩ := h
    rfl
  · obtain ⟨a, F, m, rfl, ⟨c, cs, p, r, s, n, hA, hC, nA, nC, p0, r0⟩, m0, m1, k⟩ := h
    have m0' : m ≠ 0 := by omega
    have ca : c ≠ a := ne_of hC hA (fun e => by
      injection e with e
      cases cs with
      | nil => cases e
      | cons x r => injection e with e1 _; cases e1)
    refine ⟨_, (pss_cons (ps_asg (pe_op op_add (pe_ix ix_list (pv 0) pe_int (fun _ _ => rfl)) pe_int) (pg_sub (pv 0) pe_int set_list))
      (C8.pss_cut (ps_if (PW.pt (pw_and (pt_cmpR op_eq (pe_ix ix_list (pv 0) pe_int (fun _ _ => rfl)) pe_int (nomark _)) (pw_and1 (pt_cmpR op_lt (pe_ix ix_list (pv 0) pe_int (fun _ _ => rfl)) (pe_callB (id := "len") (call_lenK (K := K) rfl) (by rfl) T.b_len (by decide +kernel) (pa_cons (pe_ix ix_list (pv 0) pe_int (fun _ _ => rfl)) pa_nil)) (nomark _))))) (pss_cons (ps_set (i := 2) S.nd rfl (Or.inl rfl) (pe_ix ix_list (pe_ix ix_list (pv 0) pe_int (fun _ _ => rfl)) (pe_ix ix_list (pv 0) pe_int (fun _ _ => rfl)) (fun _ _ => rfl)))
      (pss_cons (ps_asg (pe_op op_add (pe_ix ix_list (pv 0) pe_int (fun _ _ => rfl)) pe_int) (pg_sub (pv 0) pe_int set_list))
      (pss_one (ps_if (pt_cmpR op_ge (pe_callB (id := "abs") call_absK (by rfl) T.b_abs (by decide +kernel) (pa_cons (pv 2) pa_nil)) (pe_op op_pow pe_int pe_int) (nomark _)) (pss_one (ps_asg (pe_callB (id := "abs") call_absK (by rfl) T.b_abs (by decide +kernel) (pa_cons (pv 2) pa_nil)) (pg_sub (pv 0) pe_int set_list))) (pss_one (ps_asg (pe_op op_mod (pe_callTy (T := "int") call_int1 (by rfl) T.b_int (by decide +kernel) (pa_cons (pe_op op_add (pe_op op_add (pe_op op_mul (pe_ix ix_list (pv 0) pe_int (fun _ _ => rfl)) pe_int) (pe_op op_mul (pv 2) pe_int)) (pe_ix ix_list (pv 0) pe_int (fun _ _ => rfl))) pa_nil)) pe_int) (pg_sub (pv 0) pe_int set_list))))))) pss_nil)
      (pss_cons (ps_if (pt_cmpR op_gt (pe_ix ix_list (pv 0) pe_int (fun _ _ => rfl)) pe_int (nomark _)) (pss_cons (ps_set (i := 3) S.nd rfl (Or.inl rfl) (pe_op op_mod (pe_callTy (T := "int") call_int1 (by rfl) T.b_int (by decide +kernel) (pa_cons (pe_ix ix_list (pv 0) pe_int (fun _ _ => rfl)) pa_nil)) (pv 1)))
      (pss_cons (ps_asg (pe_op op_fdivW (pe_ix ix_list (pv 0) pe_int (fun _ _ => rfl)) (pv 1)) (pg_sub (pv 0) pe_int set_list))
      (pss_one (ps_ret (pv 3))))) pss_nil)
      (pss_cons (ps_asg (pe_op op_mod (pe_callTy (T := "int") call_int1 (by rfl) T.b_int (by decide +kernel) (pa_cons (pe_op op_mul (pe_ix ix_list (pv 0) pe_int (fun _ _ => rfl)) pe_int) pa_nil)) pe_int) (pg_sub (pv 0) pe_int set_list))
      (pss_cons (ps_set (i := 4) S.nd rfl (Or.inl rfl) (pe_op op_mod (pe_callTy (T := "int") call_int1 (by rfl) T.b_int (by decide +kernel) (pa_cons (pe_op op_mul (pe_ix ix_list (pv 0) pe_int (fun _ _ => rfl)) pe_int) pa_nil)) pe_int))
      (pss_one (ps_ret (pe_op op_mod (pe_callTy (T := "int") call_int1 (by rfl) T.b_int (by decide +kernel) (pa_cons (pe_op op_add (pe_op op_add (pe_op op_fdiv (pv 4) pe_int) (pe_ix ix_list (pv 0) pe_int (fun _ _ => rfl))) (pe_op op_fdiv (pe_ix ix_list (pv 0) pe_int (fun _ _ => rfl)) pe_int)) pa_nil)) (pv 1))))))))), ?_⟩
    refine st__law_draw ?_
    o_args
    refine setL (i := 4) hA (by simp) fun H1 s1 h1 => ?_
    have h1 : H1 a = some (.lst [.ref c, .int p, .int r, .int s, .int (n + 1)]) := h1
    have c1 := s1 _ _ ca hC
    refine ⟨fun σ H' => ∃ v p' r' s', σ = [some (.ref a), some (.int m), v, none, none] ∧ H' a = some (.lst [.ref c, .int p', .int r', .int s', .int (n + 1)]) ∧ SameX a H1 H' ∧ 0 ≤ p' ∧ 0 ≤ r', ?_, ?_⟩
    · o_args
      refine brD (fun q => ?_) (fun q => ?_)
      · o_args
        refine lenA (.inl (SqL.of c1)) ?_
        o_args
        refine brD (fun q2 => ?_) (fun q2 => ?_)
        · obtain ⟨pn, rfl⟩ : ∃ pn : Nat, p = pn := ⟨p.toNat, by omega⟩
          have q3 : pn < (cs.map V.int).length := by omega
          rw [List.length_map] at q3
          o_args
          refine ixL c1 (show (cs.map V.int)[pn]? = some (.int cs[pn]) by rw [List.getElem?_map, List.getElem?_eq_getElem q3]; rfl) ?_
          generalize cs[pn] = cell
          o_args
          refine setL (i := 1) h1 (by simp) fun H2 s2 h2 => ?_
          have h2 : H2 a = some (.lst [.ref c, .int ((pn : Int) + 1), .int r, .int s, .int (n + 1)]) := h2
          have e18 : (10 : Int) ^ Int.toNat 18 = 1000000000000000000 := rfl
          o_args
          refine brD (fun q4 => ?_) (fun q4 => ?_)
          · rw [e18] at q4
            o_args
            refine setL (i := 2) h2 (by simp) fun H3 s3 h3 => ?_
            o_args
            exact ⟨_, _, _, _, rfl, h3, s2.trans s3, by omega, by omega⟩
          · o_args
            refine setL (i := 3) h2 (by simp) fun H3 s3 h3 => ?_
            o_args
            exact ⟨_, _, _, _, rfl, h3, s2.trans s3, by omega, by omega⟩
        · o_args
          exact ⟨_, _, _, _, rfl, h1, SameX.refl, p0, r0⟩
      · o_args
        exact ⟨_, _, _, _, rfl, h1, SameX.refl, p0, r0⟩
    · rintro σ H2 ⟨v, p', r', s', rfl, h2, s2, p1, r1⟩
      have fin : ∀ {r'' s'' H3}, H3 a = some (.lst [.ref c, .int p', .int r'', .int s'', .int (n + 1)]) → SameX a H2 H3 → 0 ≤ r'' → Box a F H3 ∧ Ch [a] H H3 := fun h3 s3 r3 => by
        have S := (s1.trans s2).trans s3
        exact ⟨⟨c, cs, p', _, _, n + 1, h3, S _ _ ca hC, nA, nC, p1, r3⟩, Ch.ofX List.mem_cons_self S h3⟩
      o_args
      refine brD (fun q => ?_) (fun q => ?_)
      · o_args
        refine ⟨_, _, rfl, rfl, m0, ?_⟩
        o_args
        refine x_divW m0 m1 ?_
        o_args
        refine setL (i := 2) h2 (by simp) fun H3 s3 h3 => ?_
        o_args
        obtain ⟨B3, C3⟩ := fin h3 s3 (Int.ediv_nonneg r1 (by omega))
        exact k _ _ (Int.emod_nonneg _ m0') (Int.emod_lt_of_pos _ m0) B3 C3
      · o_args
        refine setL (i := 3) h2 (by simp) fun H3 s3 h3 => ?_
        have h3 : H3 a = some (.lst [.ref c, .int p', .int r', .int (s' * 48271 % 2147483647), .int (n + 1)]) := h3
        o_args
        refine ⟨_, _, rfl, rfl, m0, ?_⟩
        o_args
        obtain ⟨B3, C3⟩ := fin h3 s3 r1
        exact k _ _ (Int.emod_nonneg _ m0') (Int.emod_lt_of_pos _ m0) B3 C3
/-! ### runs -/
abbrev Run := Int × Int
def Mem (o : Int) (rs : List Run) : Prop := ∃ r ∈ rs, r.1 ≤ o ∧ o < r.2
def Nrm (rs : List Run) : Prop := (∀ r ∈ rs, r.1 < r.2) ∧ rs.Pairwise fun a b => a.2 < b.1
theorem Mem.nil {o : Int} : ¬ Mem o [] := fun ⟨_, h, _⟩ => nomatch h
theorem Mem.cons {o : Int} {r : Run} {rs : List Run} : Mem o (r :: rs) ↔ (r.1 ≤ o ∧ o < r.2) ∨ Mem o rs := by
  constructor
  · rintro ⟨q, h, c⟩
    rcases List.mem_cons.mp h with rfl | h
    · exact .inl c
    · exact .inr ⟨q, h, c⟩
  · rintro (c | ⟨q, h, c⟩)
    · exact ⟨r, List.mem_cons_self, c⟩
    · exact ⟨q, List.mem_cons_of_mem _ h, c⟩
theorem Mem.app {o : Int} {rs qs : List Run} : Mem o (rs ++ qs) ↔ Mem o rs ∨ Mem o qs := by
  constructor
  · rintro ⟨q, h, c⟩
    rcases List.mem_append.mp h with h | h
    · exact .inl ⟨q, h, c⟩
    · exact .inr ⟨q, h, c⟩
  · rintro (⟨q, h, c⟩ | ⟨q, h, c⟩)
    · exact ⟨q, List.mem_append_left _ h, c⟩
    · exact ⟨q, List.mem_append_right _ h, c⟩
theorem Mem.one {o : Int} {r : Run} : Mem o [r] ↔ (r.1 ≤ o ∧ o < r.2) := by
  rw [Mem.cons]
  exact ⟨fun h => h.elim id fun h => absurd h Mem.nil, .inl⟩
theorem Nrm.nil : Nrm [] := ⟨fun _ h => (nomatch h), List.Pairwise.nil⟩
theorem Nrm.cons {r : Run} {rs : List Run} : Nrm (r :: rs) ↔ r.1 < r.2 ∧ (∀ q ∈ rs, r.2 < q.1) ∧ Nrm rs := by
  unfold Nrm
  rw [List.pairwise_cons]
  constructor
  · rintro ⟨h1, h2, h3⟩
    exact ⟨h1 r List.mem_cons_self, h2, fun q hq => h1 q (List.mem_cons_of_mem _ hq), h3⟩
  · rintro ⟨h1, h2, h3, h4⟩
    refine ⟨fun q hq => ?_, h2, h4⟩
    rcases List.mem_cons.mp hq with rfl | hq
    · exact h1
    · exact h3 q hq
theorem Nrm.snoc {r : Run} {rs : List Run} : Nrm (rs ++ [r]) ↔ Nrm rs ∧ r.1 < r.2 ∧ (∀ q ∈ rs, q.2 < r.1) := by
  unfold Nrm
  rw [List.pairwise_append]
  constructor
  · rintro ⟨h1, h2, _, h4⟩
    exact ⟨⟨fun q hq => h1 q (List.mem_append_left _ hq), h2⟩, h1 r (by simp), fun q hq => h4 q hq r (by simp)⟩
  · rintro ⟨⟨h1, h2⟩, h3, h4⟩
    refine ⟨fun q hq => ?_, h2, by simp, fun q hq q' hq' => ?_⟩
    · rcases List.mem_append.mp hq with hq | hq
      · exact h1 q hq
      · rw [List.mem_singleton] at hq; rw [hq]; exact h3
    · rw [List.mem_singleton] at hq'; rw [hq']; exact h4 q hq
/-- two such lists with the same offsets are one -/
theorem Nrm.uniq : ∀ {rs qs : List Run}, Nrm rs → Nrm qs → (∀ o, Mem o rs ↔ Mem o qs) → rs = qs
  | [], [], _, _, _ => rfl
  | [], q :: qs, _, n, h => absurd ((h q.1).mpr ⟨q, List.mem_cons_self, Int.le_refl _, (Nrm.cons.mp n).1⟩) Mem.nil
  | r :: rs, [], n, _, h => absurd ((h r.1).mp ⟨r, List.mem_cons_self, Int.le_refl _, (Nrm.cons.mp n).1⟩) Mem.nil
  | r :: rs, q :: qs, n, m, h => by
    obtain ⟨n1, n2, n3⟩ := Nrm.cons.mp n
    obtain ⟨m1, m2, m3⟩ := Nrm.cons.mp m
    have lo : ∀ {r : Run} {rs : List Run} {o : Int}, r.1 < r.2 → (∀ q ∈ rs, r.2 < q.1) → Mem o (r :: rs) → r.1 ≤ o := fun {r rs o} c d e => by
      rcases Mem.cons.mp e with e | ⟨q, hq, e⟩
      · exact e.1
      · have := d q hq; omega
    have hi : ∀ {r : Run} {rs : List Run}, r.1 < r.2 → (∀ q ∈ rs, r.2 < q.1) → ¬ Mem r.2 (r :: rs) := fun {r rs} c d e => by
      rcases Mem.cons.mp e with e | ⟨q, hq, e⟩
      · omega
      · have := d q hq; omega
    have e1 : r.1 = q.1 := by
      have a := lo m1 m2 ((h r.1).mp (Mem.cons.mpr (.inl ⟨Int.le_refl _, n1⟩)))
      have b := lo n1 n2 ((h q.1).mpr (Mem.cons.mpr (.inl ⟨Int.le_refl _, m1⟩)))
      omega
    have e2 : r.2 = q.2 := by
      have a := hi n1 n2
      have b := hi m1 m2
      rcases Int.lt_trichotomy r.2 q.2 with c | c | c
      · exact absurd ((h r.2).mpr (Mem.cons.mpr (.inl ⟨by omega, c⟩))) a
      · exact c
      · exact absurd ((h q.2).mp (Mem.cons.mpr (.inl ⟨by omega, c⟩))) b
    have e : r = q := Prod.ext e1 e2
    subst e
    have t : ∀ o, Mem o rs ↔ Mem o qs := fun o => by
      constructor
      · intro g
        obtain ⟨x, hx, c⟩ := g
        rcases Mem.cons.mp ((h o).mp (Mem.cons.mpr (.inr ⟨x, hx, c⟩))) with d | d
        · have := n2 x hx; omega
        · exact d
      · intro g
        obtain ⟨x, hx, c⟩ := g
        rcases Mem.cons.mp ((h o).mpr (Mem.cons.mpr (.inr ⟨x, hx, c⟩))) with d | d
        · have := m2 x hx; omega
        · exact d
    rw [Nrm.uniq n3 m3 t]
theorem Nrm.le_last {r : Run} {rs : List Run} (n : Nrm (rs ++ [r])) : ∀ q ∈ rs ++ [r], q.2 ≤ r.2 := fun q hq => by
  obtain ⟨_, n2, n3⟩ := Nrm.snoc.mp n
  rcases List.mem_append.mp hq with hq | hq
  · have := n3 q hq; omega
  · rw [List.mem_singleton] at hq; rw [hq]; exact Int.le_refl _
/-- a list is empty or has a last item -/
theorem snoc_or {α : Type} (l : List α) : l = [] ∨ ∃ a x, l = a ++ [x] := by
  rcases l.eq_nil_or_concat with h | ⟨a, x, h⟩
  · exact .inl h
  · exact .inr ⟨a, x, by rw [h, List.concat_eq_append]⟩
/-! joined -/
/-- what joined has made of the sorted pairs ps -/
structure Jnd (ps runs : List Run) : Prop where
  nrm : Nrm runs
  mem : ∀ o, Mem o runs ↔ Mem o ps
  lo : ∀ r ∈ runs, ∃ p ∈ ps, r.1 = p.1
  hi : ∀ p ∈ ps, runs = [] ∧ p.2 ≤ p.1 ∨ ∃ a r, runs = a ++ [r] ∧ (p.2 ≤ r.2 ∨ p.2 ≤ p.1)
theorem Jnd.nil : Jnd [] [] := ⟨.nil, fun _ => Iff.rfl, fun _ h => (nomatch h), fun _ h => (nomatch h)⟩
theorem Jnd.glue {ps a : List Run} {r p : Run} (J : Jnd ps (a ++ [r])) (hs : ∀ q ∈ ps, q.1 ≤ p.1) (h : p.1 ≤ r.2) : Jnd (ps ++ [p]) (a ++ [(r.1, max r.2 p.2)]) := by
  obtain ⟨n1, n2, n3⟩ := Nrm.snoc.mp J.nrm
  refine ⟨Nrm.snoc.mpr ⟨n1, by show r.1 < max r.2 p.2; omega, n3⟩, fun o => ?_, fun q hq => ?_, fun q hq => .inr ⟨a, _, rfl, ?_⟩⟩
  · have j := J.mem o
    have l : r.1 ≤ p.1 := by
      obtain ⟨q, hq, e⟩ := J.lo r (by simp)
      have := hs q hq; omega
    rw [Mem.app, Mem.one] at j
    rw [Mem.app, Mem.app, Mem.one, Mem.one, ← j]
    show (Mem o a ∨ r.1 ≤ o ∧ o < max r.2 p.2) ↔ ((Mem o a ∨ r.1 ≤ o ∧ o < r.2) ∨ p.1 ≤ o ∧ o < p.2)
    constructor
    · rintro (h | h)
      · exact .inl (.inl h)
      · by_cases c : o < r.2
        · exact .inl (.inr ⟨h.1, c⟩)
        · exact .inr (by omega)
    · rintro ((h | h) | h)
      · exact .inl h
      · exact .inr (by omega)
      · exact .inr (by omega)
  · rcases List.mem_append.mp hq with hq | hq
    · obtain ⟨p', h1, h2⟩ := J.lo q (List.mem_append_left _ hq)
      exact ⟨p', List.mem_append_left _ h1, h2⟩
    · rw [List.mem_singleton] at hq
      obtain ⟨p', h1, h2⟩ := J.lo r (by simp)
      exact ⟨p', List.mem_append_left _ h1, by rw [hq]; exact h2⟩
  · show q.2 ≤ max r.2 p.2 ∨ q.2 ≤ q.1
    rcases List.mem_append.mp hq with hq | hq
    · rcases J.hi q hq with ⟨e, _⟩ | ⟨a', r', e, h⟩
      · exact absurd e (by simp)
      · have e := (List.append_inj' e rfl).2
        cases e
        omega
    · rw [List.mem_singleton] at hq; rw [hq]; omega
theorem Jnd.push {ps runs : List Run} {p : Run} (J : Jnd ps runs) (hs : ∀ q ∈ ps, q.1 ≤ p.1) (h : ∀ r ∈ runs, r.2 < p.1) (c : p.1 < p.2) : Jnd (ps ++ [p]) (runs ++ [p]) := by
  refine ⟨Nrm.snoc.mpr ⟨J.nrm, c, h⟩, fun o => ?_, fun q hq => ?_, fun q hq => .inr ⟨runs, p, rfl, ?_⟩⟩
  · rw [Mem.app, Mem.app, J.mem o]
  · rcases List.mem_append.mp hq with hq | hq
    · obtain ⟨p', h1, h2⟩ := J.lo q hq
      exact ⟨p', List.mem_append_left _ h1, h2⟩
    · rw [List.mem_singleton] at hq
      exact ⟨p, by simp, by rw [hq]⟩
  · rcases List.mem_append.mp hq with hq | hq
    · rcases J.hi q hq with ⟨_, e⟩ | ⟨a', r', e, d⟩
      · exact .inr e
      · have := h r' (by rw [e]; simp)
        omega
    · rw [List.mem_singleton] at hq; rw [hq]; exact .inl (Int.le_refl _)
theorem Jnd.skip {ps runs : List Run} {p : Run} (J : Jnd ps runs) (c : p.2 ≤ p.1) : Jnd (ps ++ [p]) runs := by
  refine ⟨J.nrm, fun o => ?_, fun q hq => ?_, fun q hq => ?_⟩
  · rw [Mem.app, J.mem o, Mem.one]
    exact ⟨.inl, fun h => h.elim id fun h => by omega⟩
  · obtain ⟨p', h1, h2⟩ := J.lo q hq
    exact ⟨p', List.mem_append_left _ h1, h2⟩
  · rcases List.mem_append.mp hq with hq | hq
    · exact J.hi q hq
    · rw [List.mem_singleton] at hq
      rw [hq]
      rcases snoc_or runs with e | ⟨a, r, e⟩
      · exact .inl ⟨e, c⟩
      · exact .inr ⟨a, r, e, .inr c⟩
/-- the last run ends last -/
theorem Nrm.ends {a : List Run} {r : Run} (n : Nrm (a ++ [r])) {o : Int} (h : r.2 < o) : ∀ q ∈ a ++ [r], q.2 < o := fun q hq => by
  have := n.le_last q hq
  omega
/-! missing -/
structure Msg (low high at_ : Int) (pre found : List Run) : Prop where
  nrm : Nrm found
  bef : ∀ q ∈ found, q.2 < at_ ∧ low ≤ q.1 ∧ q.2 ≤ high
  lo : low ≤ at_
  prv : ∀ r ∈ pre, r.2 ≤ at_
  wh : at_ = low ∨ ∃ r ∈ pre, at_ = r.2
  mem : ∀ o, Mem o found ↔ low ≤ o ∧ o < high ∧ o < at_ ∧ ¬ Mem o pre
theorem Msg.start {low high : Int} : Msg low high low [] [] := ⟨.nil, fun _ h => (nomatch h), Int.le_refl _, fun _ h => (nomatch h), .inl rfl, fun o => ⟨fun h => absurd h Mem.nil, fun h => by omega⟩⟩
theorem Msg.step {low high at_ : Int} {pre found : List Run} {r : Run} (M : Msg low high at_ pre found) (hr : r.1 < r.2) (hp : ∀ q ∈ pre, q.2 < r.1) :
    Msg low high (max at_ r.2) (pre ++ [r]) (if at_ < min r.1 high then found ++ [(at_, min r.1 high)] else found) := by
  have lo := M.lo
  have pr : ∀ q ∈ pre ++ [r], q.2 ≤ max at_ r.2 := fun q hq => by
    rcases List.mem_append.mp hq with hq | hq
    · have := M.prv q hq; omega
    · rw [List.mem_singleton] at hq; rw [hq]; omega
  have wh : max at_ r.2 = low ∨ ∃ q ∈ pre ++ [r], max at_ r.2 = q.2 := by
    by_cases c : at_ ≤ r.2
    · exact .inr ⟨r, by simp, by omega⟩
    · rcases M.wh with e | ⟨q, hq, e⟩
      · exact .inl (by omega)
      · exact .inr ⟨q, List.mem_append_left _ hq, by omega⟩
  split
  · rename_i h
    refine ⟨Nrm.snoc.mpr ⟨M.nrm, h, fun q hq => (M.bef q hq).1⟩, fun q hq => ?_, by omega, pr, wh, fun o => ?_⟩
    · rcases List.mem_append.mp hq with hq | hq
      · obtain ⟨b1, b2, b3⟩ := M.bef q hq
        omega
      · rw [List.mem_singleton] at hq; rw [hq]
        show min r.1 high < max at_ r.2 ∧ low ≤ at_ ∧ min r.1 high ≤ high
        omega
    · rw [Mem.app, Mem.app, Mem.one, Mem.one, M.mem o]
      show (_ ∨ at_ ≤ o ∧ o < min r.1 high) ↔ _
      constructor
      · rintro (⟨h1, h2, h3, h4⟩ | ⟨h1, h2⟩)
        · refine ⟨h1, h2, by omega, fun z => z.elim h4 fun z => ?_⟩
          omega
        · refine ⟨by omega, by omega, by omega, fun z => z.elim (fun ⟨q, hq, c⟩ => ?_) fun z => ?_⟩
          · have := M.prv q hq; omega
          · omega
      · rintro ⟨h1, h2, h3, h4⟩
        by_cases c : o < at_
        · exact .inl ⟨h1, h2, c, fun z => h4 (.inl z)⟩
        · refine .inr ⟨by omega, ?_⟩
          by_cases d : o < r.1
          · omega
          · exact absurd (.inr ⟨by omega, by omega⟩) h4
  · rename_i h
    refine ⟨M.nrm, fun q hq => ?_, by omega, pr, wh, fun o => ?_⟩
    · obtain ⟨b1, b2, b3⟩ := M.bef q hq
      omega
    · rw [Mem.app, Mem.one, M.mem o]
      constructor
      · rintro ⟨h1, h2, h3, h4⟩
        refine ⟨h1, h2, by omega, fun z => z.elim h4 fun z => ?_⟩
        rcases M.wh with e | ⟨q, hq, e⟩
        · omega
        · have := hp q hq; omega
      · rintro ⟨h1, h2, h3, h4⟩
        by_cases c : o < at_
        · exact ⟨h1, h2, c, fun z => h4 (.inl z)⟩
        · by_cases d : o < r.1
          · omega
          · exact absurd (.inr ⟨by omega, by omega⟩) h4
theorem Msg.done {low high at_ : Int} {rs found : List Run} (M : Msg low high at_ rs found) : ∃ out, out = (if at_ < high then found ++ [(at_, high)] else found) ∧ Nrm out ∧ (∀ q ∈ out, low ≤ q.1 ∧ q.2 ≤ high) ∧ ∀ o, Mem o out ↔ low ≤ o ∧ o < high ∧ ¬ Mem o rs := by
  have lo := M.lo
  refine ⟨_, rfl, ?_⟩
  split
  · rename_i h
    refine ⟨Nrm.snoc.mpr ⟨M.nrm, h, fun q hq => (M.bef q hq).1⟩, fun q hq => ?_, fun o => ?_⟩
    · rcases List.mem_append.mp hq with hq | hq
      · exact (M.bef q hq).2
      · rw [List.mem_singleton] at hq; rw [hq]
        exact ⟨M.lo, Int.le_refl _⟩
    · rw [Mem.app, Mem.one, M.mem o]
      show (_ ∨ at_ ≤ o ∧ o < high) ↔ _
      constructor
      · rintro (⟨h1, h2, h3, h4⟩ | ⟨h1, h2⟩)
        · exact ⟨h1, h2, h4⟩
        · exact ⟨by omega, h2, fun ⟨q, hq, c⟩ => by have := M.prv q hq; omega⟩
      · rintro ⟨h1, h2, h3⟩
        by_cases c : o < at_
        · exact .inl ⟨h1, h2, c, h3⟩
        · exact .inr ⟨by omega, h2⟩
  · rename_i h
    refine ⟨M.nrm, fun q hq => (M.bef q hq).2, fun o => ?_⟩
    rw [M.mem o]
    exact ⟨fun ⟨h1, h2, _, h4⟩ => ⟨h1, h2, h4⟩, fun ⟨h1, h2, h3⟩ => ⟨h1, h2, by omega, h3⟩⟩
/-! common -/
structure Com (F S A B found : List Run) : Prop where
  nrm : Nrm found
  na : Nrm A
  nb : Nrm B
  bef : ∀ q ∈ found, ∀ a ∈ A, ∀ b ∈ B, q.2 < max a.1 b.1
  lo : ∀ q ∈ found, ∃ a ∈ F, a.1 ≤ q.1
  sub : ∀ a ∈ A, a ∈ F
  mem : ∀ o, (Mem o F ∧ Mem o S) ↔ Mem o found ∨ (Mem o A ∧ Mem o B)
theorem Com.start {F S : List Run} (hF : Nrm F) (hS : Nrm S) : Com F S F S [] := ⟨.nil, hF, hS, fun _ h => (nomatch h), fun _ h => (nomatch h), fun _ h => h, fun o => ⟨.inr, fun h => h.elim (fun z => absurd z Mem.nil) id⟩⟩
def piece (a b : Run) (found : List Run) : List Run := if max a.1 b.1 < min a.2 b.2 then found ++ [(max a.1 b.1, min a.2 b.2)] else found
theorem mem_piece {a b : Run} {found : List Run} {o : Int} : Mem o (piece a b found) ↔ Mem o found ∨ ((a.1 ≤ o ∧ o < a.2) ∧ (b.1 ≤ o ∧ o < b.2)) := by
  unfold piece
  split
  · rw [Mem.app, Mem.one]
    show (_ ∨ max a.1 b.1 ≤ o ∧ o < min a.2 b.2) ↔ _
    constructor
    · rintro (h | h)
      · exact .inl h
      · exact .inr (by omega)
    · rintro (h | h)
      · exact .inl h
      · exact .inr (by omega)
  · constructor
    · exact .inl
    · rintro (h | h)
      · exact h
      · omega
theorem Com.piece {F S A B found : List Run} {a b : Run} (C : Com F S (a :: A) (b :: B) found) : Nrm (piece a b found) ∧ (∀ q ∈ piece a b found, ∃ x ∈ F, x.1 ≤ q.1) ∧ ∀ q ∈ piece a b found, (∀ x ∈ a :: A, ∀ y ∈ b :: B, q.2 < max x.1 y.1) ∨ q.2 = min a.2 b.2 := by
  unfold My.piece
  split
  · rename_i h
    refine ⟨Nrm.snoc.mpr ⟨C.nrm, h, fun q hq => C.bef q hq a List.mem_cons_self b List.mem_cons_self⟩, fun q hq => ?_, fun q hq => ?_⟩
    · rcases List.mem_append.mp hq with hq | hq
      · exact C.lo q hq
      · rw [List.mem_singleton] at hq; rw [hq]
        exact ⟨a, C.sub a List.mem_cons_self, by show a.1 ≤ max a.1 b.1; omega⟩
    · rcases List.mem_append.mp hq with hq | hq
      · exact .inl (C.bef q hq)
      · rw [List.mem_singleton] at hq; rw [hq]; exact .inr rfl
  · exact ⟨C.nrm, C.lo, fun q hq => .inl (C.bef q hq)⟩
theorem Com.left {F S A B found : List Run} {a b : Run} (C : Com F S (a :: A) (b :: B) found) (h : a.2 < b.2) : Com F S A (b :: B) (My.piece a b found) := by
  obtain ⟨p1, p2, p3⟩ := C.piece
  obtain ⟨a1, a2, a3⟩ := Nrm.cons.mp C.na
  obtain ⟨b1, b2, b3⟩ := Nrm.cons.mp C.nb
  refine ⟨p1, a3, C.nb, fun q hq x hx y hy => ?_, p2, fun x hx => C.sub x (List.mem_cons_of_mem _ hx), fun o => ?_⟩
  · rcases p3 q hq with e | e
    · exact e x (List.mem_cons_of_mem _ hx) y hy
    · have := a2 x hx; omega
  · rw [C.mem o, mem_piece, Mem.cons]
    constructor
    · rintro (h1 | ⟨h1 | h1, h2⟩)
      · exact .inl (.inl h1)
      · rcases Mem.cons.mp h2 with h2 | ⟨y, hy, h2⟩
        · exact .inl (.inr ⟨h1, h2⟩)
        · have := b2 y hy; omega
      · exact .inr ⟨h1, h2⟩
    · rintro ((h1 | h1) | h1)
      · exact .inl h1
      · exact .inr ⟨.inl h1.1, Mem.cons.mpr (.inl h1.2)⟩
      · exact .inr ⟨.inr h1.1, h1.2⟩
theorem Com.right {F S A B found : List Run} {a b : Run} (C : Com F S (a :: A) (b :: B) found) (h : ¬ a.2 < b.2) : Com F S (a :: A) B (My.piece a b found) := by
  obtain ⟨p1, p2, p3⟩ := C.piece
  obtain ⟨a1, a2, a3⟩ := Nrm.cons.mp C.na
  obtain ⟨b1, b2, b3⟩ := Nrm.cons.mp C.nb
  refine ⟨p1, C.na, b3, fun q hq x hx y hy => ?_, p2, C.sub, fun o => ?_⟩
  · rcases p3 q hq with e | e
    · exact e x hx y (List.mem_cons_of_mem _ hy)
    · have := b2 y hy; omega
  · rw [C.mem o, mem_piece, Mem.cons (rs := B)]
    constructor
    · rintro (h1 | ⟨h1, h2 | h2⟩)
      · exact .inl (.inl h1)
      · rcases Mem.cons.mp h1 with h1 | ⟨y, hy, h1⟩
        · exact .inl (.inr ⟨h1, h2⟩)
        · have := a2 y hy; omega
      · exact .inr ⟨h1, h2⟩
    · rintro ((h1 | h1) | h1)
      · exact .inl h1
      · exact .inr ⟨Mem.cons.mpr (.inl h1.1), .inl h1.2⟩
      · exact .inr ⟨h1.1, .inr h1.2⟩
theorem Com.done {F S A B found : List Run} (C : Com F S A B found) (h : A = [] ∨ B = []) : Nrm found ∧ (∀ q ∈ found, ∃ a ∈ F, a.1 ≤ q.1) ∧ ∀ o, Mem o found ↔ Mem o F ∧ Mem o S := by
  refine ⟨C.nrm, C.lo, fun o => ?_⟩
  rw [C.mem o]
  constructor
  · exact .inl
  · rintro (e | e)
    · exact e
    · rcases h with rfl | rfl
      · exact absurd e.1 Mem.nil
      · exact absurd e.2 Mem.nil
/-! the law's own way: the ends in order, a truth between them -/
structure Due (f : Int → Bool) (es : List Int) (k : Nat) (due : List Run) : Prop where
  nrm : Nrm due
  bef : ∀ q ∈ due, ∀ e, es[k]? = some e → q.2 ≤ e
  mem : ∀ o, Mem o due ↔ f o = true ∧ ∃ e0 e, es[0]? = some e0 ∧ es[k]? = some e ∧ e0 ≤ o ∧ o < e
def addDue (low high : Int) (due : List Run) : List Run := match due.getLast? with
  | some r => if r.2 = low then due.dropLast ++ [(r.1, high)] else due ++ [(low, high)]
  | none => due ++ [(low, high)]
theorem Due.start {f : Int → Bool} {es : List Int} : Due f es 0 [] := ⟨.nil, fun _ h => (nomatch h), fun o => ⟨fun h => absurd h Mem.nil, fun ⟨_, e0, e, h1, h2, h3, h4⟩ => by
  rw [h1] at h2; cases h2; omega⟩⟩
theorem Due.skip {f : Int → Bool} {es : List Int} {k : Nat} {due : List Run} {low high : Int} (D : Due f es k due) (hl : es[k]? = some low) (hh : es[k + 1]? = some high) (so : low ≤ high) (c : ∀ o, low ≤ o → o < high → f o = f low) (h : ¬ (low < high ∧ f low = true)) : Due f es (k + 1) due := by
  refine ⟨D.nrm, fun q hq e he => ?_, fun o => ?_⟩
  · rw [hh] at he; cases he
    have := D.bef q hq low hl; omega
  · rw [D.mem o]
    constructor
    · rintro ⟨h1, e0, e, h2, h3, h4, h5⟩
      rw [hl] at h3; cases h3
      exact ⟨h1, e0, high, h2, hh, h4, by omega⟩
    · rintro ⟨h1, e0, e, h2, h3, h4, h5⟩
      rw [hh] at h3; cases h3
      refine ⟨h1, e0, low, h2, hl, h4, ?_⟩
      by_cases d : o < low
      · exact d
      · exact absurd ⟨by omega, by rw [← c o (by omega) h5]; exact h1⟩ h
theorem Due.add {f : Int → Bool} {es : List Int} {k : Nat} {due : List Run} {low high e0 : Int} (D : Due f es k due) (hl : es[k]? = some low) (hh : es[k + 1]? = some high) (h0 : es[0]? = some e0) (l0 : e0 ≤ low) (so : low < high) (c : ∀ o, low ≤ o → o < high → f o = f low) (h : f low = true) : Due f es (k + 1) (addDue low high due) := by
  have mm : ∀ o, (Mem o due ∨ low ≤ o ∧ o < high) ↔ f o = true ∧ ∃ e0 e, es[0]? = some e0 ∧ es[k + 1]? = some e ∧ e0 ≤ o ∧ o < e := fun o => by
    rw [D.mem o]
    constructor
    · rintro (⟨h1, e0, e, h2, h3, h4, h5⟩ | h5)
      · rw [hl] at h3; cases h3
        exact ⟨h1, e0, high, h2, hh, h4, by omega⟩
      · exact ⟨by rw [c o h5.1 h5.2]; exact h, e0, high, h0, hh, by omega, h5.2⟩
    · rintro ⟨h1, e1, e, h2, h3, h4, h5⟩
      rw [hh] at h3; cases h3
      by_cases d : o < low
      · exact .inl ⟨h1, e1, low, h2, hl, h4, d⟩
      · exact .inr ⟨by omega, h5⟩
  have bf : ∀ q ∈ due, q.2 ≤ low := fun q hq => D.bef q hq low hl
  unfold addDue
  rcases snoc_or due with rfl | ⟨a, r, rfl⟩
  · refine ⟨Nrm.snoc.mpr ⟨.nil, so, fun _ h => (nomatch h)⟩, fun q hq e he => ?_, fun o => ?_⟩
    · rw [hh] at he; cases he
      have hq : q ∈ [(low, high)] := hq
      rw [List.mem_singleton] at hq; rw [hq]; exact Int.le_refl _
    · show Mem o ([] ++ [(low, high)]) ↔ _
      rw [Mem.app, Mem.one]; exact mm o
  · rw [List.getLast?_concat]
    show Due f es (k + 1) (if r.2 = low then (a ++ [r]).dropLast ++ [(r.1, high)] else (a ++ [r]) ++ [(low, high)])
    obtain ⟨n1, n2, n3⟩ := Nrm.snoc.mp D.nrm
    split
    · rename_i e
      rw [List.dropLast_concat]
      refine ⟨Nrm.snoc.mpr ⟨n1, by show r.1 < high; omega, n3⟩, fun q hq e' he => ?_, fun o => ?_⟩
      · rw [hh] at he; cases he
        rcases List.mem_append.mp hq with hq | hq
        · have := bf q (List.mem_append_left _ hq); omega
        · rw [List.mem_singleton] at hq; rw [hq]; exact Int.le_refl _
      · rw [← mm o, Mem.app, Mem.app, Mem.one, Mem.one]
        show (Mem o a ∨ r.1 ≤ o ∧ o < high) ↔ _
        constructor
        · rintro (h | h)
          · exact .inl (.inl h)
          · by_cases d : o < low
            · exact .inl (.inr (by omega))
            · exact .inr (by omega)
        · rintro ((h | h) | h)
          · exact .inl h
          · exact .inr (by omega)
          · exact .inr (by omega)
    · rename_i e
      refine ⟨Nrm.snoc.mpr ⟨D.nrm, so, fun q hq => ?_⟩, fun q hq e' he => ?_, fun o => ?_⟩
      · have hr := bf r (by simp)
        have := D.nrm.le_last q hq
        show q.2 < low
        omega
      · rw [hh] at he; cases he
        rcases List.mem_append.mp hq with hq | hq
        · have := bf q hq; omega
        · rw [List.mem_singleton] at hq; rw [hq]; exact Int.le_refl _
      · rw [Mem.app, Mem.one]; exact mm o
/-- an offset lies in one run alone -/
theorem pair_uniq {rs : List Run} {r q : Run} {o : Int} (n : Nrm rs) (hr : r ∈ rs) (hq : q ∈ rs) (c1 : r.1 ≤ o) (c2 : o < r.2) (d1 : q.1 ≤ o) (d2 : o < q.2) : r = q := by
  induction rs with
  | nil => exact nomatch hr
  | cons a rs ih =>
    obtain ⟨_, n2, n3⟩ := Nrm.cons.mp n
    rcases List.mem_cons.mp hr with e1 | h1 <;> rcases List.mem_cons.mp hq with e2 | h2
    · exact e1.trans e2.symm
    · have := n2 q h2; subst e1; omega
    · have := n2 r h1; subst e2; omega
    · exact ih n3 h1 h2
/-! ### pairs, tuples of runs -/
def PairAt (H : Hp) (v : V) (p : Run) : Prop := ∃ t, v = .ref t ∧ (H t = some (.tup [.int p.1, .int p.2]) ∨ H t = some (.lst [.int p.1, .int p.2]))
def Tups (H : Hp) (ts : List Addr) (rs : List Run) : Prop := ts.length = rs.length ∧ ∀ (i : Nat) t r, ts[i]? = some t → rs[i]? = some r → H t = some (.tup [.int r.1, .int r.2])
def RunsL (l : Addr) (ts : List Addr) (rs : List Run) (H : Hp) : Prop := H l = some (.lst (ts.map V.ref)) ∧ Tups H ts rs
section
variable {H H' : Hp} {ts G : List Addr} {rs : List Run} {t l : Addr} {r : Run} {v : V} {p : Run}
theorem PairAt.same (h : PairAt H v p) (s : Same H H') : PairAt H' v p := by
  obtain ⟨t, e, h | h⟩ := h
  · exact ⟨t, e, .inl (s _ _ h)⟩
  · exact ⟨t, e, .inr (s _ _ h)⟩
theorem Tups.ch (h : Tups H ts rs) (x : Ch G H H') (n : ∀ t ∈ ts, t ∉ G) : Tups H' ts rs := ⟨h.1, fun i t r h1 h2 => x.at (n t (List.mem_of_getElem? h1)) (h.2 i t r h1 h2)⟩
theorem Tups.same (h : Tups H ts rs) (s : Same H H') : Tups H' ts rs := ⟨h.1, fun i t r h1 h2 => s _ _ (h.2 i t r h1 h2)⟩
theorem Tups.nil : Tups H [] [] := ⟨rfl, fun _ _ _ h => nomatch h⟩
theorem Tups.snoc (h : Tups H ts rs) (e : H t = some (.tup [.int r.1, .int r.2])) : Tups H (ts ++ [t]) (rs ++ [r]) := ⟨by rw [List.length_append, List.length_append, h.1]; rfl, fun i a b h1 h2 => by
  rcases getq_app h1 with ⟨c, h1⟩ | ⟨c, d⟩
  · rw [List.getElem?_append_left (by have := h.1; omega)] at h2
    exact h.2 i a b h1 h2
  · subst d
    rw [c, h.1, List.getElem?_append_right (Nat.le_refl _), Nat.sub_self] at h2
    cases h2
    exact e⟩
theorem Tups.init {t : Addr} {r : Run} (h : Tups H (ts ++ [t]) (rs ++ [r])) : Tups H ts rs ∧ H t = some (.tup [.int r.1, .int r.2]) := by
  have e : ts.length = rs.length := by
    have := h.1
    rw [List.length_append, List.length_append] at this
    exact Nat.add_right_cancel this
  refine ⟨⟨e, fun i a b h1 h2 => ?_⟩, ?_⟩
  · have l1 := getq_lt h1
    exact h.2 i a b (by rw [List.getElem?_append_left l1]; exact h1) (by rw [List.getElem?_append_left (by omega)]; exact h2)
  · exact h.2 ts.length t r (by simp) (by rw [e]; simp)
theorem RunsL.ch (h : RunsL l ts rs H) (x : Ch G H H') (n : l ∉ G) (m : ∀ t ∈ ts, t ∉ G) : RunsL l ts rs H' := ⟨x.at n h.1, h.2.ch x m⟩
theorem RunsL.same (h : RunsL l ts rs H) (s : Same H H') : RunsL l ts rs H' := ⟨s _ _ h.1, h.2.same s⟩
theorem RunsL.len (h : RunsL l ts rs H) : ts.length = rs.length := h.2.1
theorem RunsL.at (h : RunsL l ts rs H) {i : Nat} {r : Run} (e : rs[i]? = some r) : ∃ t, ts[i]? = some t ∧ (ts.map V.ref)[i]? = some (.ref t) ∧ H t = some (.tup [.int r.1, .int r.2]) := by
  have l1 := getq_lt e
  have l2 : i < ts.length := by have := h.2.1; omega
  exact ⟨ts[i], List.getElem?_eq_getElem l2, by rw [List.getElem?_map, List.getElem?_eq_getElem l2]; rfl, h.2.2 i _ r (List.getElem?_eq_getElem l2) e⟩
theorem Tups.lst_ne {xs : List V} (h : Tups H ts rs) (e : H l = some (.lst xs)) : ∀ t ∈ ts, t ≠ l := fun t ht z => by
  obtain ⟨i, hi⟩ := List.mem_iff_getElem?.mp ht
  have l1 := getq_lt hi
  have l2 : i < rs.length := by have := h.1; omega
  have := h.2 i t rs[i] hi (List.getElem?_eq_getElem l2)
  rw [z, e] at this
  cases this
end
/-- a pair's two places -/
theorem two_to {K : PySem.W.Frag} {t : Addr} {x y : V} {i j : Nat} {σ : L2.St} {H : Hp} {QS : L2.St → Hp → Prop} (h : H t = some (.tup [x, y])) (q : QS ((σ.set i (some x)).set j (some y)) H) : gTup K 2 (gCons (gName i) (gCons (gName j) gNil)) (.ref t) σ H QS :=
  ⟨t, _, rfl, SqT.of h, rfl, x, [y], rfl, y, [], rfl, rfl, q⟩
/-- the last item of a list -/
theorem ixLast {K : PySem.W.Frag} {H : Hp} {Q : VK} {a : Addr} {xs : List V} {v : V} (h : H a = some (.lst (xs ++ [v]))) (q : Q v H) : rIxL K (.ref a) (.int (-1)) H Q := ⟨a, _, -1, v, rfl, rfl, SqL.of h, atI_last xs v, q⟩
theorem ixN_last {α : Type} (xs : List α) (v : α) : ixN (xs ++ [v]).length (-1) = some xs.length := by
  have hl : (xs ++ [v]).length = xs.length + 1 := by simp
  unfold ixN
  rw [if_neg (by decide), if_pos (by omega), hl]
  congr 1
  omega
theorem setLast {H : Hp} {a : Addr} {xs : List V} {v w : V} {P : Hp → Prop} (h : H a = some (.lst (xs ++ [v]))) (q : ∀ H', SameX a H H' → H' a = some (.lst (xs ++ [w])) → P H') : rSetL (.ref a) (.int (-1)) w H P :=
  ⟨a, _, -1, _, rfl, rfl, h, ixN_last xs v, q _ SameX.upd (by rw [upd_same]; simp)⟩
/-- tuple(v), v a pair -/
theorem tupPair {K : PySem.W.Frag} {H : Hp} {Q : VK} {v : V} {p : Run} (h : PairAt H v p) (q : ∀ t H', Same H H' → H' t = some (.tup [.int p.1, .int p.2]) → Q (.ref t) H') : rTupOf K [v] H Q := by
  obtain ⟨t, rfl, h | h⟩ := h
  · exact ⟨t, _, rfl, .inr ⟨SqT.of h, q t H (Same.refl _) h⟩⟩
  · exact ⟨t, _, rfl, .inl ⟨SqL.of h, fun l hl => q l _ (Same.new hl) upd_same⟩⟩
/-- what the heap says of a pair -/
def kOf (H : Hp) (v : V) : Int × Int := match v with
  | .ref t => match H t with
    | some (.tup [.int a, .int b]) => (a, b)
    | _ => (0, 0)
  | _ => (0, 0)
theorem kOf_at {H : Hp} {t : Addr} {p : Run} (h : H t = some (.tup [.int p.1, .int p.2])) : kOf H (.ref t) = p := by
  unfold kOf
  simp only [h]
theorem x_asg2 {te : TE} {g1 g2 : TG} {D : Ends} {σ : L2.St} {H : Hp} (q : te σ H fun x H1 => g1 x σ H1 fun σ1 H2 => g2 x σ1 H2 D.nx) : tAsg2 te g1 g2 D σ H := q
theorem truL {K : PySem.W.Frag} {H : Hp} {l : Addr} {xs : List V} (h : H l = some (.lst xs)) : TruV K (.ref l) H (!xs.isEmpty) := .inl ⟨xs, SqL.of h, rfl⟩
theorem x_for2 {ta : TA} {g : TG} {ts : TS} {D : Ends} {σ : L2.St} {H : Hp} (q : ta σ H fun vs H1 => ∃ i j : Int, vs = [.int i, .int j] ∧ (-(2 ^ 62) ≤ i ∧ i < 2 ^ 62 ∧ -(2 ^ 62) ≤ j ∧ j < 2 ^ 62) ∧ forK (Itr i (j - i).toNat) g ts D σ H1) : tFor (iRng2 ta) g ts D σ H := q
local macro_rules
  | `(tactic| w_up) => `(tactic| first | with_reducible refine x_asg2 ?_ | with_reducible refine x_makeR ?_ | with_reducible refine x_star ?_ | with_reducible refine x_for2 ?_)
/-! ### a comprehension over a list of pairs -/
theorem lcG2 {K : PySem.W.Frag} {a : Addr} {xs : List V} {te tel : TE} {tt : TT} {σ : L2.St} {H : Hp} {Q : VK} {i j : Nat} (P : Addr → Nat → List V → Hp → Prop) (hw : ∀ x y, wipe (((wipe σ [i, j]).set i (some x)).set j (some y)) [i, j] = wipe σ [i, j]) (hte : ∀ R' : VK, R' (.ref a) H → te σ H R') (hS : SqL K H a xs) (hz : xs.length < 100000)
    (h0 : ∀ D, H D = none → P D 0 [] (upd H D (.lst []))) (hsq : ∀ D k vs H', H D = none → P D k vs H' → SqL K H' a xs)
    (hs : ∀ D k v vs H', H D = none → xs[k]? = some v → vs.length ≤ k → H' D = some (.lst vs) → P D k vs H' → ∃ t x y, v = .ref t ∧ H' t = some (.tup [x, y]) ∧ ∀ (Y : VK) (N : Hp → Prop), (∀ w H3, H3 D = some (.lst vs) → P D (k + 1) (vs ++ [w]) (upd H3 D (.lst (vs ++ [w]))) → Y w H3) → (∀ H3, H3 D = some (.lst vs) → P D (k + 1) vs H3 → N H3) →
      tt ((((σ.set j none).set i none).set i (some x)).set j (some y)) H' fun b H2 => if b = true then tel ((((σ.set j none).set i none).set i (some x)).set j (some y)) H2 Y else N H2)
    (hd : ∀ D vs H', H D = none → H' D = some (.lst vs) → vs.length ≤ xs.length → P D xs.length vs H' → Q (.ref D) H') : tLc (iList K te) (gTup K 2 (gCons (gName i) (gCons (gName j) gNil))) tt tel [i, j] σ H Q := by
  refine hte _ ⟨a, rfl, ⟨_, hS⟩, fun D hD => lc_list (K := K) (a := a) (xs := xs) (fun i H' => ∃ vs : List V, vs.length ≤ i ∧ P D i vs H' ∧ H' D = some (.lst vs)) ⟨[], Nat.le_refl _, h0 D hD, upd_same⟩ (fun i H' _ ⟨vs, _, h, _⟩ => hsq D i vs H' hD h) ?_ ?_⟩
  · rintro k v H' hi ⟨vs, hl, hp, h1⟩
    have il := (List.getElem?_eq_some_iff.mp hi).1
    obtain ⟨t, x, y, rfl, ht, go⟩ := hs D k v vs H' hD hi hl h1 hp
    refine two_to ht ⟨hw x y, ?_⟩
    refine go _ _ (fun v H3 e p => ⟨vs, e, Nat.lt_of_lt_of_le (show vs.length < 100000 by omega) (by decide), vs ++ [v], ?_, p, upd_same⟩) (fun H3 e p => ⟨vs, by omega, p, e⟩)
    rw [List.length_append]
    exact Nat.succ_le_succ hl
  · rintro H' ⟨vs, hl, hp, h1⟩
    exact hd D vs H' hD h1 hl hp
/-! ### the functions of runs -/
/-- no pair of offsets -/
def BadPair (K : PySem.W.Frag) (H : Hp) (x : V) : Prop := SeqK K H x false ∨ ∃ t xs, x = .ref t ∧ SeqA K H t xs ∧ (xs.length ≠ 2 ∨ ∃ a b, xs = [a, b] ∧ (Less K H a 0 ∨ ∃ n, a = .int n ∧ 0 ≤ n ∧ Less K H b n))
theorem PairAt.seq {K : PySem.W.Frag} {H : Hp} {t : Addr} {p : Run} (h : H t = some (.tup [.int p.1, .int p.2]) ∨ H t = some (.lst [.int p.1, .int p.2])) : SeqA K H t [.int p.1, .int p.2] := h.elim .tup .lst
def sp_is_run (K : PySem.W.Frag) : Sp := fun vs H Q _ => ∃ (x : V), vs = [x] ∧ ((∃ p, PairAt H x p ∧ 0 ≤ p.1 ∧ p.1 ≤ p.2 ∧ ∀ H', Same H H' → Q (.bl true) H') ∨ (BadPair K H x ∧ ∀ H', Same H H' → Q (.bl false) H'))
theorem ok_is_run (T : Txt K mg) : FnOk P w K mg base CX0 3 T.a_is_run T.fd_is_run ["pair"] (sp_is_run K) := by
  have S := sc_is_run
  refine T.F_is_run.ok S (fun vs H Q E h => ?_) (fun cdv A outer s H vs Q E hr h => ?_)
  · obtain ⟨x, rfl, _⟩ := h
    rfl
  · obtain ⟨x, rfl, h⟩ := h
    refine ⟨_, (pss_one (ps_ret (pe_and (pe_call (ok_is_sequence T) (hr.mono (by decide)) rfl T.g_is_sequence T.F_is_sequence.kp T.B_is_sequence .nil pass0 (pa_cons (pv 0) pa_nil)) (pe_and (pe_cmpR op_eq (pe_callB (id := "len") (call_lenK (K := K) rfl) (by rfl) T.b_len (by decide +kernel) (pa_cons (pv 0) pa_nil)) pe_int (nomark _)) (pe_and (pe_call (ok_is_at_least T) (hr.mono (by decide)) rfl T.g_is_at_least T.F_is_at_least.kp T.B_is_at_least .nil pass0 (pa_cons (pe_ix ix_seq (pv 0) pe_int (fun _ _ => rfl)) (pa_cons pe_int pa_nil))) (pe_one (pe_call (ok_is_at_least T) (hr.mono (by decide)) rfl T.g_is_at_least T.F_is_at_least.kp T.B_is_at_least .nil pass0 (pa_cons (pe_ix ix_seq (pv 0) pe_int (fun _ _ => rfl)) (pa_cons (pe_ix ix_seq (pv 0) pe_int (fun _ _ => rfl)) pa_nil))))))))), ?_⟩
    refine st_is_run ?_
    o_args
    rcases h with ⟨p, ⟨t, rfl, hp⟩, p0, p1, k⟩ | ⟨hb | ⟨t, xs, rfl, hS, hb⟩, k⟩
    · have hS := PairAt.seq (K := K) hp
      refine ⟨_, true, rfl, seqK_of hS, fun H1 s1 => ?_⟩
      have hS := hS.sm s1
      o_args
      refine lenA hS ?_
      o_args
      refine brDT rfl ?_
      o_args
      refine ix_seqA (i := 0) (v := .int p.1) hS rfl ?_
      o_args
      refine ⟨_, 0, rfl, .inl ⟨p.1, rfl, p0, ?_⟩⟩
      o_args
      refine ix_seqA (i := 1) (v := .int p.2) hS rfl ?_
      o_args
      refine ix_seqA (i := 0) (v := .int p.1) hS rfl ?_
      o_args
      exact ⟨_, p.1, rfl, .inl ⟨p.2, rfl, p1, k H1 s1⟩⟩
    · refine ⟨_, false, rfl, hb, fun H1 s1 => ?_⟩
      o_args
      exact k H1 s1
    · refine ⟨_, true, rfl, seqK_of hS, fun H1 s1 => ?_⟩
      have hS := hS.sm s1
      o_args
      refine lenA hS ?_
      o_args
      rcases hb with hn | ⟨a, b, rfl, hb⟩
      · refine brDF (by omega) ?_
        exact k H1 s1
      · refine brDT rfl ?_
        o_args
        refine ix_seqA (i := 0) (v := a) hS rfl ?_
        o_args
        rcases hb with hb | ⟨n, rfl, n0, hb⟩
        · refine ⟨_, 0, rfl, .inr ⟨hb.same s1, ?_⟩⟩
          o_args
          exact k H1 s1
        · refine ⟨_, 0, rfl, .inl ⟨n, rfl, n0, ?_⟩⟩
          o_args
          refine ix_seqA (i := 1) (v := b) hS rfl ?_
          o_args
          refine ix_seqA (i := 0) (v := .int n) hS rfl ?_
          o_args
          exact ⟨_, n, rfl, .inr ⟨hb.same s1, k H1 s1⟩⟩
def sp_joined (K : PySem.W.Frag) : Sp := fun vs H Q _ => ∃ (q : Addr) (xs : List V) (ps : List Run), vs = [.ref q] ∧ SeqA K H q xs ∧ xs.length < 100000 ∧ xs.length = ps.length ∧ (∀ (i : Nat) x p, xs[i]? = some x → ps[i]? = some p → PairAt H x p) ∧
  ∀ l ts rs H', H l = none → (∀ t ∈ ts, H t = none) → Same H H' → RunsL l ts rs H' → rs.length ≤ ps.length → Nrm rs → (∀ o, Mem o rs ↔ Mem o ps) → (∀ r ∈ rs, ∃ p ∈ ps, r.1 = p.1) → Q (.ref l) H'
theorem ok_joined (T : Txt K mg) : FnOk P w K mg base CX0 1 T.a_joined T.fd_joined ["pairs"] (sp_joined K) := by
  have S := sc_joined
  refine T.F_joined.ok S (fun vs H Q E h => ?_) (fun cdv A outer s H vs Q E hr h => ?_)
  · obtain ⟨q, xs, ps, rfl, _⟩ := h
    rfl
  · obtain ⟨q, xs, ps, rfl, hS, hz, hl, hp, k⟩ := h
    refine ⟨_, (pss_cons (ps_set (i := 1) S.nd rfl (Or.inl rfl) (pe_lst pa_nil))
      (pss_cons (ps_for PassesOwn.never rfl (pi_list (pe_callB (id := "sorted") cr_sortedPO (by rfl) T.b_sorted (by decide +kernel) (pa_cons (pe_lc (own := [("pair", 4)]) (g := gName 4) (tt := tYes) rfl S.nd (pi_seqA (pv 0)) (blkOk_by (N := ["pairs", "runs", "low", "high", "pair"]) (sc := defScope s_joined) (by decide +kernel)) (fun _ _ _ _ _ => pg_name (i := 4) S.nd rfl (Or.inl rfl)) (fun _ _ _ _ _ => pts_nil) (fun _ _ _ _ _ => (pe_callTy (T := "tuple") (call_tupK (K := K) rfl) (by rfl) T.b_tuple (by decide +kernel) (pa_cons (pv 4) pa_nil)))) pa_nil))) (pg_tup rfl (pgs_cons (pg_name (i := 2) S.nd rfl (Or.inl rfl)) (pgs_cons (pg_name (i := 3) S.nd rfl (Or.inl rfl)) pgs_nil))) (pss_one (ps_if (PW.pt (pw_and (pt_truth (pv 1) (fun _ => rfl)) (pw_and1 (pt_cmpR op_le (pv 2) (pe_ix ix_tup (pe_ix ix_list (pv 1) (pe_un un_neg pe_int) (fun _ _ => rfl)) pe_int (fun _ _ => rfl)) (nomark _))))) (pss_one (ps_asg (pe_tup (pa_cons (pe_ix ix_tup (pe_ix ix_list (pv 1) (pe_un un_neg pe_int) (fun _ _ => rfl)) pe_int (fun _ _ => rfl)) (pa_cons (pe_callB (id := "max") (call_max2K rfl) (by rfl) T.b_max (by decide +kernel) (pa_cons (pe_ix ix_tup (pe_ix ix_list (pv 1) (pe_un un_neg pe_int) (fun _ _ => rfl)) pe_int (fun _ _ => rfl)) (pa_cons (pv 3) pa_nil))) pa_nil))) (pg_sub (pv 1) (pe_un un_neg pe_int) set_list))) (pss_one (ps_if (pt_cmpR op_lt (pv 2) (pv 3) (nomark _)) (pss_one (ps_expr (pe_bm PySem.F.plainAttrs_list PySem.F.slot_list_append PySem.F.type_list_append mt_append (pv 1) (pa_cons (pe_tup (pa_cons (pv 2) (pa_cons (pv 3) pa_nil))) pa_nil)))) pss_nil)))))
      (pss_one (ps_ret (pv 1))))), ?_⟩
    refine st_joined ?_
    o_args
    refine newList (by simp) fun l H1 nl s1 h1 => ?_
    o_args
    refine lcGA (xs := xs) (fun D i vs H' => SameX D H1 H' ∧ vs.length = i ∧ ∀ (k : Nat) v, vs[k]? = some v → ∃ p t, ps[k]? = some p ∧ v = .ref t ∧ H' t = some (.tup [.int p.1, .int p.2])) (fun R h => ⟨_, rfl, h⟩) (hS.sm s1) hz (fun D _ => ⟨SameX.upd, rfl, fun k v h => by cases h⟩) (fun D i vs H' hD hP o ho => hP.1 _ _ (ne_of_none ho hD) ho) (fun D i x vs H' hD hx hle h2 hP Y N hY hN => ?_) (fun D vs H' hD h2 hle hP => ?_)
    · obtain ⟨s2, e, hP⟩ := hP
      have il : i < ps.length := by have := getq_lt hx; omega
      have pa := ((hp i x _ hx (List.getElem?_eq_getElem il)).same s1).same (Same.ofX hD s2)
      dsimp only [tYes]
      rw [if_pos rfl]
      o_args
      refine tupPair pa fun t H3 s3 h3 => hY _ H3 (s3 _ _ h2) ⟨(s2.trans (SameX.of s3)).upd', by rw [List.length_append, e]; rfl, fun k v hk => ?_⟩
      have tD : t ≠ D := fun z => by
        have := s3 _ _ h2
        rw [← z, h3] at this
        cases this
      rcases getq_app hk with ⟨_, hk⟩ | ⟨rfl, rfl⟩
      · obtain ⟨p, t', e1, e2, e3⟩ := hP k v hk
        have t'D : t' ≠ D := fun z => by rw [z, h2] at e3; cases e3
        exact ⟨p, t', e1, e2, by rw [upd_ne t'D]; exact s3 _ _ e3⟩
      · exact ⟨_, t, by rw [e]; exact List.getElem?_eq_getElem il, rfl, by rw [upd_ne tD]; exact h3⟩
    · obtain ⟨s2, e, hP⟩ := hP
      have hl2 := s2 _ _ (ne_of_none h1 hD) h1
      have hv : vs.map (kOf H') = ps := by
        refine List.ext_getElem? fun k => ?_
        rw [List.getElem?_map]
        cases c : vs[k]? with
        | none =>
          have := List.getElem?_eq_none_iff.mp c
          exact (List.getElem?_eq_none_iff.mpr (by omega)).symm
        | some v =>
          obtain ⟨p, t, e1, e2, e3⟩ := hP k v c
          rw [e1, e2]
          exact congrArg some (kOf_at e3)
      have hk : ∀ v ∈ vs, ∃ t, v = .ref t ∧ H' t = some (.tup [.int (kOf H' v).1, .int (kOf H' v).2]) := fun v hv => by
        obtain ⟨k, hk⟩ := List.mem_iff_getElem?.mp hv
        obtain ⟨p, t, e1, e2, e3⟩ := hP k v hk
        exact ⟨t, e2, by rw [e2, kOf_at e3]; exact e3⟩
      refine ⟨D, vs, kOf H', rfl, SqL.of h2, hk, fun ys S hsr hst nS => ?_⟩
      have hy : ∀ v ∈ ys, ∃ t, v = .ref t ∧ H' t = some (.tup [.int (kOf H' v).1, .int (kOf H' v).2]) := fun v hv => hk v (hst.perm.mem_iff.mp hv)
      have hq : (ys.map (kOf H')).Perm ps := by rw [← hv]; exact hst.perm.map _
      have so : (ys.map (kOf H')).Pairwise fun a b => a.1 ≤ b.1 := List.pairwise_map.mpr (List.Pairwise.imp (fun h => by
        have := SrtO.lexB_no.mp h
        omega) hsr)
      have lq : ys.length = ps.length := by have := hq.length_eq; rw [List.length_map] at this; exact this
      have s3 : Same H' (upd H' S (.lst ys)) := Same.new nS
      have h3 : upd H' S (.lst ys) S = some (.lst ys) := upd_same
      generalize upd H' S (.lst ys) = H3 at s3 h3
      have hl3 := s3 _ _ hl2
      have S3 : Same H H3 := (s1.trans (Same.ofX hD s2)).trans s3
      have lS : S ∉ [l] := fun z => ne_of_none hl2 nS (List.mem_singleton.mp z).symm
      refine ⟨S, rfl, ⟨ys, SqL.of h3⟩, for_list (K := K) (a := S) (xs := ys) (fun i σ H'' => ∃ a b ts rs, σ = [some (.ref q), some (.ref l), a, b, none] ∧ Ch [l] H3 H'' ∧ RunsL l ts rs H'' ∧ (∀ t ∈ ts, H t = none) ∧ rs.length ≤ i ∧ Jnd ((ys.map (kOf H')).take i) rs) ⟨none, none, [], [], rfl, Ch.refl, ⟨hl3, Tups.nil⟩, (fun _ h => nomatch h), Nat.le_refl _, Jnd.nil⟩ (fun i σ H'' _ ⟨_, _, _, _, _, c, _⟩ => SqL.of (c.at lS h3)) ?_ ?_⟩
      · rintro i x σ H4 hx ⟨a, b, ts, rs, rfl, c4, ⟨hl4, T4⟩, n4, z4, J⟩
        obtain ⟨t, rfl, ht⟩ := hy x (List.mem_of_getElem? hx)
        have e5 : (ys.map (kOf H'))[i]? = some (kOf H' (.ref t)) := by rw [List.getElem?_map, hx]; rfl
        have tk : (ys.map (kOf H')).take (i + 1) = (ys.map (kOf H')).take i ++ [kOf H' (.ref t)] := by rw [List.take_succ, e5]; rfl
        have hs5 : ∀ p ∈ (ys.map (kOf H')).take i, p.1 ≤ (kOf H' (.ref t)).1 := fun p hp => by
          have il := getq_lt e5
          have sp := so
          rw [← List.take_append_drop i (ys.map (kOf H'))] at sp
          have dr : (ys.map (kOf H')).drop i = kOf H' (.ref t) :: (ys.map (kOf H')).drop (i + 1) := by
            rw [List.drop_eq_getElem_cons il]
            congr 1
            rw [List.getElem?_eq_getElem il] at e5
            exact Option.some.inj e5
          exact (List.pairwise_append.mp sp).2.2 p hp _ (by rw [dr]; exact List.mem_cons_self)
        have tl : t ∉ [l] := fun z => by
          rw [List.mem_singleton.mp z] at ht
          have := s3 _ _ ht
          rw [hl3] at this
          cases this
        have ht4 := c4.at tl (s3 _ _ ht)
        generalize kOf H' (.ref t) = p at e5 tk hs5 ht4
        refine two_to ht4 ?_
        o_args
        refine ⟨_, truL hl4, ?_⟩
        have zl := T4.1
        have i6 : i < 100000 := by have := getq_lt hx; omega
        have fin : ∀ H5 ts' rs', Ch [l] H4 H5 → RunsL l ts' rs' H5 → (∀ t ∈ ts', H t = none) → rs'.length ≤ i + 1 → Jnd ((ys.map (kOf H')).take i ++ [p]) rs' → ∃ a b ts rs, [some (V.ref q), some (V.ref l), some (.int p.1), some (.int p.2), none] = [some (.ref q), some (.ref l), a, b, none] ∧ Ch [l] H3 H5 ∧ RunsL l ts rs H5 ∧ (∀ t ∈ ts, H t = none) ∧ rs.length ≤ i + 1 ∧ Jnd ((ys.map (kOf H')).take (i + 1)) rs := fun H5 ts' rs' c5 r5 n5 z5 J5 =>
          ⟨_, _, ts', rs', rfl, c4.trans c5, r5, n5, z5, by rw [tk]; exact J5⟩
        have new : ∀ {u}, H4 u = none → H u = none := fun nu => ((Ch.of S3).trans c4).none nu
        rcases snoc_or rs with rfl | ⟨ra, r, rfl⟩
        · have e0 : ts = [] := List.eq_nil_of_length_eq_zero zl
          subst e0
          o_args
          refine brT rfl ?_
          o_args
          refine brD (fun c => ?_) (fun c => ?_)
          · o_args
            refine ⟨isList hl4, ?_⟩
            o_args
            refine newTup (by simp) fun u H5 nu s5 h5 => ?_
            o_args
            refine appList (s5 _ _ hl4) (by simp) fun H6 s6 h6 => ?_
            o_args
            have ul : u ≠ l := (ne_of_none hl4 nu).symm
            exact fin H6 [u] [p] ((Ch.of s5).trans (Ch.ofX (by simp) s6 h6)) ⟨h6, Tups.snoc (ts := []) (rs := []) .nil (s6 _ _ ul h5)⟩ (fun t ht => by rw [List.mem_singleton.mp ht]; exact new nu) (by simp) (J.push (runs := []) hs5 (fun _ h => nomatch h) c)
          · o_args
            exact fin H4 [] [] Ch.refl ⟨hl4, T4⟩ n4 (by simp) (J.skip (by omega))
        · obtain ⟨ta, tr, rfl⟩ : ∃ a x, ts = a ++ [x] := (snoc_or ts).resolve_left fun z => by rw [z] at zl; simp at zl
          have hl5 : H4 l = some (.lst (ta.map V.ref ++ [V.ref tr])) := by rw [hl4, List.map_append]; rfl
          obtain ⟨Ti, Tr⟩ := T4.init
          o_args
          refine brF (by simp) ?_
          o_args
          refine ixLast hl5 ?_
          o_args
          refine brD (fun c => ?_) (fun c => ?_)
          · o_args
            refine ixLast hl5 ?_
            o_args
            refine ixLast hl5 ?_
            o_args
            refine newTup (by simp) fun u H5 nu s5 h5 => ?_
            o_args
            refine setLast (s5 _ _ hl5) fun H6 s6 h6 => ?_
            have ul : u ≠ l := (ne_of_none hl4 nu).symm
            have Ti6 : Tups H6 ta ra := (Ti.same s5).ch (Ch.ofX (a := l) (G := [l]) (by simp) s6 h6) fun t ht z => (Ti.lst_ne hl4 t ht) (List.mem_singleton.mp z)
            o_args
            refine fin H6 (ta ++ [u]) (ra ++ [(r.1, max r.2 p.2)]) ((Ch.of s5).trans (Ch.ofX (by simp) s6 h6)) ⟨by rw [h6, List.map_append]; rfl, Ti6.snoc (r := (r.1, max r.2 p.2)) (s6 _ _ ul h5)⟩ (fun t ht => ?_) (by simp at z4 ⊢; omega) (J.glue hs5 c)
            rcases List.mem_append.mp ht with ht | ht
            · exact n4 t (List.mem_append_left _ ht)
            · rw [List.mem_singleton.mp ht]; exact new nu
          · o_args
            refine brD (fun c2 => ?_) (fun c2 => ?_)
            · o_args
              refine ⟨isList hl4, ?_⟩
              o_args
              refine newTup (by simp) fun u H5 nu s5 h5 => ?_
              o_args
              refine appList (s5 _ _ hl4) (by rw [List.length_map, zl]; omega) fun H6 s6 h6 => ?_
              have ul : u ≠ l := (ne_of_none hl4 nu).symm
              have T6 : Tups H6 (ta ++ [tr]) (ra ++ [r]) := (T4.same s5).ch (Ch.ofX (a := l) (G := [l]) (by simp) s6 h6) fun t ht z => (T4.lst_ne hl4 t ht) (List.mem_singleton.mp z)
              o_args
              refine fin H6 (ta ++ [tr] ++ [u]) (ra ++ [r] ++ [p]) ((Ch.of s5).trans (Ch.ofX (by simp) s6 h6)) ⟨by rw [h6, List.map_append (l₂ := [u])]; rfl, T6.snoc (s6 _ _ ul h5)⟩ (fun t ht => ?_) (by simp at z4 ⊢; omega) (J.push hs5 (J.nrm.ends (by omega)) c2)
              rcases List.mem_append.mp ht with ht | ht
              · exact n4 t ht
              · rw [List.mem_singleton.mp ht]; exact new nu
            · o_args
              exact fin H4 (ta ++ [tr]) (ra ++ [r]) Ch.refl ⟨hl4, T4⟩ n4 (by omega) (J.skip (by omega))
      · rintro σ H4 ⟨a, b, ts, rs, rfl, c4, r4, n4, z4, J⟩
        rw [List.take_of_length_le (by rw [List.length_map]; exact Nat.le_refl _)] at J
        o_args
        refine k l ts rs H4 nl n4 ((((Ch.of S3).trans c4).more (F := [l]) (fun _ h => h)) |> fun c => Ch.same ((c).drop nl)) r4 (by omega) J.nrm (fun o => ?_) (fun r hr => ?_)
        · rw [J.mem o]
          exact ⟨fun ⟨r, h1, h2⟩ => ⟨r, hq.mem_iff.mp h1, h2⟩, fun ⟨r, h1, h2⟩ => ⟨r, hq.mem_iff.mpr h1, h2⟩⟩
        · obtain ⟨p, h1, h2⟩ := J.lo r hr
          exact ⟨p, hq.mem_iff.mp h1, h2⟩
def sp_missing (K : PySem.W.Frag) : Sp := fun vs H Q _ => ∃ (l : Addr) (ts : List Addr) (rs : List Run) (lo hi : Int), vs = [.ref l, .int lo, .int hi] ∧ RunsL l ts rs H ∧ Nrm rs ∧ rs.length < 50000 ∧
  ∀ l' ts' out H', H l' = none → (∀ t ∈ ts', H t = none) → Same H H' → RunsL l' ts' out H' → out.length ≤ rs.length + 1 → Nrm out → (∀ q ∈ out, lo ≤ q.1 ∧ q.2 ≤ hi) → (∀ o, Mem o out ↔ lo ≤ o ∧ o < hi ∧ ¬ Mem o rs) → Q (.ref l') H'
theorem ok_missing (T : Txt K mg) : FnOk P w K mg base CX0 1 T.a_missing T.fd_missing ["runs", "low", "high"] (sp_missing K) := by
  have S := sc_missing
  refine T.F_missing.ok S (fun vs H Q E h => ?_) (fun cdv A outer s H vs Q E hr h => ?_)
  · obtain ⟨l, ts, rs, lo, hi, rfl, _⟩ := h
    rfl
  · obtain ⟨l, ts, rs, lo, hi, rfl, hR, hN, hz, k⟩ := h
    refine ⟨_, (pss_cons (ps_set (i := 3) S.nd rfl (Or.inl rfl) (pe_lst pa_nil))
      (pss_cons (ps_set (i := 4) S.nd rfl (Or.inl rfl) (pv 1))
      (pss_cons (ps_for PassesOwn.never rfl (pi_list (pv 0)) (pg_tup rfl (pgs_cons (pg_name (i := 5) S.nd rfl (Or.inl rfl)) (pgs_cons (pg_name (i := 6) S.nd rfl (Or.inl rfl)) pgs_nil))) (pss_cons (ps_if (pt_cmpR op_lt (pv 4) (pe_callB (id := "min") (call_min2K rfl) (by rfl) T.b_min (by decide +kernel) (pa_cons (pv 5) (pa_cons (pv 2) pa_nil))) (nomark _)) (pss_one (ps_expr (pe_bm PySem.F.plainAttrs_list PySem.F.slot_list_append PySem.F.type_list_append mt_append (pv 3) (pa_cons (pe_tup (pa_cons (pv 4) (pa_cons (pe_callB (id := "min") (call_min2K rfl) (by rfl) T.b_min (by decide +kernel) (pa_cons (pv 5) (pa_cons (pv 2) pa_nil))) pa_nil))) pa_nil)))) pss_nil)
      (pss_one (ps_set (i := 4) S.nd rfl (Or.inl rfl) (pe_callB (id := "max") (call_max2K rfl) (by rfl) T.b_max (by decide +kernel) (pa_cons (pv 4) (pa_cons (pv 6) pa_nil)))))))
      (pss_cons (ps_if (pt_cmpR op_lt (pv 4) (pv 2) (nomark _)) (pss_one (ps_expr (pe_bm PySem.F.plainAttrs_list PySem.F.slot_list_append PySem.F.type_list_append mt_append (pv 3) (pa_cons (pe_tup (pa_cons (pv 4) (pa_cons (pv 2) pa_nil))) pa_nil)))) pss_nil)
      (pss_one (ps_ret (pv 3))))))), ?_⟩
    refine st_missing ?_
    o_args
    refine newList (by simp) fun f H1 nf s1 h1 => ?_
    have hR1 := hR.same s1
    have lf : l ∉ [f] := fun z => ne_of_none hR.1 nf (List.mem_singleton.mp z)
    have tf : ∀ t ∈ ts, t ∉ [f] := fun t ht z => (hR1.2.lst_ne h1 t ht) (List.mem_singleton.mp z)
    have new : ∀ {H4 u}, Ch [f] H1 H4 → H4 u = none → H u = none := fun c nu => ((Ch.of s1).trans c).none nu
    o_args
    refine overL (SqL.of hR1.1) (for_list (K := K) (a := l) (xs := ts.map V.ref) (fun i σ H' => ∃ a b ts' out at_, σ = [some (.ref l), some (.int lo), some (.int hi), some (.ref f), some (.int at_), a, b] ∧ Ch [f] H1 H' ∧ RunsL f ts' out H' ∧ (∀ t ∈ ts', H t = none) ∧ out.length ≤ i ∧ Msg lo hi at_ (rs.take i) out) ⟨none, none, [], [], lo, rfl, Ch.refl, ⟨h1, .nil⟩, (fun _ h => nomatch h), Nat.le_refl _, Msg.start⟩ (fun i σ H' _ ⟨_, _, _, _, _, _, c, _⟩ => SqL.of (c.at lf hR1.1)) ?_ ?_)
    · rintro i x σ H2 hx ⟨a, b, ts', out, at_, rfl, c2, r2, n2, z2, M⟩
      have il := getq_lt hx
      rw [List.length_map, hR.len] at il
      obtain ⟨t, e1, e2, ht⟩ := hR1.at (List.getElem?_eq_getElem il)
      rw [e2] at hx
      cases hx
      have ht2 := c2.at (tf t (List.mem_of_getElem? e1)) ht
      have rn := hN.1 _ (List.getElem_mem il)
      have tk : rs.take (i + 1) = rs.take i ++ [rs[i]] := by rw [List.take_succ, List.getElem?_eq_getElem il]; rfl
      have rp : ∀ q ∈ rs.take i, q.2 < rs[i].1 := fun q hq => by
        have sp := hN.2
        rw [← List.take_append_drop i rs] at sp
        exact (List.pairwise_append.mp sp).2.2 q hq _ (by rw [List.drop_eq_getElem_cons il]; exact List.mem_cons_self)
      have M2 := M.step rn rp
      generalize rs[i] = r at ht2 M2 tk
      have r2l := r2.len
      refine two_to ht2 ?_
      o_args
      refine brD (fun c => ?_) (fun c => ?_)
      · rw [if_pos c] at M2
        o_args
        refine ⟨isList r2.1, ?_⟩
        o_args
        refine newTup (by simp) fun u H3 nu s3 h3 => ?_
        o_args
        refine appList (s3 _ _ r2.1) (by rw [List.length_map]; omega) fun H4 s4 h4 => ?_
        have uf : u ≠ f := (ne_of_none r2.1 nu).symm
        have T4 : Tups H4 ts' out := (r2.2.same s3).ch (Ch.ofX (a := f) (G := [f]) (by simp) s4 h4) fun t ht z => (r2.2.lst_ne r2.1 t ht) (List.mem_singleton.mp z)
        o_args
        refine ⟨_, _, ts' ++ [u], _, _, rfl, (c2.trans (Ch.of s3)).trans (Ch.ofX (by simp) s4 h4), ⟨by rw [h4, List.map_append]; rfl, T4.snoc (s4 _ _ uf h3)⟩, fun t ht => ?_, by simp; omega, by rw [tk]; exact M2⟩
        rcases List.mem_append.mp ht with ht | ht
        · exact n2 t ht
        · rw [List.mem_singleton.mp ht]; exact new c2 nu
      · rw [if_neg c] at M2
        o_args
        exact ⟨_, _, ts', out, _, rfl, c2, r2, n2, by omega, by rw [tk]; exact M2⟩
    · rintro σ H2 ⟨a, b, ts', out, at_, rfl, c2, r2, n2, z2, M⟩
      rw [List.take_of_length_le (by rw [List.length_map, hR.len]; exact Nat.le_refl _)] at M
      rw [List.length_map, hR.len] at z2
      have r2l := r2.len
      obtain ⟨o', eo, d1, d2, d3⟩ := M.done
      o_args
      refine brD (fun c => ?_) (fun c => ?_)
      · rw [if_pos c] at eo
        subst eo
        o_args
        refine ⟨isList r2.1, ?_⟩
        o_args
        refine newTup (by simp) fun u H3 nu s3 h3 => ?_
        o_args
        refine appList (s3 _ _ r2.1) (by rw [List.length_map]; omega) fun H4 s4 h4 => ?_
        have uf : u ≠ f := (ne_of_none r2.1 nu).symm
        have T4 : Tups H4 ts' out := (r2.2.same s3).ch (Ch.ofX (a := f) (G := [f]) (by simp) s4 h4) fun t ht z => (r2.2.lst_ne r2.1 t ht) (List.mem_singleton.mp z)
        o_args
        refine k f (ts' ++ [u]) _ H4 nf (fun t ht => ?_) (Ch.same ((((Ch.of s1).trans (c2.trans (Ch.of s3))).trans (Ch.ofX (by simp) s4 h4)).drop nf)) ⟨by rw [h4, List.map_append]; rfl, T4.snoc (s4 _ _ uf h3)⟩ (by simp; omega) d1 d2 d3
        rcases List.mem_append.mp ht with ht | ht
        · exact n2 t ht
        · rw [List.mem_singleton.mp ht]; exact new c2 nu
      · rw [if_neg c] at eo
        subst eo
        o_args
        exact k f ts' _ H2 nf n2 (Ch.same (((Ch.of s1).trans c2).drop nf)) r2 (by omega) d1 d2 d3
def sp_common (K : PySem.W.Frag) : Sp := fun vs H Q _ => ∃ (l1 l2 : Addr) (ts1 ts2 : List Addr) (F S : List Run), vs = [.ref l1, .ref l2] ∧ RunsL l1 ts1 F H ∧ RunsL l2 ts2 S H ∧ Nrm F ∧ Nrm S ∧ F.length < 50000 ∧ S.length < 50000 ∧
  ∀ l' ts' out H', H l' = none → (∀ t ∈ ts', H t = none) → Same H H' → RunsL l' ts' out H' → out.length ≤ F.length + S.length → Nrm out → (∀ q ∈ out, ∃ a ∈ F, a.1 ≤ q.1) → (∀ o, Mem o out ↔ Mem o F ∧ Mem o S) → Q (.ref l') H'
theorem ok_common (T : Txt K mg) : FnOk P w K mg base CX0 1 T.a_common T.fd_common ["first", "second"] (sp_common K) := by
  have S := sc_common
  refine T.F_common.ok S (fun vs H Q E h => ?_) (fun cdv A outer s H vs Q E hr h => ?_)
  · obtain ⟨l1, l2, ts1, ts2, F, S, rfl, _⟩ := h
    rfl
  · obtain ⟨l1, l2, ts1, ts2, F, S', rfl, hR1, hR2, hN1, hN2, z1, z2, k⟩ := h
    refine ⟨_, (pss_cons (ps_set (i := 2) S.nd rfl (Or.inl rfl) (pe_lst pa_nil))
      (pss_cons (ps_asg2 pe_int (pg_name (i := 3) S.nd rfl (Or.inl rfl)) (pg_name (i := 4) S.nd rfl (Or.inl rfl)))
      (pss_cons (ps_while PassesOwn.never (PW.pt (pw_and (pt_cmpR op_lt (pv 3) (pe_callB (id := "len") (call_lenK (K := K) rfl) (by rfl) T.b_len (by decide +kernel) (pa_cons (pv 0) pa_nil)) (nomark _)) (pw_and1 (pt_cmpR op_lt (pv 4) (pe_callB (id := "len") (call_lenK (K := K) rfl) (by rfl) T.b_len (by decide +kernel) (pa_cons (pv 1) pa_nil)) (nomark _))))) (pss_cons (ps_set (i := 5) S.nd rfl (Or.inl rfl) (pe_callB (id := "max") (call_max2K rfl) (by rfl) T.b_max (by decide +kernel) (pa_cons (pe_ix ix_tup (pe_ix ix_list (pv 0) (pv 3) (fun _ _ => rfl)) pe_int (fun _ _ => rfl)) (pa_cons (pe_ix ix_tup (pe_ix ix_list (pv 1) (pv 4) (fun _ _ => rfl)) pe_int (fun _ _ => rfl)) pa_nil))))
      (pss_cons (ps_set (i := 6) S.nd rfl (Or.inl rfl) (pe_callB (id := "min") (call_min2K rfl) (by rfl) T.b_min (by decide +kernel) (pa_cons (pe_ix ix_tup (pe_ix ix_list (pv 0) (pv 3) (fun _ _ => rfl)) pe_int (fun _ _ => rfl)) (pa_cons (pe_ix ix_tup (pe_ix ix_list (pv 1) (pv 4) (fun _ _ => rfl)) pe_int (fun _ _ => rfl)) pa_nil))))
      (C8.pss_cut (ps_if (pt_cmpR op_lt (pv 5) (pv 6) (nomark _)) (pss_one (ps_expr (pe_bm PySem.F.plainAttrs_list PySem.F.slot_list_append PySem.F.type_list_append mt_append (pv 2) (pa_cons (pe_tup (pa_cons (pv 5) (pa_cons (pv 6) pa_nil))) pa_nil)))) pss_nil)
      (pss_one (ps_if (pt_cmpR op_lt (pe_ix ix_tup (pe_ix ix_list (pv 0) (pv 3) (fun _ _ => rfl)) pe_int (fun _ _ => rfl)) (pe_ix ix_tup (pe_ix ix_list (pv 1) (pv 4) (fun _ _ => rfl)) pe_int (fun _ _ => rfl)) (nomark _)) (pss_one (ps_aug (i := 3) S.nd rfl (.inl rfl) pe_int ip_add)) (pss_one (ps_aug (i := 4) S.nd rfl (.inl rfl) pe_int ip_add))))))))
      (pss_one (ps_ret (pv 2)))))), ?_⟩
    refine st_common ?_
    o_args
    refine newList (by simp) fun f H1 nf s1 h1 => ?_
    have hF := hR1.same s1
    have hG := hR2.same s1
    have lf : l1 ∉ [f] := fun z => ne_of_none hR1.1 nf (List.mem_singleton.mp z)
    have mf : l2 ∉ [f] := fun z => ne_of_none hR2.1 nf (List.mem_singleton.mp z)
    have tf : ∀ t ∈ ts1, t ∉ [f] := fun t ht z => (hF.2.lst_ne h1 t ht) (List.mem_singleton.mp z)
    have uf : ∀ t ∈ ts2, t ∉ [f] := fun t ht z => (hG.2.lst_ne h1 t ht) (List.mem_singleton.mp z)
    have new : ∀ {H4 u}, Ch [f] H1 H4 → H4 u = none → H u = none := fun c nu => ((Ch.of s1).trans c).none nu
    o_args
    refine ⟨fun m σ H' => ∃ (i j : Nat) (lv hv : Option V) (ts' : List Addr) (out : List Run), m = (F.length - i) + (S'.length - j) ∧ i ≤ F.length ∧ j ≤ S'.length ∧ σ = [some (.ref l1), some (.ref l2), some (.ref f), some (.int (i : Int)), some (.int (j : Int)), lv, hv] ∧ Ch [f] H1 H' ∧ RunsL f ts' out H' ∧ (∀ t ∈ ts', H t = none) ∧ out.length ≤ i + j ∧ Com F S' (F.drop i) (S'.drop j) out, ⟨_, 0, 0, none, none, [], [], rfl, Nat.zero_le _, Nat.zero_le _, rfl, Ch.refl, ⟨h1, .nil⟩, (fun _ h => nomatch h), Nat.le_refl _, Com.start hN1 hN2⟩, ?_⟩
    rintro m σ H2 ⟨i, j, lv, hv, ts', out, rfl, hi, hj, rfl, c2, r2, n2, zo, C⟩
    have f2 := hF.ch c2 lf tf
    have g2 := hG.ch c2 mf uf
    have r2l := r2.len
    have fin : i = F.length ∨ j = S'.length → Q (.ref f) H2 := fun e => by
      obtain ⟨d1, d2, d3⟩ := C.done (e.elim (fun e => .inl (List.drop_eq_nil_of_le (by omega))) fun e => .inr (List.drop_eq_nil_of_le (by omega)))
      exact k f ts' out H2 nf n2 (Ch.same (((Ch.of s1).trans c2).drop nf)) r2 (by omega) d1 d2 d3
    o_args
    refine lenA (SeqA.lst f2.1) ?_
    o_args
    rw [List.length_map, f2.len]
    refine brD (fun q1 => ?_) (fun q1 => ?_)
    · o_args
      refine lenA (SeqA.lst g2.1) ?_
      o_args
      rw [List.length_map, g2.len]
      refine brD (fun q2 => ?_) (fun q2 => ?_)
      · have i1 : i < F.length := by omega
        have j1 : j < S'.length := by omega
        obtain ⟨t, _, e1, ht⟩ := f2.at (List.getElem?_eq_getElem i1)
        obtain ⟨u, _, e2, hu⟩ := g2.at (List.getElem?_eq_getElem j1)
        have eF := List.drop_eq_getElem_cons i1
        have eS := List.drop_eq_getElem_cons j1
        rw [eF, eS] at C
        generalize F[i] = a at ht C eF
        generalize S'[j] = b at hu C eS
        refine ⟨fun σ' H' => ∃ m', m' < (F.length - i) + (S'.length - j) ∧ ∃ (i j : Nat) (lv hv : Option V) (ts' : List Addr) (out : List Run), m' = (F.length - i) + (S'.length - j) ∧ i ≤ F.length ∧ j ≤ S'.length ∧ σ' = [some (.ref l1), some (.ref l2), some (.ref f), some (.int (i : Int)), some (.int (j : Int)), lv, hv] ∧ Ch [f] H1 H' ∧ RunsL f ts' out H' ∧ (∀ t ∈ ts', H t = none) ∧ out.length ≤ i + j ∧ Com F S' (F.drop i) (S'.drop j) out, fun _ _ h => h, ?_⟩
        o_args
        refine ixL f2.1 e1 ?_
        o_args
        refine ixL g2.1 e2 ?_
        o_args
        refine ixL f2.1 e1 ?_
        o_args
        refine ixL g2.1 e2 ?_
        o_args
        refine ⟨fun σ H' => ∃ lv hv ts'', σ = [some (.ref l1), some (.ref l2), some (.ref f), some (.int (i : Int)), some (.int (j : Int)), lv, hv] ∧ Ch [f] H2 H' ∧ RunsL f ts'' (piece a b out) H' ∧ (∀ t ∈ ts'', H t = none), ?_, ?_⟩
        · unfold piece
          o_args
          refine brD (fun c => ?_) (fun c => ?_)
          · rw [if_pos c]
            o_args
            refine ⟨isList r2.1, ?_⟩
            o_args
            refine newTup (by simp) fun v H3 nu s3 h3 => ?_
            o_args
            refine appList (s3 _ _ r2.1) (by rw [List.length_map]; omega) fun H4 s4 h4 => ?_
            have vf : v ≠ f := (ne_of_none r2.1 nu).symm
            have T4 : Tups H4 ts' out := (r2.2.same s3).ch (Ch.ofX (a := f) (G := [f]) (by simp) s4 h4) fun t ht z => (r2.2.lst_ne r2.1 t ht) (List.mem_singleton.mp z)
            o_args
            refine ⟨_, _, ts' ++ [v], rfl, (Ch.of s3).trans (Ch.ofX (by simp) s4 h4), ⟨by rw [h4, List.map_append]; rfl, T4.snoc (s4 _ _ vf h3)⟩, fun t ht => ?_⟩
            rcases List.mem_append.mp ht with ht | ht
            · exact n2 t ht
            · rw [List.mem_singleton.mp ht]; exact new c2 nu
          · rw [if_neg c]
            o_args
            exact ⟨_, _, ts', rfl, Ch.refl, r2, n2⟩
        · rintro σ H3 ⟨lv', hv', ts'', rfl, c3, r3, n3⟩
          have f3 := hF.ch (c2.trans c3) lf tf
          have g3 := hG.ch (c2.trans c3) mf uf
          have ht3 := c3.at (tf t (by
            obtain ⟨k', e⟩ := List.mem_iff_getElem?.mp (List.mem_of_getElem? e1)
            rw [List.getElem?_map] at e1
            cases q : ts1[i]? with
            | none => rw [q] at e1; cases e1
            | some x => rw [q] at e1; cases e1; exact List.mem_of_getElem? q)) ht
          have hu3 := c3.at (uf u (by
            rw [List.getElem?_map] at e2
            cases q : ts2[j]? with
            | none => rw [q] at e2; cases e2
            | some x => rw [q] at e2; cases e2; exact List.mem_of_getElem? q)) hu
          have pz : (piece a b out).length ≤ out.length + 1 := by
            unfold piece
            split
            · simp
            · omega
          o_args
          refine ixL f3.1 e1 ?_
          o_args
          refine ixL g3.1 e2 ?_
          o_args
          refine brD (fun c => ?_) (fun c => ?_)
          · o_args
            refine ⟨_, rfl, ?_⟩
            o_args
            exact ⟨(F.length - (i + 1)) + (S'.length - j), by omega, i + 1, j, _, _, ts'', _, rfl, by omega, hj, rfl, c2.trans c3, r3, n3, by omega, by rw [eS]; exact C.left c⟩
          · o_args
            refine ⟨_, rfl, ?_⟩
            o_args
            exact ⟨(F.length - i) + (S'.length - (j + 1)), by omega, i, j + 1, _, _, ts'', _, rfl, hi, by omega, rfl, c2.trans c3, r3, n3, by omega, by rw [eF]; exact C.right c⟩
      · o_args
        exact fin (.inr (by omega))
    · o_args
      exact fin (.inl (by omega))
/-! ### sets of offsets -/
structure Offs (rs : List Run) : Prop where
  nrm : Nrm rs
  lo : ∀ r ∈ rs, 0 ≤ r.1
def sp_without (K : PySem.W.Frag) : Sp := fun vs H Q _ => ∃ (l1 l2 : Addr) (ts1 ts2 : List Addr) (F S : List Run), vs = [.ref l1, .ref l2] ∧ RunsL l1 ts1 F H ∧ RunsL l2 ts2 S H ∧ Offs F ∧ Nrm S ∧ F.length < 40000 ∧ S.length < 40000 ∧
  ∀ l' ts' out H', H l' = none → (∀ t ∈ ts', H t = none) → Same H H' → RunsL l' ts' out H' → out.length ≤ F.length + S.length + 1 → Offs out → (∀ o, Mem o out ↔ Mem o F ∧ ¬ Mem o S) → Q (.ref l') H'
theorem ok_without (T : Txt K mg) : FnOk P w K mg base CX0 2 T.a_without T.fd_without ["first", "second"] (sp_without K) := by
  have S := sc_without
  refine T.F_without.ok S (fun vs H Q E h => ?_) (fun cdv A outer s H vs Q E hr h => ?_)
  · obtain ⟨l1, l2, ts1, ts2, F, S, rfl, _⟩ := h
    rfl
  · obtain ⟨l1, l2, ts1, ts2, F, S', rfl, hR1, hR2, hF, hS, z1, z2, k⟩ := h
    refine ⟨_, (pss_cons (ps_set (i := 2) S.nd rfl (Or.inl rfl) (pe_ifExp (pt_truth (pv 0) (fun _ => rfl)) (pe_ix ix_tup (pe_ix ix_list (pv 0) (pe_un un_neg pe_int) (fun _ _ => rfl)) pe_int (fun _ _ => rfl)) pe_int))
      (pss_one (ps_ret (pe_call (ok_common T) (hr.mono (by decide)) rfl T.g_common T.F_common.kp T.B_common .nil pass0 (pa_cons (pv 0) (pa_cons (pe_call (ok_missing T) (hr.mono (by decide)) rfl T.g_missing T.F_missing.kp T.B_missing .nil pass0 (pa_cons (pv 1) (pa_cons pe_int (pa_cons (pv 2) pa_nil)))) pa_nil)))))), ?_⟩
    refine st_without ?_
    o_args
    have go : ∀ e : Int, (∀ o, Mem o F → 0 ≤ o ∧ o < e) → sp_missing K ([V.ref l2, V.int 0, V.int e] ++ []) H (fun x H1 => tNil [some (.ref l1), some (.ref l2), some (.int e)] H1 fun xs H2 => sp_common K (V.ref l1 :: x :: xs ++ []) H2 (fun x H1 => Q x H1) E0) E0 := fun e he => by
      refine ⟨l2, ts2, S', 0, e, rfl, hR2, hS, by omega, fun m us out H1 nm nu s1 r1 zo n1 b1 m1 => ?_⟩
      o_args
      refine ⟨l1, m, ts1, us, F, out, rfl, hR1.same s1, r1, hF.nrm, n1, by omega, by omega, fun l' ts' out' H2 nl' nt s2 r2 zo' n2 b2 m2 => ?_⟩
      o_args
      refine k l' ts' out' H2 (none_of s1 nl') (fun t ht => none_of s1 (nt t ht)) (s1.trans s2) r2 (by omega) ⟨n2, fun r hr => ?_⟩ (fun o => ?_)
      · obtain ⟨a, ha, h⟩ := b2 r hr
        have := hF.lo a ha; omega
      · rw [m2 o, m1 o]
        exact ⟨fun ⟨h1, _, _, h2⟩ => ⟨h1, h2⟩, fun ⟨h1, h2⟩ => ⟨h1, (he o h1).1, (he o h1).2, h2⟩⟩
    refine ⟨_, truL hR1.1, ?_⟩
    have zl := hR1.len
    rcases snoc_or F with rfl | ⟨a, r, rfl⟩
    · have e0 : ts1 = [] := List.eq_nil_of_length_eq_zero zl
      subst e0
      o_args
      refine brT rfl ?_
      o_args
      exact go 0 fun o h => absurd h Mem.nil
    · obtain ⟨ta, tr, rfl⟩ : ∃ a x, ts1 = a ++ [x] := (snoc_or ts1).resolve_left fun z => by rw [z] at zl; simp at zl
      have hl5 : H l1 = some (.lst (ta.map V.ref ++ [V.ref tr])) := by rw [hR1.1, List.map_append]; rfl
      obtain ⟨Ti, Tr⟩ := hR1.2.init
      o_args
      refine brF (by simp) ?_
      o_args
      refine ixLast hl5 ?_
      o_args
      refine go r.2 fun o ⟨q, hq, h⟩ => ?_
      have := hF.lo q hq
      have := hF.nrm.le_last q hq
      omega
/-- at e: a set of the runs rs; what is named in F is none of its own -/
def SpA (C e : Addr) (F : List Addr) (rs : List Run) (H : Hp) : Prop := ∃ dx l ts, H e = some (.ins C dx [("_runs", .ref l)]) ∧ RunsL l ts rs H ∧ e ∉ F ∧ l ∉ F ∧ (∀ t ∈ ts, t ∉ F) ∧ Offs rs
section
variable {C e x : Addr} {F G : List Addr} {rs : List Run} {H H' : Hp}
theorem SpA.ch (S : SpA C e F rs H) (c : Ch G H H') (h : ∀ b ∈ G, b ∈ F) : SpA C e F rs H' := by
  obtain ⟨dx, l, ts, h1, h2, h3, h4, h5, h6⟩ := S
  exact ⟨dx, l, ts, c.at (fun z => h3 (h _ z)) h1, h2.ch c (fun z => h4 (h _ z)) (fun t ht z => h5 t ht (h _ z)), h3, h4, h5, h6⟩
theorem SpA.same (S : SpA C e F rs H) (s : Same H H') : SpA C e F rs H' := S.ch (Ch.of (G := []) s) (fun _ h => nomatch h)
theorem SpA.own (S : SpA C e F rs H) (hx : H x = none) (s : Same H H') : SpA C e (x :: F) rs H' := by
  obtain ⟨dx, l, ts, h1, h2, h3, h4, h5, h6⟩ := S
  have ne : ∀ {b o}, H b = some o → b ∉ F → b ∉ x :: F := fun e n z => by
    rcases List.mem_cons.mp z with z | z
    · rw [z, hx] at e; cases e
    · exact n z
  refine ⟨dx, l, ts, s _ _ h1, h2.same s, ne h1 h3, ne h2.1 h4, fun t ht => ?_, h6⟩
  obtain ⟨i, hi⟩ := List.mem_iff_getElem?.mp ht
  have l1 := getq_lt hi
  have l2 : i < rs.length := by have := h2.len; omega
  exact ne (h2.2.2 i t rs[i] hi (List.getElem?_eq_getElem l2)) (h5 t ht)
theorem SpA.less (S : SpA C e F rs H) (h : ∀ b ∈ G, b ∈ F) : SpA C e G rs H := by
  obtain ⟨dx, l, ts, h1, h2, h3, h4, h5, h6⟩ := S
  exact ⟨dx, l, ts, h1, h2, fun z => h3 (h _ z), fun z => h4 (h _ z), fun t ht z => h5 t ht (h _ z), h6⟩
theorem SpA.offs (S : SpA C e F rs H) : Offs rs := by
  obtain ⟨dx, l, ts, h1, h2, h3, h4, h5, h6⟩ := S
  exact h6
theorem SpA.at_ (S : SpA C e F rs H) : ∃ o, H e = some o := by
  obtain ⟨dx, l, ts, h1, _⟩ := S
  exact ⟨_, h1⟩
end
/-- what refuses a value that is told by its heap -/
def ErrT (Ce : Addr) (a b : V) (H : Hp) (E : XK) : Prop := ∀ t d H', Same H H' → H' t = some (.tup [a, b]) → H' d = some (.xd [("number", .ref t)]) → E (.ref Ce) (some d) H'
def sp_Spans_init_ (K : PySem.W.Frag) (C Ce : Addr) : Sp := fun vs H Q E => ∃ (p q dx : Addr) (xs : List V), vs = [.ref p, .ref q] ∧ H p = some (.ins C dx []) ∧ H q = some (.tup xs) ∧ xs.length < 50000 ∧
  ((∃ ps : List Run, xs.length = ps.length ∧ (∀ (i : Nat) x r, xs[i]? = some x → ps[i]? = some r → PairAt H x r ∧ 0 ≤ r.1 ∧ r.1 ≤ r.2) ∧ ∀ H' rs, Ch [p] H H' → (∀ F, Al F H → p ∉ F → SpA C p F rs H') → rs.length ≤ ps.length → (∀ o, Mem o rs ↔ Mem o ps) → Q .non H') ∨
   (∃ (j : Nat) (x : V), xs[j]? = some x ∧ BadPair K H x ∧ (∀ (i : Nat) y, i < j → xs[i]? = some y → ∃ r : Run, PairAt H y r ∧ 0 ≤ r.1 ∧ r.1 ≤ r.2) ∧ Err Ce "number" x H E))
theorem tyX_tup {K : PySem.W.Frag} {H : Hp} {t : Addr} {xs : List V} (h : H t = some (.tup xs)) : TyX K H (.ref t) (.type "tuple") := .base (.tup h)
theorem BadPair.same {K : PySem.W.Frag} {H H' : Hp} {x : V} (h : BadPair K H x) (s : Same H H') : BadPair K H' x := by
  rcases h with ⟨t, h1, h2⟩ | ⟨t, xs, rfl, hS, hb⟩
  · exact .inl ⟨t, tyX_same h1 s, h2⟩
  · refine .inr ⟨t, xs, rfl, hS.sm s, hb.imp id fun ⟨a, b, e, hb⟩ => ⟨a, b, e, hb.imp (fun h => h.same s) fun ⟨n, e, n0, h⟩ => ⟨n, e, n0, h.same s⟩⟩⟩
theorem ok_Spans_init_ (T : Txt K mg) : FnR P w K mg base (L2.CX P w) 4 T.a_Spans_init_ (starSp 1 (sp_Spans_init_ K T.c_Spans T.c_InvalidNumber)) := by
  have S := sc_Spans_init_
  refine okStarX T.F_Spans_init_ T.BS_Spans_init_ S (fun cdv A outer s H vs Q E hr h => ?_)
  obtain ⟨p, q, dx, xs, rfl, hp, hq, hz, h⟩ := h
  refine ⟨_, (pss_cons (ps_for (passes_of rfl) rfl (pi_tup (pv 1)) (pg_name (i := 2) S.nd rfl (Or.inl rfl)) (pss_one (ps_if (pt_not (pt_val (pe_call (ok_is_run T) (hr.mono (by decide)) rfl T.g_is_run T.F_is_run.kp T.B_is_run .nil pass0 (pa_cons (pv 2) pa_nil)))) (pss_one (ps_raise rfl (takes_of rfl rfl rfl rfl) (pmk_oex T.X_InvalidNumber.o T.X_InvalidNumber.i T.X_InvalidNumber.t (ok_InvalidNumber_init_ T) (hr.mono (by decide)) T.B_InvalidNumber_init_ .nil pass0 rfl T.X_InvalidNumber.g (pa_cons (pv 2) pa_nil)))) pss_nil)))
      (pss_one (ps_fld (pv 0) (pe_call (ok_joined T) (hr.mono (by decide)) rfl T.g_joined T.F_joined.kp T.B_joined .nil pass0 (pa_cons (pv 1) pa_nil)) rfl))), ?_⟩
  refine st_Spans_init_ ?_
  o_args
  rcases h with ⟨ps, hl, hp2, k⟩ | ⟨j, x, hj, hb, hg, hE⟩
  · refine overT (SqT.of hq) (for_tup (K := K) (a := q) (xs := xs) (fun i σ H' => ∃ v, σ = [some (.ref p), some (.ref q), v] ∧ Same H H') ⟨none, rfl, Same.refl _⟩ (fun i σ H' _ ⟨_, _, s⟩ => SqT.of (s _ _ hq)) ?_ ?_)
    · rintro i x σ H1 hx ⟨v, rfl, s1⟩
      have il : i < ps.length := by have := getq_lt hx; omega
      obtain ⟨g1, g2, g3⟩ := hp2 i x _ hx (List.getElem?_eq_getElem il)
      o_args
      refine ⟨x, rfl, .inl ⟨_, g1.same s1, g2, g3, fun H2 s2 => ?_⟩⟩
      o_args
      exact ⟨_, rfl, s1.trans s2⟩
    · rintro σ H1 ⟨v, rfl, s1⟩
      o_args
      refine ⟨q, xs, ps, rfl, SeqA.tup (s1 _ _ hq), by omega, hl, fun i x r h1 h2 => (hp2 i x r h1 h2).1.same s1, fun l ts rs H2 nl nt s2 r2 z2 n2 m2 lo2 => ?_⟩
      o_args
      refine fstore (s2 _ _ (s1 _ _ hp)) T.cl_Spans T.n_Spans__runs (Nat.le_of_ble_eq_true rfl) rfl fun H3 s3 h3 => ?_
      have S2 := s1.trans s2
      have c3 : Ch [p] H H3 := (Ch.of S2).trans (Ch.ofX (by simp) s3 h3)
      have np : ∀ {b o}, H2 b = some o → H b = none → b ≠ p := fun _ n z => by rw [z, hp] at n; cases n
      have cl : Ch [p] H2 H3 := Ch.ofX (by simp) s3 h3
      have tn : ∀ t ∈ ts, H t = none := fun t ht => none_of s1 (nt t ht)
      have ln : H l = none := none_of s1 nl
      o_args
      refine k H3 rs c3 (fun F A pF => ⟨dx, l, ts, h3, r2.ch cl (fun z => np r2.1 ln (List.mem_singleton.mp z)) (fun t ht z => ?_), pF, A.new ln, fun t ht => A.new (tn t ht), n2, fun r hr => ?_⟩) z2 m2
      · have := tn t ht
        rw [List.mem_singleton.mp z, hp] at this
        cases this
      · obtain ⟨p', hp', e⟩ := lo2 r hr
        obtain ⟨i, hi⟩ := List.mem_iff_getElem?.mp hp'
        have il := getq_lt hi
        have il2 : i < xs.length := by omega
        rw [e]
        exact (hp2 i xs[i] p' (List.getElem?_eq_getElem il2) hi).2.1
  · refine overT (SqT.of hq) (for_tup (K := K) (a := q) (xs := xs) (fun i σ H' => ∃ v, σ = [some (.ref p), some (.ref q), v] ∧ Same H H' ∧ i ≤ j) ⟨none, rfl, Same.refl _, Nat.zero_le _⟩ (fun i σ H' _ ⟨_, _, s, _⟩ => SqT.of (s _ _ hq)) ?_ ?_)
    · rintro i y σ H1 hy ⟨v, rfl, s1, ij⟩
      o_args
      by_cases e : i = j
      · subst e
        rw [hj] at hy
        cases hy
        refine ⟨x, rfl, .inr ⟨hb.same s1, fun H2 s2 => ?_⟩⟩
        o_args
        exact ⟨_, rfl, mkO_of T.X_InvalidNumber.o T.nX_InvalidNumber fun d H3 nd ss hx => hE d H3 ((s1.trans s2).trans ss) hx⟩
      · obtain ⟨r, g1, g2, g3⟩ := hg i y (by omega) hy
        refine ⟨y, rfl, .inl ⟨r, g1.same s1, g2, g3, fun H2 s2 => ?_⟩⟩
        o_args
        exact ⟨_, rfl, s1.trans s2, by omega⟩
    · rintro σ H1 ⟨v, rfl, s1, ij⟩
      have := getq_lt hj
      omega
theorem x_mkO {C : Addr} {sp : Sp} {dvs : List V} {ta : TA} {σ : L2.St} {H : Hp} {W : XK} (q : ta σ H fun vs H1 => vs.length ≤ 1000 ∧ ∀ a, H1 a = none → sp (.ref a :: (vs ++ dvs)) (upd H1 a (exo a C none))
  (fun v H2 => v = .non ∧ ∃ (d : Addr) (fs : List (Str × V)), H2 a = some (exo a C (some d)) ∧ H2 d = some (exd d fs) ∧ H1 d = none ∧ W (.ref C) (some d) (upd (del H2 a) d (.xd fs))) (fun _ _ _ => False)) : tMkO C sp dvs ta σ H W := q
def sp_Spans_rows (K : PySem.W.Frag) (C : Addr) : Sp := fun vs H Q _ => ∃ (e : Addr) (F : List Addr) (rs : List Run), vs = [.ref e] ∧ SpA C e F rs H ∧ ∀ l ts H', H l = none → Same H H' → RunsL l ts rs H' → Q (.ref l) H'
theorem ok_Spans_rows (T : Txt K mg) : FnOk P w K mg base CX0 1 T.a_Spans_rows T.fd_Spans_rows ["self"] (sp_Spans_rows K T.c_Spans) := by
  have S := sc_Spans_rows
  refine T.F_Spans_rows.ok S (fun vs H Q E h => ?_) (fun cdv A outer s H vs Q E hr h => ?_)
  · obtain ⟨e, F, rs, rfl, _⟩ := h
    rfl
  · obtain ⟨e, F, rs, rfl, ⟨dx, l, ts, he, hR, _⟩, k⟩ := h
    refine ⟨_, (pss_one (ps_ret (pe_callTy (T := "list") (call_listK (K := K) rfl) (by rfl) T.b_list (by decide +kernel) (pa_cons (pe_fld (pv 0) rfl) pa_nil)))), ?_⟩
    refine st_Spans_rows ?_
    o_args
    refine fget he T.cl_Spans T.n_Spans__runs rfl ?_
    o_args
    refine listOf (.inl (SqL.of hR.1)) fun m H1 nm s1 h1 => ?_
    o_args
    exact k m ts H1 nm s1 ⟨h1, hR.2.same s1⟩
def sp_Spans_len_ (K : PySem.W.Frag) (C : Addr) : Sp := fun vs H Q _ => ∃ (e : Addr) (F : List Addr) (rs : List Run), vs = [.ref e] ∧ SpA C e F rs H ∧ Q (.int rs.length) H
theorem ok_Spans_len_ (T : Txt K mg) : FnOk P w K mg base CX0 1 T.a_Spans_len_ T.fd_Spans_len_ ["self"] (sp_Spans_len_ K T.c_Spans) := by
  have S := sc_Spans_len_
  refine T.F_Spans_len_.ok S (fun vs H Q E h => ?_) (fun cdv A outer s H vs Q E hr h => ?_)
  · obtain ⟨e, F, rs, rfl, _⟩ := h
    rfl
  · obtain ⟨e, F, rs, rfl, ⟨dx, l, ts, he, hR, _⟩, k⟩ := h
    refine ⟨_, (pss_one (ps_ret (pe_callB (id := "len") (call_lenK (K := K) rfl) (by rfl) T.b_len (by decide +kernel) (pa_cons (pe_fld (pv 0) rfl) pa_nil)))), ?_⟩
    refine st_Spans_len_ ?_
    o_args
    refine fget he T.cl_Spans T.n_Spans__runs rfl ?_
    o_args
    refine lenA (.inl (SqL.of hR.1)) ?_
    rw [List.length_map, hR.len]
    exact k
def sumR (rs : List Run) : Int := (rs.map fun r => r.2 - r.1).sum
def sp_Spans_total (K : PySem.W.Frag) (C : Addr) : Sp := fun vs H Q _ => ∃ (e : Addr) (F : List Addr) (rs : List Run), vs = [.ref e] ∧ SpA C e F rs H ∧ rs.length < 50000 ∧ ∀ H', Same H H' → Q (.int (sumR rs)) H'
theorem ok_Spans_total (T : Txt K mg) : FnOk P w K mg base CX0 1 T.a_Spans_total T.fd_Spans_total ["self"] (sp_Spans_total K T.c_Spans) := by
  have S := sc_Spans_total
  refine T.F_Spans_total.ok S (fun vs H Q E h => ?_) (fun cdv A outer s H vs Q E hr h => ?_)
  · obtain ⟨e, F, rs, rfl, _⟩ := h
    rfl
  · obtain ⟨e, F, rs, rfl, ⟨dx, l, ts, he, hR, _⟩, hz, k⟩ := h
    refine ⟨_, (pss_one (ps_ret (pe_callB (id := "sum") (cr_sum rfl) (by rfl) T.b_sum (by decide +kernel) (pa_cons (pe_lc (own := [("low", 1), ("high", 2)]) (g := gTup K 2 (gCons (gName 1) (gCons (gName 2) gNil))) (tt := tYes) rfl S.nd (pi_list (pe_fld (pv 0) rfl)) (blkOk_by (N := ["self", "low", "high"]) (sc := defScope s_Spans_total) (by decide +kernel)) (fun _ _ _ _ _ => pg_tup rfl (pgs_cons (pg_name (i := 1) S.nd rfl (Or.inl rfl)) (pgs_cons (pg_name (i := 2) S.nd rfl (Or.inl rfl)) pgs_nil))) (fun _ _ _ _ _ => pts_nil) (fun _ _ _ _ _ => (pe_op op_sub (pv 2) (pv 1)))) pa_nil)))), ?_⟩
    refine st_Spans_total ?_
    o_args
    refine lcG2 (a := l) (xs := ts.map V.ref) (fun D i vs H' => SameX D H H' ∧ vs = ((rs.take i).map fun r => r.2 - r.1).map V.int) (fun x y => rfl) (fun R h => ?_) (SqL.of hR.1) (by rw [List.length_map, hR.len]; omega) (fun D _ => ⟨SameX.upd, by simp⟩) (fun D i vs H' hD hP => SqL.of (hP.1 _ _ (ne_of_none hR.1 hD) hR.1)) (fun D i v vs H' hD hv hle h1 hP => ?_) (fun D vs H' hD h1 hle hP => ?_)
    · o_args
      exact fget he T.cl_Spans T.n_Spans__runs rfl h
    · obtain ⟨s, e1⟩ := hP
      have il := getq_lt hv
      rw [List.length_map, hR.len] at il
      obtain ⟨t, _, e2, ht⟩ := hR.at (List.getElem?_eq_getElem il)
      rw [e2] at hv
      cases hv
      have tk : rs.take (i + 1) = rs.take i ++ [rs[i]] := by rw [List.take_succ, List.getElem?_eq_getElem il]; rfl
      generalize rs[i] = r at tk ht
      refine ⟨t, _, _, rfl, s _ _ (ne_of_none ht hD) ht, fun Y N hY hN => ?_⟩
      dsimp only [tYes]
      rw [if_pos rfl]
      o_args
      exact hY _ H' h1 ⟨s.upd', by rw [e1, tk]; simp⟩
    · obtain ⟨s, e1⟩ := hP
      rw [List.length_map, hR.len, List.take_length] at e1
      subst e1
      exact ⟨D, _, rfl, SqL.of h1, k H' (Same.ofX hD s)⟩
def sp_Spans_holding (K : PySem.W.Frag) (C : Addr) : Sp := fun vs H Q _ => ∃ (e : Addr) (F : List Addr) (rs : List Run) (x : V), vs = [.ref e, x] ∧ SpA C e F rs H ∧
  ((∃ o, x = .int o ∧ ((∃ r ∈ rs, r.1 ≤ o ∧ o < r.2 ∧ ∀ t H', Same H H' → H' t = some (.tup [.int r.1, .int r.2]) → Q (.ref t) H') ∨ (¬ Mem o rs ∧ Q .non H))) ∨ (IntK K H x false ∧ Q .non H))
theorem ok_Spans_holding (T : Txt K mg) : FnOk P w K mg base CX0 2 T.a_Spans_holding T.fd_Spans_holding ["self", "offset"] (sp_Spans_holding K T.c_Spans) := by
  have S := sc_Spans_holding
  refine T.F_Spans_holding.ok S (fun vs H Q E h => ?_) (fun cdv A outer s H vs Q E hr h => ?_)
  · obtain ⟨e, F, rs, x, rfl, _⟩ := h
    rfl
  · obtain ⟨e, F, rs, x, rfl, ⟨dx, l, ts, he, hR, _, _, _, hO⟩, h⟩ := h
    refine ⟨_, (pss_cons (ps_if (pt_not (pt_val (pe_call (ok_is_integer T) (hr.mono (by decide)) rfl T.g_is_integer T.F_is_integer.kp T.B_is_integer .nil pass0 (pa_cons (pv 1) pa_nil)))) (pss_one (ps_ret pe_non)) pss_nil)
      (pss_cons (ps_for PassesOwn.never rfl (pi_list (pe_fld (pv 0) rfl)) (pg_tup rfl (pgs_cons (pg_name (i := 2) S.nd rfl (Or.inl rfl)) (pgs_cons (pg_name (i := 3) S.nd rfl (Or.inl rfl)) pgs_nil))) (pss_one (ps_if (pt_chain op_le op_lt (pv 2) (pv 1) (pv 3)) (pss_one (ps_ret (pe_tup (pa_cons (pv 2) (pa_cons (pv 3) pa_nil))))) pss_nil)))
      (pss_one (ps_ret pe_non)))), ?_⟩
    refine st_Spans_holding ?_
    o_args
    rcases h with ⟨o, rfl, h⟩ | ⟨hx, k⟩
    · refine ⟨_, true, rfl, intK_int o, ?_⟩
      o_args
      refine fget he T.cl_Spans T.n_Spans__runs rfl ?_
      refine overL (SqL.of hR.1) (for_list (K := K) (a := l) (xs := ts.map V.ref) (fun i σ H' => ∃ a b, σ = [some (.ref e), some (.int o), a, b] ∧ H' = H ∧ ∀ r ∈ rs.take i, ¬ (r.1 ≤ o ∧ o < r.2)) ⟨none, none, rfl, rfl, fun _ h => nomatch h⟩ (fun i σ H' _ ⟨_, _, _, e, _⟩ => by rw [e]; exact SqL.of hR.1) ?_ ?_)
      · rintro i v σ H1 hv ⟨a, b, rfl, rfl, no⟩
        have il := getq_lt hv
        rw [List.length_map, hR.len] at il
        obtain ⟨t, _, e2, ht⟩ := hR.at (List.getElem?_eq_getElem il)
        rw [e2] at hv
        cases hv
        have tk : rs.take (i + 1) = rs.take i ++ [rs[i]] := by rw [List.take_succ, List.getElem?_eq_getElem il]; rfl
        have rm := List.getElem_mem il
        generalize rs[i] = r at tk ht rm
        refine two_to ht ?_
        o_args
        have skip : ¬ (r.1 ≤ o ∧ o < r.2) → ∀ q ∈ rs.take (i + 1), ¬ (q.1 ≤ o ∧ o < q.2) := fun c q hq => by
          rw [tk] at hq
          rcases List.mem_append.mp hq with hq | hq
          · exact no q hq
          · rw [List.mem_singleton.mp hq]; exact c
        have hit : r.1 ≤ o → o < r.2 → ∀ t H', Same H1 H' → H' t = some (.tup [.int r.1, .int r.2]) → Q (.ref t) H' := fun c1 c2 => by
          rcases h with ⟨q, hq, d1, d2, k⟩ | ⟨n, _⟩
          · have e := pair_uniq hO.nrm rm hq c1 c2 d1 d2
            rw [e]
            exact k
          · exact absurd ⟨r, rm, c1, c2⟩ n
        refine brD (fun c1 => ?_) (fun c1 => ?_)
        · o_args
          refine brD (fun c2 => ?_) (fun c2 => ?_)
          · o_args
            refine newTup (by simp) fun u H2 nu s2 h2 => ?_
            o_args
            exact hit c1 c2 u H2 s2 h2
          · o_args
            exact ⟨_, _, rfl, rfl, skip fun z => c2 z.2⟩
        · o_args
          exact ⟨_, _, rfl, rfl, skip fun z => c1 z.1⟩
      · rintro σ H1 ⟨a, b, rfl, rfl, no⟩
        rw [List.length_map, hR.len, List.take_length] at no
        o_args
        rcases h with ⟨q, hq, d1, d2, _⟩ | ⟨_, k⟩
        · exact absurd ⟨d1, d2⟩ (no q hq)
        · exact k
    · refine ⟨_, false, rfl, hx, ?_⟩
      o_args
      exact k
def sp_Spans_contains_ (K : PySem.W.Frag) (C : Addr) : Sp := fun vs H Q _ => ∃ (e : Addr) (F : List Addr) (rs : List Run) (x : V), vs = [.ref e, x] ∧ SpA C e F rs H ∧
  ((∃ o, x = .int o ∧ ∀ b H', Same H H' → (b = true ↔ Mem o rs) → Q (.bl b) H') ∨ (IntK K H x false ∧ Q (.bl false) H))
theorem ok_Spans_contains_ (T : Txt K mg) : FnOk P w K mg base CX0 3 T.a_Spans_contains_ T.fd_Spans_contains_ ["self", "offset"] (sp_Spans_contains_ K T.c_Spans) := by
  have S := sc_Spans_contains_
  refine T.F_Spans_contains_.ok S (fun vs H Q E h => ?_) (fun cdv A outer s H vs Q E hr h => ?_)
  · obtain ⟨e, F, rs, x, rfl, _⟩ := h
    rfl
  · obtain ⟨e, F, rs, x, rfl, hS, h⟩ := h
    obtain ⟨dx, l, ts, he, _⟩ := id hS
    refine ⟨_, (pss_one (ps_ret (pe_cmpR op_notN (pe_meth (pv 0) T.cl_Spans T.m_Spans_holding (ok_Spans_holding T) (hr.mono (by decide)) T.B_Spans_holding .nil pass0 (pa_cons (pv 1) pa_nil)) pe_non (nomark _)))), ?_⟩
    refine st_Spans_contains_ ?_
    o_args
    refine ⟨e, dx, _, rfl, he, rfl, ?_⟩
    o_args
    refine ⟨e, F, rs, x, rfl, hS, ?_⟩
    rcases h with ⟨o, rfl, k⟩ | ⟨hx, k⟩
    · refine .inl ⟨o, rfl, ?_⟩
      rcases Classical.em (Mem o rs) with m | m
      · obtain ⟨r, hr, c1, c2⟩ := id m
        refine .inl ⟨r, hr, c1, c2, fun t H' s ht => ?_⟩
        o_args
        exact k true H' s ⟨fun _ => m, fun _ => rfl⟩
      · refine .inr ⟨m, ?_⟩
        o_args
        exact k false H (Same.refl _) ⟨fun z => (nomatch z), fun z => absurd z m⟩
    · refine .inr ⟨hx, ?_⟩
      o_args
      exact k
/-- ends that make no run -/
def BadEnds (K : PySem.W.Frag) (H : Hp) (a b : V) : Prop := Less K H a 0 ∨ ∃ n, a = .int n ∧ 0 ≤ n ∧ Less K H b n
def sp_Spans_put (K : PySem.W.Frag) (C Ce : Addr) : Sp := fun vs H Q E => ∃ (e : Addr) (F : List Addr) (rs : List Run) (lo hi : V), vs = [.ref e, lo, hi] ∧ SpA C e F rs H ∧ rs.length < 20000 ∧
  ((∃ a b, lo = .int a ∧ hi = .int b ∧ 0 ≤ a ∧ a ≤ b ∧ ∀ H' rs', Ch [e] H H' → (∀ G, Al G H → e ∉ G → SpA C e G rs' H') → rs'.length ≤ rs.length + 1 → (∀ o, Mem o rs' ↔ Mem o rs ∨ a ≤ o ∧ o < b) → Q .non H') ∨ (BadEnds K H lo hi ∧ ErrT Ce lo hi H E))
theorem ok_Spans_put (T : Txt K mg) : FnOk P w K mg base (L2.CX P w) 4 T.a_Spans_put T.fd_Spans_put ["self", "low", "high"] (sp_Spans_put K T.c_Spans T.c_InvalidNumber) := by
  have S := sc_Spans_put
  refine T.F_Spans_put.okX S (fun vs H Q E h => ?_) (fun cdv A outer s H vs Q E hr h => ?_)
  · obtain ⟨e, F, rs, lo, hi, rfl, _⟩ := h
    rfl
  · obtain ⟨e, F, rs, lo, hi, rfl, ⟨dx, l, ts, he, hR, _, _, _, hO⟩, hz, h⟩ := h
    refine ⟨_, (pss_cons (ps_if (pt_not (pt_val (pe_call (ok_is_run T) (hr.mono (by decide)) rfl T.g_is_run T.F_is_run.kp T.B_is_run .nil pass0 (pa_cons (pe_tup (pa_cons (pv 1) (pa_cons (pv 2) pa_nil))) pa_nil)))) (pss_one (ps_raise rfl (takes_of rfl rfl rfl rfl) (pmk_oex T.X_InvalidNumber.o T.X_InvalidNumber.i T.X_InvalidNumber.t (ok_InvalidNumber_init_ T) (hr.mono (by decide)) T.B_InvalidNumber_init_ .nil pass0 rfl T.X_InvalidNumber.g (pa_cons (pe_tup (pa_cons (pv 1) (pa_cons (pv 2) pa_nil))) pa_nil)))) pss_nil)
      (pss_one (ps_fld (pv 0) (pe_call (ok_joined T) (hr.mono (by decide)) rfl T.g_joined T.F_joined.kp T.B_joined .nil pass0 (pa_cons (pe_lst (StX.pa_star (pe_fld (pv 0) rfl) (pa_cons (pe_tup (pa_cons (pv 1) (pa_cons (pv 2) pa_nil))) pa_nil))) pa_nil)) rfl))), ?_⟩
    refine st_Spans_put ?_
    o_args
    refine newTup (by simp) fun u H1 nu s1 h1 => ?_
    o_args
    rcases h with ⟨a, b, rfl, rfl, a0, ab, k⟩ | ⟨hb, hE⟩
    · refine ⟨_, rfl, .inl ⟨(a, b), ⟨u, rfl, .inl h1⟩, a0, ab, fun H2 s2 => ?_⟩⟩
      have S2 := s1.trans s2
      o_args
      refine fget (S2 _ _ he) T.cl_Spans T.n_Spans__runs rfl ?_
      have hR2 := hR.same S2
      refine ⟨l, _, rfl, .inr (SqL.of hR2.1), ?_⟩
      o_args
      refine newTup (by simp) fun v H3 nv s3 h3 => ?_
      o_args
      refine newList (by simp [hR.len]; omega) fun m H4 nm s4 h4 => ?_
      have hR4 := (hR2.same s3).same s4
      o_args
      have lnn := hR.len
      refine ⟨m, ts.map V.ref ++ [.ref v], rs ++ [(a, b)], rfl, SeqA.lst h4, by simp; omega, by simp; omega, fun i x p hx hp => ?_, fun l' ts' rs' H5 nl nt s5 r5 z5 n5 m5 lo5 => ?_⟩
      · by_cases il : i < rs.length
        · rw [List.getElem?_append_left (by simp; omega)] at hx
          rw [List.getElem?_append_left il] at hp
          obtain ⟨t, _, e2, ht⟩ := hR4.at hp
          rw [e2] at hx
          cases hx
          exact ⟨t, rfl, .inl ht⟩
        · rw [List.getElem?_append_right (by simp; omega)] at hx
          rw [List.getElem?_append_right (by omega)] at hp
          have ip := getq_lt hp
          simp at ip
          rw [show i - rs.length = 0 by omega] at hp
          rw [show i - (ts.map V.ref).length = 0 by simp; omega] at hx
          cases hx
          cases hp
          exact ⟨v, rfl, .inl (s4 _ _ h3)⟩
      · have S4 := (S2.trans s3).trans s4
        o_args
        refine fstore ((S4.trans s5) _ _ he) T.cl_Spans T.n_Spans__runs (Nat.le_of_ble_eq_true rfl) rfl fun H6 s6 h6 => ?_
        have tn : ∀ t ∈ ts', H t = none := fun t ht => none_of S4 (nt t ht)
        have ln : H l' = none := none_of S4 nl
        have np : ∀ {b}, H b = none → b ∉ [e] := fun n z => by rw [List.mem_singleton.mp z, he] at n; cases n
        o_args
        refine k H6 rs' ((Ch.of (S4.trans s5)).trans (Ch.ofX (by simp) s6 h6)) (fun G A eG => ⟨dx, l', ts', h6, r5.ch (Ch.ofX (by simp) s6 h6) (np ln) (fun t ht => np (tn t ht)), eG, A.new ln, fun t ht => A.new (tn t ht), n5, fun r hr => ?_⟩) (by simp at z5; exact z5) (fun o => ?_)
        · obtain ⟨p, hp, e⟩ := lo5 r hr
          rw [e]
          rcases List.mem_append.mp hp with hp | hp
          · exact hO.lo p hp
          · rw [List.mem_singleton.mp hp]; exact a0
        · rw [m5 o, Mem.app, Mem.one]
    · refine ⟨_, rfl, .inr ⟨.inr ⟨u, _, rfl, SeqA.tup h1, .inr ⟨lo, hi, rfl, hb.imp (fun h => h.same s1) fun ⟨n, e, n0, h⟩ => ⟨n, e, n0, h.same s1⟩⟩⟩, fun H2 s2 => ?_⟩⟩
      o_args
      refine x_mkO ?_
      o_args
      refine newTup (by simp) fun v H3 nv s3 h3 => ?_
      o_args
      exact mkO_of T.X_InvalidNumber.o T.nX_InvalidNumber fun d H4 nd ss hx => hE v d H4 (((s1.trans s2).trans s3).trans ss) (ss _ _ h3) hx
def sp_Spans_drop (K : PySem.W.Frag) (C Ce : Addr) : Sp := fun vs H Q E => ∃ (e : Addr) (F : List Addr) (rs : List Run) (lo hi : V), vs = [.ref e, lo, hi] ∧ SpA C e F rs H ∧ rs.length < 20000 ∧
  ((∃ a b, lo = .int a ∧ hi = .int b ∧ 0 ≤ a ∧ a ≤ b ∧ ∀ H' rs', Ch [e] H H' → (∀ G, Al G H → e ∉ G → SpA C e G rs' H') → rs'.length ≤ rs.length + 2 → (∀ o, Mem o rs' ↔ Mem o rs ∧ ¬ (a ≤ o ∧ o < b)) → Q .non H') ∨ (BadEnds K H lo hi ∧ ErrT Ce lo hi H E))
theorem ok_Spans_drop (T : Txt K mg) : FnOk P w K mg base (L2.CX P w) 4 T.a_Spans_drop T.fd_Spans_drop ["self", "low", "high"] (sp_Spans_drop K T.c_Spans T.c_InvalidNumber) := by
  have S := sc_Spans_drop
  refine T.F_Spans_drop.okX S (fun vs H Q E h => ?_) (fun cdv A outer s H vs Q E hr h => ?_)
  · obtain ⟨e, F, rs, lo, hi, rfl, _⟩ := h
    rfl
  · obtain ⟨e, F, rs, lo, hi, rfl, ⟨dx, l, ts, he, hR, _, _, _, hO⟩, hz, h⟩ := h
    refine ⟨_, (pss_cons (ps_if (pt_not (pt_val (pe_call (ok_is_run T) (hr.mono (by decide)) rfl T.g_is_run T.F_is_run.kp T.B_is_run .nil pass0 (pa_cons (pe_tup (pa_cons (pv 1) (pa_cons (pv 2) pa_nil))) pa_nil)))) (pss_one (ps_raise rfl (takes_of rfl rfl rfl rfl) (pmk_oex T.X_InvalidNumber.o T.X_InvalidNumber.i T.X_InvalidNumber.t (ok_InvalidNumber_init_ T) (hr.mono (by decide)) T.B_InvalidNumber_init_ .nil pass0 rfl T.X_InvalidNumber.g (pa_cons (pe_tup (pa_cons (pv 1) (pa_cons (pv 2) pa_nil))) pa_nil)))) pss_nil)
      (pss_one (ps_fld (pv 0) (pe_call (ok_without T) (hr.mono (by decide)) rfl T.g_without T.F_without.kp T.B_without .nil pass0 (pa_cons (pe_fld (pv 0) rfl) (pa_cons (pe_call (ok_joined T) (hr.mono (by decide)) rfl T.g_joined T.F_joined.kp T.B_joined .nil pass0 (pa_cons (pe_lst (pa_cons (pe_tup (pa_cons (pv 1) (pa_cons (pv 2) pa_nil))) pa_nil)) pa_nil)) pa_nil))) rfl))), ?_⟩
    refine st_Spans_drop ?_
    o_args
    refine newTup (by simp) fun u H1 nu s1 h1 => ?_
    o_args
    rcases h with ⟨a, b, rfl, rfl, a0, ab, k⟩ | ⟨hb, hE⟩
    · refine ⟨_, rfl, .inl ⟨(a, b), ⟨u, rfl, .inl h1⟩, a0, ab, fun H2 s2 => ?_⟩⟩
      have S2 := s1.trans s2
      o_args
      refine fget (S2 _ _ he) T.cl_Spans T.n_Spans__runs rfl ?_
      have hR2 := hR.same S2
      o_args
      refine newTup (by simp) fun v H3 nv s3 h3 => ?_
      o_args
      refine newList (by simp) fun m H4 nm s4 h4 => ?_
      have hR4 := (hR2.same s3).same s4
      o_args
      refine ⟨m, [.ref v], [(a, b)], rfl, SeqA.lst h4, by simp, by simp, fun i x p hx hp => ?_, fun l' ts' rs' H5 nl nt s5 r5 z5 n5 m5 lo5 => ?_⟩
      · have ip := getq_lt hp
        simp at ip
        subst ip
        cases hx
        cases hp
        exact ⟨v, rfl, .inl (s4 _ _ h3)⟩
      · o_args
        simp at z5
        refine ⟨l, l', ts, ts', rs, rs', rfl, hR4.same s5, r5, hO, n5, by omega, by omega, fun l2 us out H6 nl2 nu2 s6 r6 z6 n6 m6 => ?_⟩
        have S5 := (((S2.trans s3).trans s4).trans s5)
        o_args
        refine fstore ((S5.trans s6) _ _ he) T.cl_Spans T.n_Spans__runs (Nat.le_of_ble_eq_true rfl) rfl fun H7 s7 h7 => ?_
        have tn : ∀ t ∈ us, H t = none := fun t ht => none_of S5 (nu2 t ht)
        have ln : H l2 = none := none_of S5 nl2
        have np : ∀ {b}, H b = none → b ∉ [e] := fun n z => by rw [List.mem_singleton.mp z, he] at n; cases n
        o_args
        refine k H7 out ((Ch.of (S5.trans s6)).trans (Ch.ofX (by simp) s7 h7)) (fun G A eG => ⟨dx, l2, us, h7, r6.ch (Ch.ofX (by simp) s7 h7) (np ln) (fun t ht => np (tn t ht)), eG, A.new ln, fun t ht => A.new (tn t ht), n6⟩) (by omega) (fun o => ?_)
        rw [m6 o, m5 o, Mem.one]
    · refine ⟨_, rfl, .inr ⟨.inr ⟨u, _, rfl, SeqA.tup h1, .inr ⟨lo, hi, rfl, hb.imp (fun h => h.same s1) fun ⟨n, e, n0, h⟩ => ⟨n, e, n0, h.same s1⟩⟩⟩, fun H2 s2 => ?_⟩⟩
      o_args
      refine x_mkO ?_
      o_args
      refine newTup (by simp) fun v H3 nv s3 h3 => ?_
      o_args
      exact mkO_of T.X_InvalidNumber.o T.nX_InvalidNumber fun d H4 nd ss hx => hE v d H4 (((s1.trans s2).trans s3).trans ss) (ss _ _ h3) hx
/-! the history of a set -/
abbrev Deed := Bool × Int × Int
def hasF (hist : List Deed) (o : Int) : Bool := hist.foldl (fun b d => if d.2.1 ≤ o ∧ o < d.2.2 then d.1 else b) false
theorem hasF_snoc {hist : List Deed} {d : Deed} {o : Int} : hasF (hist ++ [d]) o = if d.2.1 ≤ o ∧ o < d.2.2 then d.1 else hasF hist o := by
  unfold hasF
  rw [List.foldl_append]
  rfl
theorem hasF_cov : ∀ {hist : List Deed} {o : Int}, hasF hist o = true → ∃ d ∈ hist, d.2.1 ≤ o ∧ o < d.2.2 := by
  intro hist o
  suffices h : ∀ (hist : List Deed) (b : Bool), hist.foldl (fun b d => if d.2.1 ≤ o ∧ o < d.2.2 then d.1 else b) b = true → b = true ∨ ∃ d ∈ hist, d.2.1 ≤ o ∧ o < d.2.2 from fun e => (h hist false e).resolve_left (fun z => nomatch z)
  intro hist
  induction hist with
  | nil => exact fun b h => .inl h
  | cons d r ih =>
    intro b h
    rcases ih _ h with e | ⟨q, hq, c⟩
    · by_cases c : d.2.1 ≤ o ∧ o < d.2.2
      · exact .inr ⟨d, List.mem_cons_self, c⟩
      · exact .inl (by rw [← e]; exact (if_neg c).symm)
    · exact .inr ⟨q, List.mem_cons_of_mem _ hq, c⟩
theorem hasF_eq {hist : List Deed} {o p : Int} (h : ∀ d ∈ hist, (d.2.1 ≤ o ∧ o < d.2.2) ↔ (d.2.1 ≤ p ∧ p < d.2.2)) : hasF hist o = hasF hist p := by
  unfold hasF
  suffices g : ∀ (hist : List Deed) (b : Bool), (∀ d ∈ hist, (d.2.1 ≤ o ∧ o < d.2.2) ↔ (d.2.1 ≤ p ∧ p < d.2.2)) → hist.foldl (fun b d => if d.2.1 ≤ o ∧ o < d.2.2 then d.1 else b) b = hist.foldl (fun b d => if d.2.1 ≤ p ∧ p < d.2.2 then d.1 else b) b from g hist false h
  intro hist
  induction hist with
  | nil => exact fun _ _ => rfl
  | cons d r ih =>
    intro b h
    have e := h d List.mem_cons_self
    rw [List.foldl_cons, List.foldl_cons]
    by_cases c : d.2.1 ≤ o ∧ o < d.2.2
    · rw [if_pos c, if_pos (e.mp c)]; exact ih _ fun q hq => h q (List.mem_cons_of_mem _ hq)
    · rw [if_neg c, if_neg (fun z => c (e.mpr z))]; exact ih _ fun q hq => h q (List.mem_cons_of_mem _ hq)
/-- the ends in order -/
structure Ends' (hist : List Deed) (es : List Int) : Prop where
  so : es.Pairwise (· ≤ ·)
  lo : ∀ d ∈ hist, d.2.1 ∈ es ∧ d.2.2 ∈ es
theorem Ends'.gap {hist : List Deed} {es : List Int} (E : Ends' hist es) {k : Nat} {low high : Int} (hl : es[k]? = some low) (hh : es[k + 1]? = some high) : low ≤ high ∧ ∀ x ∈ es, x ≤ low ∨ high ≤ x := by
  have lk := (List.getElem?_eq_some_iff.mp hh).1
  have e1 := (List.getElem?_eq_some_iff.mp hl).2
  have e2 := (List.getElem?_eq_some_iff.mp hh).2
  have P := List.pairwise_iff_getElem.mp E.so
  refine ⟨by have := P k (k + 1) (by omega) lk (by omega); omega, fun x hx => ?_⟩
  obtain ⟨i, hi, e⟩ := List.mem_iff_getElem.mp hx
  rcases Nat.lt_trichotomy i k with c | c | c
  · left; have := P i k hi (by omega) c; omega
  · left; subst c; omega
  · right
    by_cases d : i = k + 1
    · subst d; omega
    · have := P (k + 1) i lk hi (by omega); omega
theorem Ends'.flat {hist : List Deed} {es : List Int} (E : Ends' hist es) {k : Nat} {low high : Int} (hl : es[k]? = some low) (hh : es[k + 1]? = some high) : ∀ o, low ≤ o → o < high → hasF hist o = hasF hist low := fun o c1 c2 => hasF_eq fun d hd => by
  obtain ⟨_, g⟩ := E.gap hl hh
  obtain ⟨h1, h2⟩ := E.lo d hd
  have := g _ h1
  have := g _ h2
  omega
theorem Ends'.first {hist : List Deed} {es : List Int} (E : Ends' hist es) {e0 : Int} (h0 : es[0]? = some e0) : ∀ x ∈ es, e0 ≤ x := fun x hx => by
  obtain ⟨i, hi, e⟩ := List.mem_iff_getElem.mp hx
  have e1 := (List.getElem?_eq_some_iff.mp h0).2
  have P := List.pairwise_iff_getElem.mp E.so
  rcases Nat.eq_zero_or_pos i with c | c
  · subst c; omega
  · have := P 0 i (by omega) hi c; omega
theorem Ends'.last {hist : List Deed} {es : List Int} (E : Ends' hist es) {n : Nat} {e1 : Int} (hn : es.length = n + 1) (h1 : es[n]? = some e1) : ∀ x ∈ es, x ≤ e1 := fun x hx => by
  obtain ⟨i, hi, e⟩ := List.mem_iff_getElem.mp hx
  have e1' := (List.getElem?_eq_some_iff.mp h1).2
  have P := List.pairwise_iff_getElem.mp E.so
  by_cases c : i = n
  · subst c; omega
  · have := P i n hi (by omega) (by omega); omega
/-- behind the last end the list is due -/
theorem Ends'.done {hist : List Deed} {es : List Int} {due : List Run} (E : Ends' hist es) (D : Due (hasF hist) es (es.length - 1) due) : ∀ o, Mem o due ↔ hasF hist o = true := fun o => by
  rw [D.mem o]
  refine ⟨fun h => h.1, fun h => ⟨h, ?_⟩⟩
  obtain ⟨d, hd, c1, c2⟩ := hasF_cov h
  obtain ⟨m1, m2⟩ := E.lo d hd
  have ln : 0 < es.length := List.length_pos_of_mem m1
  have h0 : es[0]? = some es[0] := List.getElem?_eq_getElem ln
  have h1 : es[es.length - 1]? = some es[es.length - 1] := List.getElem?_eq_getElem (by omega)
  have a := E.first h0 _ m1
  have b := E.last (n := es.length - 1) (by omega) h1 _ m2
  exact ⟨_, _, h0, h1, by omega, by omega⟩
theorem addDue_nil {low high : Int} : addDue low high [] = [(low, high)] := rfl
theorem addDue_snoc {low high : Int} {a : List Run} {r : Run} : addDue low high (a ++ [r]) = if r.2 = low then a ++ [(r.1, high)] else a ++ [r] ++ [(low, high)] := by
  unfold addDue
  rw [List.getLast?_concat, List.dropLast_concat]
theorem x_callS {σ : L2.St} {H : Hp} {Q : VK} {sp : Sp} {E : L2.St → XK} {t : TA} (q : t σ H fun vs H1 => sp vs H1 Q (E σ)) : tCallS sp E t σ H Q := q
theorem x_con {K : PySem.W.Frag} {te : TE} {f : Str} {σ : L2.St} {H : Hp} {Q : VK} (q : te σ H fun x H1 => ∃ a C dx fs v u, x = .ref a ∧ H1 a = some (.ins C dx fs) ∧ Cls K C ∧ Con K C f v u ∧ fs.lookup f = none ∧ Q v H1) : tCon K te f σ H Q := q
theorem x_neB {i j : Bool} {H : Hp} {Q : VK} (q : Q (.bl (!decide (i = j))) H) : rNe (.bl i) (.bl j) H Q := ⟨rfl, by
  have e : decide (V.bl i = V.bl j) = decide (i = j) := by cases i <;> cases j <;> decide +kernel
  rw [e]; exact q⟩
theorem x_eqB {i j : Bool} {H : Hp} {Q : VK} (q : Q (.bl (decide (i = j))) H) : rEq (.bl i) (.bl j) H Q := ⟨rfl, by
  have e : decide (V.bl i = V.bl j) = decide (i = j) := by cases i <;> cases j <;> decide +kernel
  rw [e]; exact q⟩
local macro_rules
  | `(tactic| w_up) => `(tactic| first | with_reducible refine x_callS ?_ | with_reducible refine x_con ?_ | with_reducible refine x_neB ?_ | with_reducible refine x_eqB ?_)
/-! ### what is drawn -/
def sp__law_is_whole : Sp := fun vs H Q _ => ∃ (i : Int), vs = [.int i] ∧ Q (.bl true) H
theorem ok__law_is_whole (T : Txt K mg) : FnOk P w K mg base CX0 1 T.a__law_is_whole T.fd__law_is_whole ["value"] (sp__law_is_whole) := by
  have S := sc__law_is_whole
  refine T.F__law_is_whole.ok S (fun vs H Q E h => ?_) (fun cdv A outer s H vs Q E hr h => ?_)
  · obtain ⟨i, rfl, _⟩ := h
    rfl
  · obtain ⟨i, rfl, k⟩ := h
    refine ⟨_, (pss_one (ps_ret (pe_and (pe_callB (id := "isinstance") call_isi (by rfl) T.b_isinstance (by decide +kernel) (pa_cons (pv 0) (pa_cons (pe_bltn (v := .ty "int") (u := .type "int") (by rfl) T.b_int (by decide +kernel) rfl) pa_nil))) (pe_one (pe_not (pe_callB (id := "isinstance") call_isi (by rfl) T.b_isinstance (by decide +kernel) (pa_cons (pv 0) (pa_cons (pe_bltn (v := .ty "bool") (u := .type "bool") (by rfl) T.b_bool (by decide +kernel) rfl) pa_nil)))))))), ?_⟩
    refine st__law_is_whole ?_
    o_args
    refine ⟨_, _, _, _, true, rfl, .ty _, .base (.int i), kit_ty (by decide +kernel), ?_⟩
    o_args
    refine ⟨_, _, _, _, false, rfl, .ty _, .base (.int i), kit_ty (by decide +kernel), ?_⟩
    o_args
    exact k
/-- at n: a list of ints -/
def IntL (n : Addr) (ns : List Int) (H : Hp) : Prop := H n = some (.lst (ns.map V.int))
def sp__law_end : Sp := fun vs H Q _ => ∃ (a n : Addr) (F : List Addr) (ns : List Int), vs = [.ref a, .ref n] ∧ Box a F H ∧ n ∈ F ∧ IntL n ns H ∧ ns.length < 50000 ∧ ∀ d H', 0 ≤ d → d ≤ 999999999900 → Box a F H' → Ch [a] H H' → Q (.int d) H'
theorem ok__law_end (T : Txt K mg) : FnOk P w K mg base CX0 2 T.a__law_end T.fd__law_end ["box", "ends"] (sp__law_end) := by
  have S := sc__law_end
  refine T.F__law_end.ok S (fun vs H Q E h => ?_) (fun cdv A outer s H vs Q E hr h => ?_)
  · obtain ⟨a, n, F, ns, rfl, _⟩ := h
    rfl
  · obtain ⟨a, n, F, ns, rfl, B, nF, hN, hz, k⟩ := h
    have na : n ∉ [a] := fun z => B.nin ((List.mem_singleton.mp z) ▸ nF)
    refine ⟨_, (pss_cons (ps_set (i := 2) S.nd rfl (Or.inl rfl) (pe_call (ok__law_draw T) (hr.mono (by decide)) rfl T.g__law_draw T.F__law_draw.kp T.B__law_draw .nil pass0 (pa_cons (pv 0) (pa_cons pe_int pa_nil))))
      (C8.pss_cut (ps_if (PW.pt (pw_and (pt_cmpR op_eq (pv 2) pe_int (nomark _)) (pw_and1 (pt_cmpR (op_neD hr.units) (pv 1) (pe_lst pa_nil) (nomark _))))) (pss_cons (ps_set (i := 3) S.nd rfl (Or.inl rfl) (pe_op op_sub (pe_op op_add (pe_ix ix_list (pv 1) (pe_call (ok__law_draw T) (hr.mono (by decide)) rfl T.g__law_draw T.F__law_draw.kp T.B__law_draw .nil pass0 (pa_cons (pv 0) (pa_cons (pe_callB (id := "len") (call_lenK (K := K) rfl) (by rfl) T.b_len (by decide +kernel) (pa_cons (pv 1) pa_nil)) pa_nil))) (fun _ _ => rfl)) (pe_call (ok__law_draw T) (hr.mono (by decide)) rfl T.g__law_draw T.F__law_draw.kp T.B__law_draw .nil pass0 (pa_cons (pv 0) (pa_cons pe_int pa_nil)))) pe_int))
      (pss_one (ps_ret (pe_callB (id := "min") (call_min2K rfl) (by rfl) T.b_min (by decide +kernel) (pa_cons (pe_callB (id := "max") (call_max2K rfl) (by rfl) T.b_max (by decide +kernel) (pa_cons (pv 3) (pa_cons pe_int pa_nil))) (pa_cons pe_int pa_nil)))))) pss_nil)
      (pss_cons (ps_if (pt_cmpR op_eq (pv 2) pe_int (nomark _)) (pss_cons (ps_set (i := 4) S.nd rfl (Or.inl rfl) (pe_call (ok__law_draw T) (hr.mono (by decide)) rfl T.g__law_draw T.F__law_draw.kp T.B__law_draw .nil pass0 (pa_cons (pv 0) (pa_cons pe_int pa_nil))))
      (pss_one (ps_ret (pe_callB (id := "min") (call_min2K rfl) (by rfl) T.b_min (by decide +kernel) (pa_cons (pe_op op_add (pe_op op_mul (pv 4) pe_int) (pe_call (ok__law_draw T) (hr.mono (by decide)) rfl T.g__law_draw T.F__law_draw.kp T.B__law_draw .nil pass0 (pa_cons (pv 0) (pa_cons pe_int pa_nil)))) (pa_cons pe_int pa_nil)))))) pss_nil)
      (pss_cons (ps_if (pt_cmpR op_eq (pv 2) pe_int (nomark _)) (pss_one (ps_ret (pe_call (ok__law_draw T) (hr.mono (by decide)) rfl T.g__law_draw T.F__law_draw.kp T.B__law_draw .nil pass0 (pa_cons (pv 0) (pa_cons pe_int pa_nil))))) pss_nil)
      (pss_one (ps_ret (pe_call (ok__law_draw T) (hr.mono (by decide)) rfl T.g__law_draw T.F__law_draw.kp T.B__law_draw .nil pass0 (pa_cons (pv 0) (pa_cons pe_int pa_nil))))))))), ?_⟩
    refine st__law_end ?_
    o_args
    refine ⟨a, F, 4, rfl, B, by decide, by decide, fun way H1 w0 w1 B1 c1 => ?_⟩
    have h1 := c1.at na hN
    o_args
    refine ⟨fun σ H' => σ = [some (.ref a), some (.ref n), some (.int way), none, none] ∧ Box a F H' ∧ Ch [a] H H', ?_, ?_⟩
    · o_args
      refine brD (fun q => ?_) (fun q => ?_)
      · o_args
        refine newList (by simp) fun e H2 ne s2 h2 => ?_
        o_args
        refine neLL (xs := ns) (ys := []) (SqL.of (s2 _ _ h1)) (SqL.of h2) ?_
        o_args
        refine brD (fun q2 => ?_) (fun q2 => ?_)
        · o_args
          exact ⟨rfl, B1.same s2, c1.trans (Ch.of s2)⟩
        · have nl : 0 < ns.length := by
            cases ns with
            | nil => exact absurd rfl q2
            | cons x r => exact Nat.succ_pos _
          have B2 := B1.same s2
          have n2 := s2 _ _ h1
          o_args
          refine lenA (.inl (SqL.of n2)) ?_
          o_args
          refine ⟨a, F, _, rfl, B2, by rw [List.length_map]; omega, by rw [List.length_map]; omega, fun j H3 j0 j1 B3 c3 => ?_⟩
          rw [List.length_map] at j1
          have n3 := c3.at na n2
          obtain ⟨jn, rfl⟩ : ∃ i : Nat, j = i := ⟨j.toNat, by omega⟩
          have jl : jn < ns.length := by omega
          o_args
          refine ixL n3 (show (ns.map V.int)[jn]? = some (.int ns[jn]) by rw [List.getElem?_map, List.getElem?_eq_getElem jl]; rfl) ?_
          generalize ns[jn] = x
          o_args
          refine ⟨a, F, 3, rfl, B3, by decide, by decide, fun d H4 d0 d1 B4 c4 => ?_⟩
          o_args
          exact k _ H4 (by omega) (by omega) B4 (((c1.trans (Ch.of s2)).trans c3).trans c4)
      · o_args
        exact ⟨rfl, B1, c1⟩
    rintro σ H2 ⟨rfl, B2, c2⟩
    o_args
    refine brD (fun q => ?_) (fun q => ?_)
    · o_args
      refine ⟨a, F, _, rfl, B2, by decide, by decide, fun u H3 u0 u1 B3 c3 => ?_⟩
      o_args
      refine ⟨a, F, _, rfl, B3, by decide, by decide, fun d H4 d0 d1 B4 c4 => ?_⟩
      o_args
      exact k _ H4 (by omega) (by omega) B4 ((c2.trans c3).trans c4)
    o_args
    refine brD (fun q => ?_) (fun q => ?_)
    · o_args
      refine ⟨a, F, _, rfl, B2, by decide, by decide, fun u H3 u0 u1 B3 c3 => ?_⟩
      o_args
      exact k _ H3 (by omega) (by omega) B3 (c2.trans c3)
    o_args
    refine ⟨a, F, _, rfl, B2, by decide, by decide, fun u H3 u0 u1 B3 c3 => ?_⟩
    o_args
    exact k _ H3 (by omega) (by omega) B3 (c2.trans c3)
def sp__law_pair : Sp := fun vs H Q _ => ∃ (a n : Addr) (F : List Addr) (ns : List Int), vs = [.ref a, .ref n] ∧ Box a F H ∧ n ∈ F ∧ IntL n ns H ∧ ns.length < 40000 ∧
  ∀ t lo hi ns' H', H t = none → 0 ≤ lo → lo ≤ hi → hi ≤ 999999999900 → H' t = some (.tup [.int lo, .int hi]) → IntL n ns' H' → ns'.length = ns.length + 2 → Box a F H' → Ch [a, n] H H' → Q (.ref t) H'
theorem ok__law_pair (T : Txt K mg) : FnOk P w K mg base CX0 3 T.a__law_pair T.fd__law_pair ["box", "ends"] (sp__law_pair) := by
  have S := sc__law_pair
  refine T.F__law_pair.ok S (fun vs H Q E h => ?_) (fun cdv A outer s H vs Q E hr h => ?_)
  · obtain ⟨a, n, F, ns, rfl, _⟩ := h
    rfl
  · obtain ⟨a, n, F, ns, rfl, B, nF, hN, hz, k⟩ := h
    have na : n ∉ [a] := fun z => B.nin ((List.mem_singleton.mp z) ▸ nF)
    refine ⟨_, (pss_cons (ps_set (i := 2) S.nd rfl (Or.inl rfl) (pe_call (ok__law_end T) (hr.mono (by decide)) rfl T.g__law_end T.F__law_end.kp T.B__law_end .nil pass0 (pa_cons (pv 0) (pa_cons (pv 1) pa_nil))))
      (pss_cons (ps_expr (pe_bm PySem.F.plainAttrs_list PySem.F.slot_list_append PySem.F.type_list_append mt_append (pv 1) (pa_cons (pv 2) pa_nil)))
      (pss_cons (ps_set (i := 3) S.nd rfl (Or.inl rfl) (pe_call (ok__law_end T) (hr.mono (by decide)) rfl T.g__law_end T.F__law_end.kp T.B__law_end .nil pass0 (pa_cons (pv 0) (pa_cons (pv 1) pa_nil))))
      (pss_cons (ps_expr (pe_bm PySem.F.plainAttrs_list PySem.F.slot_list_append PySem.F.type_list_append mt_append (pv 1) (pa_cons (pv 3) pa_nil)))
      (pss_one (ps_ret (pe_tup (pa_cons (pe_callB (id := "min") (call_min2K rfl) (by rfl) T.b_min (by decide +kernel) (pa_cons (pv 2) (pa_cons (pv 3) pa_nil))) (pa_cons (pe_callB (id := "max") (call_max2K rfl) (by rfl) T.b_max (by decide +kernel) (pa_cons (pv 2) (pa_cons (pv 3) pa_nil))) pa_nil))))))))), ?_⟩
    refine st__law_pair ?_
    o_args
    refine ⟨a, n, F, ns, rfl, B, nF, hN, by omega, fun one H1 o0 o1 B1 c1 => ?_⟩
    have h1 : H1 n = some (.lst (ns.map V.int)) := c1.at na hN
    o_args
    refine ⟨isList h1, ?_⟩
    o_args
    refine appList h1 (by rw [List.length_map]; omega) fun H2 s2 h2 => ?_
    have c2 : Ch [n] H1 H2 := Ch.ofX (by simp) s2 h2
    have B2 := B1.ch c2 (by simp [nF])
    have h2 : IntL n (ns ++ [one]) H2 := by rw [IntL, h2, List.map_append]; rfl
    o_args
    refine ⟨a, n, F, _, rfl, B2, nF, h2, by simp; omega, fun two H3 t0 t1 B3 c3 => ?_⟩
    have h3 : H3 n = some (.lst ((ns ++ [one]).map V.int)) := c3.at na h2
    o_args
    refine ⟨isList h3, ?_⟩
    o_args
    refine appList h3 (by simp; omega) fun H4 s4 h4 => ?_
    have c4 : Ch [n] H3 H4 := Ch.ofX (by simp) s4 h4
    have B4 := B3.ch c4 (by simp [nF])
    have C : Ch [a, n] H H4 := (((c1.more (by simp)).trans (c2.more (by simp))).trans (c3.more (by simp))).trans (c4.more (by simp))
    o_args
    refine newTup (by simp) fun t H5 nt s5 h5 => ?_
    o_args
    exact k t _ _ (ns ++ [one] ++ [two]) H5 (C.none nt) (by omega) (by omega) (by omega) h5 (by rw [IntL, s5 _ _ h4, List.map_append (l₂ := [two])]; rfl) (by simp) (B4.same s5) (C.trans (Ch.of s5))
/-! ### the history -/
def Hist (H : Hp) (ts : List Addr) (hs : List Deed) : Prop := ts.length = hs.length ∧ ∀ (i : Nat) t d, ts[i]? = some t → hs[i]? = some d → H t = some (.tup [.bl d.1, .int d.2.1, .int d.2.2])
/-- at h: the list of what was done -/
def HistA (h : Addr) (F : List Addr) (hs : List Deed) (H : Hp) : Prop := ∃ ts, H h = some (.lst (ts.map V.ref)) ∧ Hist H ts hs ∧ h ∉ F ∧ ∀ t ∈ ts, t ∉ F
section
variable {H H' : Hp} {ts F G : List Addr} {hs : List Deed} {t h x : Addr} {d : Deed}
theorem Hist.ch (A : Hist H ts hs) (c : Ch G H H') (n : ∀ t ∈ ts, t ∉ G) : Hist H' ts hs := ⟨A.1, fun i t r h1 h2 => c.at (n t (List.mem_of_getElem? h1)) (A.2 i t r h1 h2)⟩
theorem Hist.snoc (A : Hist H ts hs) (e : H t = some (.tup [.bl d.1, .int d.2.1, .int d.2.2])) : Hist H (ts ++ [t]) (hs ++ [d]) := ⟨by rw [List.length_append, List.length_append, A.1]; rfl, fun i a b h1 h2 => by
  rcases getq_app h1 with ⟨c, h1⟩ | ⟨c, z⟩
  · rw [List.getElem?_append_left (by have := A.1; omega)] at h2
    exact A.2 i a b h1 h2
  · subst z
    rw [c, A.1, List.getElem?_append_right (Nat.le_refl _), Nat.sub_self] at h2
    cases h2
    exact e⟩
theorem Hist.at (A : Hist H ts hs) {i : Nat} (e : hs[i]? = some d) : ∃ t, ts[i]? = some t ∧ (ts.map V.ref)[i]? = some (.ref t) ∧ H t = some (.tup [.bl d.1, .int d.2.1, .int d.2.2]) := by
  have l1 := getq_lt e
  have l2 : i < ts.length := by have := A.1; omega
  exact ⟨ts[i], List.getElem?_eq_getElem l2, by rw [List.getElem?_map, List.getElem?_eq_getElem l2]; rfl, A.2 i _ d (List.getElem?_eq_getElem l2) e⟩
theorem Hist.there (A : Hist H ts hs) (m : t ∈ ts) : ∃ d : Deed, H t = some (.tup [.bl d.1, .int d.2.1, .int d.2.2]) := by
  obtain ⟨i, hi⟩ := List.mem_iff_getElem?.mp m
  have l1 := getq_lt hi
  have l2 : i < hs.length := by have := A.1; omega
  exact ⟨_, A.2 i t hs[i] hi (List.getElem?_eq_getElem l2)⟩
theorem HistA.ch (A : HistA h F hs H) (c : Ch G H H') (n : ∀ b ∈ G, b ∈ F) : HistA h F hs H' := by
  obtain ⟨ts, h1, h2, h3, h4⟩ := A
  exact ⟨ts, c.at (fun z => h3 (n _ z)) h1, h2.ch c (fun t ht z => h4 t ht (n _ z)), h3, h4⟩
theorem HistA.same (A : HistA h F hs H) (s : Same H H') : HistA h F hs H' := A.ch (Ch.of (G := []) s) (fun _ h => nomatch h)
theorem HistA.own (A : HistA h F hs H) (hx : H x = none) (s : Same H H') : HistA h (x :: F) hs H' := by
  obtain ⟨ts, h1, h2, h3, h4⟩ := A
  refine ⟨ts, s _ _ h1, h2.ch (Ch.of (G := []) s) (fun _ _ z => nomatch z), fun z => ?_, fun t ht z => ?_⟩
  · rcases List.mem_cons.mp z with z | z
    · rw [z, hx] at h1; cases h1
    · exact h3 z
  · rcases List.mem_cons.mp z with z | z
    · obtain ⟨d, e⟩ := h2.there ht
      rw [z, hx] at e; cases e
    · exact h4 t ht z
theorem HistA.less (A : HistA h F hs H) (n : ∀ b ∈ G, b ∈ F) : HistA h G hs H := by
  obtain ⟨ts, h1, h2, h3, h4⟩ := A
  exact ⟨ts, h1, h2, fun z => h3 (n _ z), fun t ht z => h4 t ht (n _ z)⟩
theorem HistA.at_ (A : HistA h F hs H) : ∃ o, H h = some o := by
  obtain ⟨ts, h1, _⟩ := A
  exact ⟨_, h1⟩
/-- one more: what was appended is new -/
theorem HistA.push {H1 H2 : Hp} {ts : List Addr} (h1 : H h = some (.lst (ts.map V.ref))) (A : Hist H ts hs) (hF : h ∉ F) (tF : ∀ t ∈ ts, t ∉ F) (al : Al F H) (nt : H t = none) (s : Same H H1) (ht : H1 t = some (.tup [.bl d.1, .int d.2.1, .int d.2.2])) (x : SameX h H1 H2) (e : H2 h = some (.lst (ts.map V.ref ++ [.ref t]))) : HistA h F (hs ++ [d]) H2 := by
  have c : Ch [h] H H2 := (Ch.of s).trans (Ch.ofX (by simp) x e)
  have th : t ≠ h := (ne_of_none h1 nt).symm
  have ne : ∀ t ∈ ts, t ∉ [h] := fun t ht z => by
    obtain ⟨d, q⟩ := A.there ht
    rw [List.mem_singleton.mp z, h1] at q
    cases q
  refine ⟨ts ++ [t], by rw [e, List.map_append]; rfl, (A.ch c ne).snoc (x _ _ th ht), hF, fun u hu => ?_⟩
  rcases List.mem_append.mp hu with hu | hu
  · exact tF u hu
  · rw [List.mem_singleton.mp hu]; exact al.new nt
end
def sp__law_has (K : PySem.W.Frag) : Sp := fun vs H Q _ => ∃ (h : Addr) (F : List Addr) (hs : List Deed) (o : Int), vs = [.ref h, .int o] ∧ HistA h F hs H ∧ Q (.bl (hasF hs o)) H
theorem ok__law_has (T : Txt K mg) : FnOk P w K mg base CX0 1 T.a__law_has T.fd__law_has ["history", "offset"] (sp__law_has K) := by
  have S := sc__law_has
  refine T.F__law_has.ok S (fun vs H Q E h => ?_) (fun cdv A outer s H vs Q E hr h => ?_)
  · obtain ⟨h, F, hs, o, rfl, _⟩ := h
    rfl
  · obtain ⟨h, F, hs, o, rfl, ⟨ts, h1, A, _⟩, k⟩ := h
    refine ⟨_, (pss_cons (ps_set (i := 2) S.nd rfl (Or.inl rfl) pe_bl)
      (pss_cons (ps_for PassesOwn.never rfl (pi_list (pv 0)) (pg_name (i := 3) S.nd rfl (Or.inl rfl)) (pss_one (ps_if (pt_chain op_le op_lt (pe_ix ix_tup (pv 3) pe_int (fun _ _ => rfl)) (pv 1) (pe_ix ix_tup (pv 3) pe_int (fun _ _ => rfl))) (pss_one (ps_set (i := 2) S.nd rfl (Or.inl rfl) (pe_ix ix_tup (pv 3) pe_int (fun _ _ => rfl)))) pss_nil)))
      (pss_one (ps_ret (pv 2))))), ?_⟩
    refine st__law_has ?_
    o_args
    refine overL (SqL.of h1) (for_list (K := K) (a := h) (xs := ts.map V.ref) (fun i σ H' => ∃ v, σ = [some (.ref h), some (.int o), some (.bl (hasF (hs.take i) o)), v] ∧ H' = H) ⟨none, rfl, rfl⟩ (fun i σ H' _ ⟨_, _, e⟩ => by rw [e]; exact SqL.of h1) ?_ ?_)
    · rintro i x σ H' hx ⟨v, rfl, rfl⟩
      have il := getq_lt hx
      rw [List.length_map, A.1] at il
      obtain ⟨t, _, e, ht⟩ := A.at (List.getElem?_eq_getElem il)
      rw [e] at hx
      cases hx
      have tk : hasF (hs.take (i + 1)) o = if hs[i].2.1 ≤ o ∧ o < hs[i].2.2 then hs[i].1 else hasF (hs.take i) o := by
        rw [List.take_succ, List.getElem?_eq_getElem il]
        exact hasF_snoc
      generalize hs[i] = d at ht tk
      o_args
      refine brD (fun c1 => ?_) (fun c1 => ?_)
      · o_args
        refine brD (fun c2 => ?_) (fun c2 => ?_)
        · o_args
          exact ⟨_, by rw [tk, if_pos ⟨c1, c2⟩], rfl⟩
        · o_args
          exact ⟨_, by rw [tk, if_neg (fun z => c2 z.2)], rfl⟩
      · o_args
        exact ⟨_, by rw [tk, if_neg (fun z => c1 z.1)], rfl⟩
    · rintro σ H' ⟨v, rfl, rfl⟩
      rw [List.length_map, A.1, List.take_length]
      o_args
      exact k
/-- the data of a list of pairs -/
def pData (rs : List Run) : PyData := .list (rs.map fun r => .tuple [.int r.1, .int r.2])
theorem dp_pairs {K : PySem.W.Frag} {H : Hp} : ∀ {ts : List Addr} {rs : List Run}, Tups H ts rs → DpAll K H (ts.map V.ref) (rs.map fun r => .tuple [.int r.1, .int r.2])
  | [], [], _ => .nil
  | [], _ :: _, h => nomatch h.1
  | _ :: _, [], h => nomatch h.1
  | t :: ts, r :: rs, h => .cons (.tup (SqT.of (h.2 0 t r rfl rfl)) (.cons (.int _) (.cons (.int _) .nil))) (dp_pairs ⟨Nat.succ.inj h.1, fun i a b h1 h2 => h.2 (i + 1) a b h1 h2⟩)
theorem lay_pairs : ∀ rs : List Run, PyData.canLayAll0 (rs.map fun r => .tuple [.int r.1, .int r.2]) = true ∧ PyData.depthAll (rs.map fun r => .tuple [.int r.1, .int r.2]) ≤ 1
  | [] => ⟨by simp only [List.map_nil, PyData.canLayAll0], by simp only [List.map_nil, PyData.depthAll]; decide⟩
  | r :: rs => by
    obtain ⟨h1, h2⟩ := lay_pairs rs
    refine ⟨by simp only [List.map_cons, PyData.canLayAll0, PyData.canLay0, h1, Bool.and_self], ?_⟩
    rw [List.map_cons]
    unfold PyData.depthAll
    exact Nat.max_le.mpr ⟨by simp [PyData.depth, PyData.depthAll], h2⟩
theorem lay_pd (rs : List Run) : PySem.SeqAt.shaped (pData rs) = true := by
  obtain ⟨h1, h2⟩ := lay_pairs rs
  have e : PyData.depthAll (rs.map fun r => .tuple [.int r.1, .int r.2]) = 0 ∨ PyData.depthAll (rs.map fun r => .tuple [.int r.1, .int r.2]) = 1 := by
    generalize PyData.depthAll _ = n at h2
    omega
  unfold PySem.SeqAt.shaped pData
  rcases e with e | e
  · simp only [PyData.canLay0, PyData.depth, h1, e]
    decide
  · simp only [PyData.canLay0, PyData.depth, h1, e]
    decide
/-- a list of pairs against an empty one -/
theorem nePairs {K : PySem.W.Frag} {H : Hp} {Q : VK} {l m : Addr} {ts : List Addr} {rs : List Run} (h : RunsL l ts rs H) (g : H m = some (.lst [])) (q : Q (.bl (!decide (rs = []))) H) : rNeD K (.ref l) (.ref m) H Q :=
  ⟨_, .list [], .lst (SqL.of h.1) (dp_pairs h.2), .lst (SqL.of g) .nil, lay_pd rs, by decide +kernel, by
    rw [show PyData.eqv (.list (rs.map fun r => .tuple [.int r.1, .int r.2])) (.list []) = decide (rs = []) by
      simp only [PyData.eqv]
      cases rs with
      | nil => simp [PyData.eqvAll]
      | cons r rs => simp [PyData.eqvAll]]
    exact q⟩
def sp__law_due (K : PySem.W.Frag) : Sp := fun vs H Q _ => ∃ (h : Addr) (F : List Addr) (hs : List Deed), vs = [.ref h] ∧ HistA h F hs H ∧ hs.length < 10000 ∧
  ∀ l ts due H', H l = none → Same H H' → RunsL l ts due H' → Nrm due → (∀ o, Mem o due ↔ hasF hs o = true) → Q (.ref l) H'
set_option maxHeartbeats 0 in
theorem ok__law_due (T : Txt K mg) : FnOk P w K mg base CX0 2 T.a__law_due T.fd__law_due ["history"] (sp__law_due K) := by
  have S := sc__law_due
  refine T.F__law_due.ok S (fun vs H Q E h => ?_) (fun cdv A outer s H vs Q E hr h => ?_)
  · obtain ⟨h, F, hs, rfl, _⟩ := h
    rfl
  · obtain ⟨h, F, hs, rfl, ⟨ts, h1, A, _⟩, hz, k⟩ := h
    refine ⟨_, (pss_cons (ps_set (i := 1) S.nd rfl (Or.inl rfl) (pe_callB (id := "sorted") cr_sortedI (by rfl) T.b_sorted (by decide +kernel) (pa_cons (pe_op op_cat (pe_lc (own := [("deed", 6)]) (g := gName 6) (tt := tYes) rfl S.nd (pi_list (pv 0)) (blkOk_by (N := ["history", "ends", "due", "k", "low", "high", "deed"]) (sc := defScope s__law_due) (by decide +kernel)) (fun _ _ _ _ _ => pg_name (i := 6) S.nd rfl (Or.inl rfl)) (fun _ _ _ _ _ => pts_nil) (fun _ _ _ _ _ => (pe_ix (show IxR _ (rIxT K) from ix_tup) (pv 6) pe_int (fun _ _ => rfl)))) (pe_lc (own := [("deed", 6)]) (g := gName 6) (tt := tYes) rfl S.nd (pi_list (pv 0)) (blkOk_by (N := ["history", "ends", "due", "k", "low", "high", "deed"]) (sc := defScope s__law_due) (by decide +kernel)) (fun _ _ _ _ _ => pg_name (i := 6) S.nd rfl (Or.inl rfl)) (fun _ _ _ _ _ => pts_nil) (fun _ _ _ _ _ => (pe_ix (show IxR _ (rIxT K) from ix_tup) (pv 6) pe_int (fun _ _ => rfl))))) pa_nil)))
      (pss_cons (ps_set (i := 2) S.nd rfl (Or.inl rfl) (pe_lst pa_nil))
      (pss_cons (ps_for PassesOwn.never rfl (pi_range2 (by rfl) T.b_range (pa_cons pe_int (pa_cons (pe_callB (id := "len") (call_lenK (K := K) rfl) (by rfl) T.b_len (by decide +kernel) (pa_cons (pv 1) pa_nil)) pa_nil))) (pg_name (i := 3) S.nd rfl (Or.inl rfl)) (pss_cons (ps_set (i := 4) S.nd rfl (Or.inl rfl) (pe_ix ix_list (pv 1) (pe_op op_sub (pv 3) pe_int) (fun _ _ => rfl)))
      (pss_cons (ps_set (i := 5) S.nd rfl (Or.inl rfl) (pe_ix ix_list (pv 1) (pv 3) (fun _ _ => rfl)))
      (pss_one (ps_if (PW.pt (pw_and (pt_cmpR op_lt (pv 4) (pv 5) (nomark _)) (pw_and1 (pt_val (pe_call (ok__law_has T) (hr.mono (by decide)) rfl T.g__law_has T.F__law_has.kp T.B__law_has .nil pass0 (pa_cons (pv 0) (pa_cons (pv 4) pa_nil))))))) (pss_one (ps_if (PW.pt (pw_and (pt_cmpR (op_neD hr.units) (pv 2) (pe_lst pa_nil) (nomark _)) (pw_and1 (pt_cmpR op_eq (pe_ix ix_tup (pe_ix ix_list (pv 2) (pe_un un_neg pe_int) (fun _ _ => rfl)) pe_int (fun _ _ => rfl)) (pv 4) (nomark _))))) (pss_one (ps_asg (pe_tup (pa_cons (pe_ix ix_tup (pe_ix ix_list (pv 2) (pe_un un_neg pe_int) (fun _ _ => rfl)) pe_int (fun _ _ => rfl)) (pa_cons (pv 5) pa_nil))) (pg_sub (pv 2) (pe_un un_neg pe_int) set_list))) (pss_one (ps_expr (pe_bm PySem.F.plainAttrs_list PySem.F.slot_list_append PySem.F.type_list_append mt_append (pv 2) (pa_cons (pe_tup (pa_cons (pv 4) (pa_cons (pv 5) pa_nil))) pa_nil)))))) pss_nil)))))
      (pss_one (ps_ret (pv 2)))))), ?_⟩
    refine st__law_due ?_
    o_args
    have tz := A.1
    refine lcG (a := h) (xs := ts.map V.ref) (fun D i vs H' => SameX D H H' ∧ vs = ((hs.take i).map fun d => d.2.1).map V.int) (fun R h => ⟨_, rfl, h⟩) (SqL.of h1) (by rw [List.length_map]; omega) (fun D _ => ⟨SameX.upd, by simp⟩) (fun D i vs H' hD hP => SqL.of (hP.1 _ _ (ne_of_none h1 hD) h1)) (fun D i v vs H' hD hv hle hd hP => ?_) (fun D vs H1 hD hd hle hP => ?_)
    · obtain ⟨s, e1⟩ := hP
      have il := getq_lt hv
      rw [List.length_map, A.1] at il
      obtain ⟨t, _, e2, ht⟩ := A.at (List.getElem?_eq_getElem il)
      rw [e2] at hv
      cases hv
      have tk : hs.take (i + 1) = hs.take i ++ [hs[i]] := by rw [List.take_succ, List.getElem?_eq_getElem il]; rfl
      generalize hs[i] = d at tk ht
      have ht' := s _ _ (ne_of_none ht hD) ht
      intro Y N hY hN
      dsimp only [tYes]
      rw [if_pos rfl]
      o_args
      exact hY _ H' hd ⟨s.upd', by rw [e1, tk]; simp⟩
    obtain ⟨s, e1⟩ := hP
    rw [List.length_map, A.1, List.take_length] at e1
    subst e1
    have S1 := Same.ofX hD s
    have A1 : Hist H1 ts hs := A.ch (Ch.of (G := []) S1) (fun _ _ z => nomatch z)
    refine lcG (a := h) (xs := ts.map V.ref) (fun D i vs H' => SameX D H1 H' ∧ vs = ((hs.take i).map fun d => d.2.2).map V.int) (fun R h => ⟨_, rfl, h⟩) (SqL.of (S1 _ _ h1)) (by rw [List.length_map]; omega) (fun D _ => ⟨SameX.upd, by simp⟩) (fun D i vs H' hD hP => SqL.of (hP.1 _ _ (ne_of_none (S1 _ _ h1) hD) (S1 _ _ h1))) (fun D i v vs H' hD hv hle hd hP => ?_) (fun D2 vs H2 hD2 hd2 hle2 hP => ?_)
    · obtain ⟨s, e1⟩ := hP
      have il := getq_lt hv
      rw [List.length_map, A.1] at il
      obtain ⟨t, _, e2, ht⟩ := A1.at (List.getElem?_eq_getElem il)
      rw [e2] at hv
      cases hv
      have tk : hs.take (i + 1) = hs.take i ++ [hs[i]] := by rw [List.take_succ, List.getElem?_eq_getElem il]; rfl
      generalize hs[i] = d at tk ht
      have ht' := s _ _ (ne_of_none ht hD) ht
      intro Y N hY hN
      dsimp only [tYes]
      rw [if_pos rfl]
      o_args
      exact hY _ H' hd ⟨s.upd', by rw [e1, tk]; simp⟩
    obtain ⟨s2, e2⟩ := hP
    rw [List.length_map, A.1, List.take_length] at e2
    subst e2
    have S2 := Same.ofX hD2 s2
    refine catList (S2 _ _ hd) hd2 (by simp; omega) fun c H3 nc s3 h3 => ?_
    o_args
    rw [← List.map_append] at h3
    refine ⟨c, _, rfl, SqL.of h3, fun es p hp so np => ?_⟩
    have S4 : Same H3 (upd H3 p (.lst (es.map V.int))) := Same.new np
    have h4 : upd H3 p (.lst (es.map V.int)) p = some (.lst (es.map V.int)) := upd_same
    generalize upd H3 p (.lst (es.map V.int)) = H4 at S4 h4
    have S := ((S1.trans S2).trans s3).trans S4
    have E : Ends' hs es := ⟨so, fun d hd => ⟨hp.mem_iff.mpr (List.mem_append_left _ (List.mem_map.mpr ⟨d, hd, rfl⟩)), hp.mem_iff.mpr (List.mem_append_right _ (List.mem_map.mpr ⟨d, hd, rfl⟩))⟩⟩
    have le : es.length = hs.length + hs.length := by have := hp.length_eq; simpa using this
    have A4 : HistA h [] hs H4 := ⟨ts, S _ _ h1, A.ch (Ch.of (G := []) S) (fun _ _ z => nomatch z), (fun z => nomatch z), fun _ _ z => nomatch z⟩
    o_args
    refine newList (by simp) fun l H5 nl s5 h5 => ?_
    have p5 := s5 _ _ h4
    have A5 := A4.same s5
    have S5 := S.trans s5
    have HN : H l = none := none_of S nl
    o_args
    refine lenA (SeqA.lst p5) ?_
    o_args
    rw [List.length_map]
    refine ⟨1, es.length, rfl, ⟨by decide, by decide, by omega, by omega⟩, ?_⟩
    have lp : p ∉ [l] := fun z => ne_of_none h4 nl (List.mem_singleton.mp z)
    refine for_rangeK (lo := 1) (n := ((es.length : Int) - 1).toNat) (fun i σ H' => ∃ a b c ts' due, σ = [some (.ref h), some (.ref p), some (.ref l), a, b, c, none] ∧ Ch [l] H5 H' ∧ RunsL l ts' due H' ∧ due.length ≤ i ∧ Due (hasF hs) es i due) ⟨none, none, none, [], [], rfl, Ch.refl, ⟨h5, .nil⟩, Nat.le_refl _, Due.start⟩ ?_ ?_
    · rintro i σ H6 hi ⟨a, b, c', ts', due, rfl, c6, r6, z6, D⟩
      have i1 : i + 1 < es.length := by omega
      have el : es[i]? = some es[i] := List.getElem?_eq_getElem (by omega)
      have eh : es[i + 1]? = some es[i + 1] := List.getElem?_eq_getElem i1
      obtain ⟨lh, _⟩ := E.gap el eh
      have fl := E.flat el eh
      have e0 : es[0]? = some es[0] := List.getElem?_eq_getElem (by omega)
      have fst := E.first e0 _ (List.mem_of_getElem? el)
      have vl : (es.map V.int)[i]? = some (.int es[i]) := by rw [List.getElem?_map, el]; rfl
      have vh : (es.map V.int)[i + 1]? = some (.int es[i + 1]) := by rw [List.getElem?_map, eh]; rfl
      generalize es[i] = low at el lh fl fst vl
      generalize es[i + 1] = high at eh lh fl vh
      have p6 := c6.at lp p5
      have A6 : HistA h [l] hs H6 := (A4.own nl s5).ch c6 (fun _ h => h)
      have r6l := r6.len
      o_args
      refine ⟨p, es.map V.int, (1 + (i : Int)) - 1, .int low, rfl, rfl, SqL.of p6, by rw [show (1 + (i : Int)) - 1 = (i : Int) by omega]; exact atI_nat vl, ?_⟩
      o_args
      refine ⟨p, es.map V.int, 1 + (i : Int), .int high, rfl, rfl, SqL.of p6, by rw [show 1 + (i : Int) = ((i + 1 : Nat) : Int) by omega]; exact atI_nat vh, ?_⟩
      o_args
      have skip : ¬ (low < high ∧ hasF hs low = true) → ∀ H7, Ch [l] H5 H7 → RunsL l ts' due H7 → ∃ a b c ts' due, [some (V.ref h), some (.ref p), some (.ref l), some (.int (1 + (i : Int))), some (.int low), some (.int high), none] = [some (.ref h), some (.ref p), some (.ref l), a, b, c, none] ∧ Ch [l] H5 H7 ∧ RunsL l ts' due H7 ∧ due.length ≤ i + 1 ∧ Due (hasF hs) es (i + 1) due := fun n H7 c7 r7 => ⟨_, _, _, ts', due, rfl, c7, r7, by omega, D.skip el eh lh fl n⟩
      refine brD (fun q1 => ?_) (fun q1 => ?_)
      · o_args
        refine ⟨h, [l], hs, low, rfl, A6, ?_⟩
        o_args
        refine br2 (fun q2 => ?_) (fun q2 => ?_)
        · have DA := D.add el eh e0 fst q1 fl q2
          o_args
          refine newList (by simp) fun m H7 nm s7 h7 => ?_
          have r7 := r6.same s7
          o_args
          refine nePairs r7 h7 ?_
          o_args
          rcases snoc_or due with rfl | ⟨da, r, rfl⟩
          · have e0' : ts' = [] := List.eq_nil_of_length_eq_zero r6l
            subst e0'
            refine brDT rfl ?_
            o_args
            refine ⟨isList r7.1, ?_⟩
            o_args
            refine newTup (by simp) fun u H8 nu s8 h8 => ?_
            o_args
            refine appList (s8 _ _ r7.1) (by simp) fun H9 s9 h9 => ?_
            have ul : u ≠ l := (ne_of_none r7.1 nu).symm
            o_args
            exact ⟨_, _, _, [u], [(low, high)], rfl, c6.trans ((Ch.of (s7.trans s8)).trans (Ch.ofX (by simp) s9 h9)), ⟨h9, Tups.snoc (ts := []) (rs := []) .nil (s9 _ _ ul h8)⟩, by simp, DA⟩
          · obtain ⟨ta, tr, rfl⟩ : ∃ a x, ts' = a ++ [x] := (snoc_or ts').resolve_left fun z => by rw [z] at r6l; simp at r6l
            have hl7 : H7 l = some (.lst (ta.map V.ref ++ [V.ref tr])) := by rw [r7.1, List.map_append]; rfl
            obtain ⟨Ti, Tr⟩ := r7.2.init
            rw [addDue_snoc] at DA
            refine brDF (by simp) ?_
            o_args
            refine ixLast hl7 ?_
            o_args
            refine brD (fun q3 => ?_) (fun q3 => ?_)
            · rw [if_pos q3] at DA
              o_args
              refine ixLast hl7 ?_
              o_args
              refine newTup (by simp) fun u H8 nu s8 h8 => ?_
              o_args
              refine setLast (s8 _ _ hl7) fun H9 s9 h9 => ?_
              have ul : u ≠ l := (ne_of_none hl7 nu).symm
              have c9 : Ch [l] H8 H9 := Ch.ofX (by simp) s9 h9
              have Ti9 : Tups H9 ta da := (Ti.same s8).ch c9 fun t ht z => (Ti.lst_ne hl7 t ht) (List.mem_singleton.mp z)
              o_args
              exact ⟨_, _, _, ta ++ [u], da ++ [(r.1, high)], rfl, c6.trans ((Ch.of (s7.trans s8)).trans c9), ⟨by rw [h9, List.map_append]; rfl, Ti9.snoc (r := (r.1, high)) (s9 _ _ ul h8)⟩, by simp at z6 ⊢; omega, DA⟩
            · rw [if_neg q3] at DA
              o_args
              refine ⟨isList r7.1, ?_⟩
              o_args
              refine newTup (by simp) fun u H8 nu s8 h8 => ?_
              o_args
              refine appList (s8 _ _ r7.1) (by rw [List.length_map]; omega) fun H9 s9 h9 => ?_
              have ul : u ≠ l := (ne_of_none hl7 nu).symm
              have c9 : Ch [l] H8 H9 := Ch.ofX (by simp) s9 h9
              have T9 : Tups H9 (ta ++ [tr]) (da ++ [r]) := (r7.2.same s8).ch c9 fun t ht z => (r7.2.lst_ne r7.1 t ht) (List.mem_singleton.mp z)
              o_args
              exact ⟨_, _, _, ta ++ [tr] ++ [u], da ++ [r] ++ [(low, high)], rfl, c6.trans ((Ch.of (s7.trans s8)).trans c9), ⟨by rw [h9, List.map_append (l₂ := [u])]; rfl, T9.snoc (r := (low, high)) (s9 _ _ ul h8)⟩, by simp at z6 ⊢; omega, DA⟩
        · o_args
          exact skip (fun z => by rw [q2] at z; exact nomatch z.2) H6 c6 r6
      · o_args
        exact skip (fun z => q1 z.1) H6 c6 r6
    · rintro σ H6 ⟨a, b, c', ts', due, rfl, c6, r6, z6, D⟩
      rw [show ((es.length : Int) - 1).toNat = es.length - 1 by omega] at D
      o_args
      exact k l ts' due H6 HN (Ch.same ((((Ch.of S).trans (Ch.of s5)).trans c6).drop HN)) r6 D.nrm (E.done D)
def sp__law_pairs_are (K : PySem.W.Frag) : Sp := fun vs H Q _ => ∃ (l m : Addr) (ts us : List Addr) (rs : List Run), vs = [.ref l, .ref m] ∧ RunsL l ts rs H ∧ RunsL m us rs H ∧ rs.length < 50000 ∧ Q (.bl true) H
theorem ok__law_pairs_are (T : Txt K mg) : FnOk P w K mg base CX0 2 T.a__law_pairs_are T.fd__law_pairs_are ["told", "due"] (sp__law_pairs_are K) := by
  have S := sc__law_pairs_are
  refine T.F__law_pairs_are.ok S (fun vs H Q E h => ?_) (fun cdv A outer s H vs Q E hr h => ?_)
  · obtain ⟨l, m, ts, us, rs, rfl, _⟩ := h
    rfl
  · obtain ⟨l, m, ts, us, rs, rfl, hL, hM, hz, k⟩ := h
    have el := hL.len
    have em := hM.len
    refine ⟨_, (pss_cons (ps_if (PW.pt (pw_or (pt_not (pt_val (pe_callB (id := "isinstance") call_isi (by rfl) T.b_isinstance (by decide +kernel) (pa_cons (pv 0) (pa_cons (pe_bltn (v := .ty "list") (u := .type "list") (by rfl) T.b_list (by decide +kernel) rfl) pa_nil))))) (pw_or1 (pt_cmpR op_ne (pe_callB (id := "len") (call_lenK (K := K) rfl) (by rfl) T.b_len (by decide +kernel) (pa_cons (pv 0) pa_nil)) (pe_callB (id := "len") (call_lenK (K := K) rfl) (by rfl) T.b_len (by decide +kernel) (pa_cons (pv 1) pa_nil)) (nomark _))))) (pss_one (ps_ret pe_bl)) pss_nil)
      (pss_cons (ps_for PassesOwn.never rfl (pi_range1 (by rfl) T.b_range (pa_cons (pe_callB (id := "len") (call_lenK (K := K) rfl) (by rfl) T.b_len (by decide +kernel) (pa_cons (pv 1) pa_nil)) pa_nil)) (pg_name (i := 2) S.nd rfl (Or.inl rfl)) (pss_cons (ps_if (PW.pt (pw_or (pt_not (pt_val (pe_callB (id := "isinstance") call_isi (by rfl) T.b_isinstance (by decide +kernel) (pa_cons (pe_ix ix_list (pv 0) (pv 2) (fun _ _ => rfl)) (pa_cons (pe_bltn (v := .ty "tuple") (u := .type "tuple") (by rfl) T.b_tuple (by decide +kernel) rfl) pa_nil))))) (pw_or1 (pt_cmpR op_ne (pe_callB (id := "len") (call_lenK (K := K) rfl) (by rfl) T.b_len (by decide +kernel) (pa_cons (pe_ix ix_list (pv 0) (pv 2) (fun _ _ => rfl)) pa_nil)) pe_int (nomark _))))) (pss_one (ps_ret pe_bl)) pss_nil)
      (pss_cons (ps_if (PW.pt (pw_or (pt_not (pt_val (pe_call (ok__law_is_whole T) (hr.mono (by decide)) rfl T.g__law_is_whole T.F__law_is_whole.kp T.B__law_is_whole .nil pass0 (pa_cons (pe_ix ix_tup (pe_ix ix_list (pv 0) (pv 2) (fun _ _ => rfl)) pe_int (fun _ _ => rfl)) pa_nil)))) (pw_or1 (pt_not (pt_val (pe_call (ok__law_is_whole T) (hr.mono (by decide)) rfl T.g__law_is_whole T.F__law_is_whole.kp T.B__law_is_whole .nil pass0 (pa_cons (pe_ix ix_tup (pe_ix ix_list (pv 0) (pv 2) (fun _ _ => rfl)) pe_int (fun _ _ => rfl)) pa_nil))))))) (pss_one (ps_ret pe_bl)) pss_nil)
      (pss_one (ps_if (PW.pt (pw_or (pt_cmpR op_ne (pe_ix ix_tup (pe_ix ix_list (pv 0) (pv 2) (fun _ _ => rfl)) pe_int (fun _ _ => rfl)) (pe_ix ix_tup (pe_ix ix_list (pv 1) (pv 2) (fun _ _ => rfl)) pe_int (fun _ _ => rfl)) (nomark _)) (pw_or1 (pt_cmpR op_ne (pe_ix ix_tup (pe_ix ix_list (pv 0) (pv 2) (fun _ _ => rfl)) pe_int (fun _ _ => rfl)) (pe_ix ix_tup (pe_ix ix_list (pv 1) (pv 2) (fun _ _ => rfl)) pe_int (fun _ _ => rfl)) (nomark _))))) (pss_one (ps_ret pe_bl)) pss_nil)))))
      (pss_one (ps_ret pe_bl)))), ?_⟩
    refine st__law_pairs_are ?_
    o_args
    refine ⟨_, _, _, _, true, rfl, .ty _, .base (.lst hL.1), kit_ty (by decide +kernel), ?_⟩
    o_args
    refine lenA (SeqA.lst hL.1) ?_
    o_args
    refine lenA (SeqA.lst hM.1) ?_
    o_args
    rw [List.length_map, List.length_map, el, em]
    rw [decide_eq_true rfl]
    o_args
    refine lenA (SeqA.lst hM.1) ?_
    o_args
    rw [List.length_map, em]
    refine rngF (n := rs.length) (by omega) (by omega) (for_rangeK (lo := 0) (n := (rs.length : Int).toNat) (fun i σ H' => ∃ v, σ = [some (.ref l), some (.ref m), v] ∧ H' = H) ⟨none, rfl, rfl⟩ ?_ ?_)
    · rintro i σ H' hi ⟨v, rfl, rfl⟩
      have il : i < rs.length := by omega
      obtain ⟨t, _, e1, ht⟩ := hL.at (List.getElem?_eq_getElem il)
      obtain ⟨u, _, e2, hu⟩ := hM.at (List.getElem?_eq_getElem il)
      generalize rs[i] = r at ht hu
      have ix1 : ∀ {Q : VK}, Q (.ref t) H' → rIxL K (.ref l) (.int (0 + (i : Int))) H' Q := fun q => by rw [show (0 : Int) + (i : Int) = (i : Int) by omega]; exact ixL hL.1 e1 q
      have ix2 : ∀ {Q : VK}, Q (.ref u) H' → rIxL K (.ref m) (.int (0 + (i : Int))) H' Q := fun q => by rw [show (0 : Int) + (i : Int) = (i : Int) by omega]; exact ixL hM.1 e2 q
      o_args
      refine ix1 ?_
      o_args
      refine ⟨_, _, _, _, true, rfl, .ty _, .base (.tup ht), kit_ty (by decide +kernel), ?_⟩
      o_args
      refine ix1 ?_
      o_args
      refine lenA (SeqA.tup ht) ?_
      o_args
      refine brDT rfl ?_
      o_args
      refine ix1 ?_
      o_args
      refine ⟨_, rfl, ?_⟩
      o_args
      refine ix1 ?_
      o_args
      refine ⟨_, rfl, ?_⟩
      o_args
      refine ix1 ?_
      o_args
      refine ix2 ?_
      o_args
      rw [decide_eq_true rfl]
      o_args
      refine ix1 ?_
      o_args
      refine ix2 ?_
      o_args
      rw [decide_eq_true rfl]
      o_args
      exact ⟨_, rfl, rfl⟩
    · rintro σ H' ⟨v, rfl, rfl⟩
      o_args
      exact k
/-! ### operators of own classes -/
section
open PySem.Spec PyProof.Rows
variable {X : Cx} {CX' : CXT} {k : Nat} {C f g : Addr} {fd : FuncData} {ps : List Str} {sp : Sp} {E : XK} {x : Str} {e : Expr} {te : TE} {p sp_ pos : Pos}
/-- a statement that is never reached -/
def tDead : TS := fun _ _ _ => False
theorem ps_dead {st : Stmt} : PS X st tDead := ⟨fun _ _ _ _ _ _ h => h.elim⟩
/-- C(*e), C's __init__ with a star parameter -/
def tMakeS (K : PySem.W.Frag) (C : Addr) (sp : Sp) (E : XK) (te : TE) : TE := fun σ H Q => te σ H fun y H1 => ∃ a xs, y = V.ref a ∧ (SqT K H1 a xs ∨ SqL K H1 a xs) ∧ ∀ x dx, H1 x = none → H1 dx = none → dx ≠ x → sp (.ref x :: xs) (upd (upd H1 dx (.own x)) x (.ins C dx [])) (fun v H2 => v = .non ∧ Q (.ref x) H2) E
theorem pe_makeS1 (M : Mk X.K C f) (F : FnR X.prog X.w X.K X.mg X.base CX' k f sp) (hr : Room (k + 1) X.A) (hg : Gl X x) (hm : X.mg x = some (.ref C)) (hx : Passes CX' X E) (he : PE X e te) (hdb : (x == ("__debug__" : Str)) = false := by decide)
    (hst : starEach [.Starred e sp_] X.env = [(true, eval e X.env)] := by rfl) : PE X (.Call (.Name x p) [.Starred e sp_] [] pos) (tMakeS X.K C sp E te) := by
  refine ⟨fun pins s σ H Q I h => wpAny_Call_Name_kw (ld_glob I hg hm ?_ hdb)⟩
  refine PySem.W.callWith_S (h₀ := X.base) I.ok.mod.kin M.kp (thn (he.run pins s σ H _ I h) fun v s1 ⟨y, H1, I1, ry, a, xs, ey, hxs, q⟩ => ?_) hst
  subst ey
  obtain rfl : v = Value.ref a := ry
  exact StX.star_any I1 hxs fun us s2 I2 rv => ⟨I2.kIn, StX.run_makeR M F hr hx I2 rv q⟩
/-- a op b, both of class C -/
def rBinOwn (C : Addr) (sp : Sp) (E : XK) : R2 := fun x y H Q => ∃ a b dx dy fs gs, x = .ref a ∧ y = .ref b ∧ H a = some (.ins C dx fs) ∧ H b = some (.ins C dy gs) ∧ sp [.ref a, .ref b] H (fun v H' => ∃ c, v = .ref c ∧ Q (.ref c) H') E
theorem op_binOwn {op : Operator} {n : Str} (mm : Meth X.K C n g) (hn : PySem.dunder op.info.2 = n) (hc : PySem.W.selfFirst X.K C = true) (F : FnOk X.prog X.w X.K X.mg X.base CX' k g fd ps sp) (hr : Room k X.A) (hb : Binds X.K fd ps []) (hx : Passes CX' X E) : OpR X (binaryOp op) (rBinOwn C sp E) := by
  subst hn
  intro pins s σ H x y v u Q I rx ry h
  obtain ⟨a, b, dx, dy, fs, gs, rfl, rfl, ha, hb', q⟩ := h
  cases (show v = Value.ref a from rx)
  cases (show u = Value.ref b from ry)
  obtain ⟨mA, O, _⟩ := ins_get I.hok ha
  obtain ⟨mB, O', _⟩ := ins_get I.hok hb'
  obtain ⟨od, J, _⟩ := O.look
  obtain ⟨od', J', _⟩ := O'.look
  obtain ⟨m, hF⟩ := I.fr
  refine PySem.W.binop_K hF I.ok.mod.kin J J'.type hc mm.at_ mm.fn ?_
  have r2 : Vals [V.ref a, V.ref b] [Value.ref a, Value.ref b] := .cons rfl (.cons rfl .nil)
  have hl : ([Value.ref a, Value.ref b] : List Value).length = ps.length := by rw [← r2.length]; exact F.len _ _ _ _ q
  have hbb := hb s [Value.ref a, Value.ref b] I.kIn (by rw [List.append_nil]; exact hl)
  rw [List.append_nil] at hbb
  refine wpAny_call (codeAny_mono (F.run X.A X.stack s H ⟨[Value.ref a, Value.ref b], []⟩ [Value.ref a, Value.ref b] [V.ref a, V.ref b] _ E hr I.env0 hbb r2 q) fun r s' hq => ?_)
  cases r with
  | error e => exact hx pins σ H s e s' I hq
  | ok fl =>
    cases fl with
    | next => exact False.elim hq
    | brk => exact False.elim hq
    | cont => exact False.elim hq
    | ret u =>
      obtain ⟨v, H', I', rv, c, rfl, qn⟩ := I.after hq
      cases (show u = Value.ref c from rv)
      exact ⟨.ref c, H', I', rfl, qn⟩
/-- values of builtin types -/
inductive Bi (H : Hp) : V → String → Prop where
  | non : Bi H .non "NoneType"
  | bl (b : Bool) : Bi H (.bl b) "bool"
  | int (i : Int) : Bi H (.int i) "int"
  | str (z : Str) : Bi H (.str z) "str"
  | tup {a : Addr} {xs : List V} (h : H a = some (.tup xs)) : Bi H (.ref a) "tuple"
  | lst {a : Addr} {xs : List V} (h : H a = some (.lst xs)) : Bi H (.ref a) "list"
end
/-! ### == by an own __eq__, on either side -/
section
open PySem.Spec PyProof.Rows
theorem Bi.ty {X : Cx} {pins : List (Addr × Obj)} {σ : L2.St} {H : Hp} {s : Shared} {y : V} {u : Value} {T : String} (I : Inv X pins σ H s) (ry : RelV y u) (b : Bi H y T) : s.TypeIs u T := by
  cases b with
  | non => cases (show u = Value.none from ry); rfl
  | bl b => cases (show u = Value.bool b from ry); rfl
  | int i => obtain ⟨t, q⟩ := (show ∃ t, u = Value.int i t from ry); cases q; rfl
  | str z => obtain ⟨t, q⟩ := (show ∃ t, u = Value.str z t from ry); cases q; rfl
  | @tup a xs ea =>
    cases (show u = Value.ref a from ry)
    obtain ⟨_, _, _, o, h1, h2, _⟩ := (show ObjOk X.prog X.w H s.heap a (.tup xs) from I.hok a _ ea)
    exact ⟨o, h1, h2⟩
  | @lst a xs ea =>
    cases (show u = Value.ref a from ry)
    obtain ⟨_, _, n, _, h1⟩ := (show ObjOk X.prog X.w H s.heap a (.lst xs) from I.hok a _ ea)
    exact ⟨_, h1, rfl⟩
theorem looks_ty {M : Model} {s : Shared} {u : Value} {T : String} (h : s.TypeIs u T) : PySem.W.Looks M s.heap (typeOf u) (.type T) := fun A Q E s' k q => wpAny_typeOf (by
  cases u with
  | ref a =>
    obtain ⟨o, h1, h2⟩ := h
    exact ⟨o, k _ _ h1, h2⟩
  | _ => exact h) q
theorem rc_refl_own {prog : Program} {w : World} {A : Around} {E : Value → Shared → Prop} {s : Shared} {K : PySem.W.Frag} {x C f : Addr} {ox : Obj} {od : Option Obj} {a : Value} {Ta ida : String} {Q : Value → Shared → Prop} (hu : A.units < cLine) (ha : s.TypeIs a Ta) (X : K.In s.heap) (I : PySem.W.InstAt s.heap x ox C od)
    (hsub : PySem.W.subIn K (.ref C) (.type Ta) = some false) (h1 : Slot Ta "__eq__" ida) (hc1 : ∀ Q' : Value → Shared → Prop, Q' .notImplemented s → wpAny (model prog w) A (call (.builtin ida) [a, .ref x]) Q' E s)
    (hs : PySem.W.findIn K (.ref C) "__eq__" = some (some (.ref f))) (hf : PySem.W.isFn K (.ref f) = true) (h : wpAny (model prog w) A (call (.ref f) [.ref x, a]) (PySem.W.CmpBack Q) E s) : wpAny (model prog w) A (richCompare .Eq a (.ref x)) Q E s := by
  have one : wpAny (model prog w) A (tryCompare (.ref x) "__eq__" a) (fun r s' => ∃ v, r = some v ∧ Q v s') E s := by
    unfold tryCompare
    refine wpAny_bind (PySem.W.ifBound_K X I hs hf (wpAny_mono h (fun v s' hv => ?_) fun _ _ e => e))
    cases v <;> first | exact hv.elim | exact wpAny_pure ⟨_, rfl, hv⟩
  have hi : cmpInfo CmpOp.Eq = ("==", (Str.ofString "__eq__"), (Str.ofString "__eq__")) := rfl
  simp only [richCompare, hi, ha.oneThing_none]
  try with_reducible refine wpAny_holding ?_
  refine wpAny_bind (wpAny_cRoomFor hu ?_)
  refine wpAny_bind (wpAny_typeOf ha (wpAny_bind (I.type.here ?_)))
  have hne : (Value.type Ta != Value.ref C) = true := rfl
  simp only [hne, if_true]
  refine wpAny_bind ((PySem.W.looks_subIn X hsub).here ?_)
  simp only [Bool.false_eq_true, if_false, Bool.not_false, if_true]
  refine wpAny_bind (m := tryCompare a _ (.ref x)) (wpAny_tryCompare_declines ha h1 (hc1 _ ⟨rfl, ?_⟩))
  refine wpAny_bind (m := tryCompare (.ref x) _ a) (wpAny_mono one (fun r s' z => ?_) fun _ _ e => e)
  obtain ⟨v, rfl, hq⟩ := z
  exact wpAny_pure hq
theorem decl_int (b : Int) (u : Tok) (l C dx : Addr) : Meets (Builtin.«int.__eq__» ⟨[.int b u, .ref l], []⟩) (fun _ R s => s.heap.get? l = some { cls := .ref C, dict := some dx, data := .plain } ∧ R (.ok (.ret .notImplemented)) s) :=
  .of_wp fun prog w A R s h => by obtain ⟨hp, g, d, tk, os⟩ := s; obtain ⟨hl, h⟩ := h; wp_walk using wpAny_loadPart' hl, wpAny_load hl; exact ⟨_, rfl, h⟩
theorem decl_bool (b : Bool) (l C dx : Addr) : Meets (Builtin.«int.__eq__» ⟨[.bool b, .ref l], []⟩) (fun _ R s => s.heap.get? l = some { cls := .ref C, dict := some dx, data := .plain } ∧ R (.ok (.ret .notImplemented)) s) :=
  .of_wp fun prog w A R s h => by obtain ⟨hp, g, d, tk, os⟩ := s; obtain ⟨hl, h⟩ := h; wp_walk using wpAny_loadPart' hl, wpAny_load hl; exact ⟨_, rfl, h⟩
theorem decl_str (b : Str) (u : Tok) (l C dx : Addr) : Meets (Builtin.«str.__eq__» ⟨[.str b u, .ref l], []⟩) (fun _ R s => s.heap.get? l = some { cls := .ref C, dict := some dx, data := .plain } ∧ R (.ok (.ret .notImplemented)) s) :=
  .of_wp fun prog w A R s h => by obtain ⟨hp, g, d, tk, os⟩ := s; obtain ⟨hl, h⟩ := h; wp_walk using wpAny_loadPart' hl, wpAny_load hl; exact ⟨_, rfl, h⟩
theorem decl_list {prog : Program} {w : World} {K : PySem.W.Frag} {l x C dx : Addr} (hsub : PySem.W.subIn K (.ref C) (.type "list") = some false) : MeetsIn prog w (Builtin.«list.__eq__» ⟨[.ref l, .ref x], []⟩) (fun _ R s => K.In s.heap ∧ s.heap.get? x = some { cls := .ref C, dict := some dx, data := .plain } ∧ R (.ok (.ret .notImplemented)) s) := fun A R s h => by
  obtain ⟨X, hx, h⟩ := h
  have f1 : ∀ {M : Model} {A : Around} {Q : Bool → Shared → Prop} {E : Value → Shared → Prop}, Q false s → wpAny M A (isSubtype (.ref C) (.type "list")) Q E s := fun q => (PySem.W.looks_subIn X hsub).here q
  obtain ⟨hp, g, d, tk, os⟩ := s
  wp_walk using wpAny_load hx, f1
  exact h
theorem decl_tup {prog : Program} {w : World} {K : PySem.W.Frag} {l x C dx : Addr} (hsub : PySem.W.subIn K (.ref C) (.type "tuple") = some false) : MeetsIn prog w (Builtin.«tuple.__eq__» ⟨[.ref l, .ref x], []⟩) (fun _ R s => K.In s.heap ∧ s.heap.get? x = some { cls := .ref C, dict := some dx, data := .plain } ∧ R (.ok (.ret .notImplemented)) s) := fun A R s h => by
  obtain ⟨X, hx, h⟩ := h
  have f1 : ∀ {M : Model} {A : Around} {Q : Bool → Shared → Prop} {E : Value → Shared → Prop}, Q false s → wpAny M A (isSubtype (.ref C) (.type "tuple")) Q E s := fun q => (PySem.W.looks_subIn X hsub).here q
  obtain ⟨hp, g, d, tk, os⟩ := s
  wp_walk using wpAny_load hx, f1
  exact h
/-- x == y, one of them of class C, the other too or of a builtin type -/
def rEqOwn (C : Addr) (sp : Sp) (E : XK) : R2 := fun x y H Q =>
  (∃ a dx fs, x = .ref a ∧ H a = some (.ins C dx fs) ∧ ((∃ b dy gs, y = .ref b ∧ H b = some (.ins C dy gs)) ∨ ∃ T, Bi H y T) ∧ sp [.ref a, y] H (fun v H' => ∃ b, v = .bl b ∧ Q (.bl b) H') E) ∨
  (∃ a dx fs T, y = .ref a ∧ H a = some (.ins C dx fs) ∧ Bi H x T ∧ sp [.ref a, x] H (fun v H' => ∃ b, v = .bl b ∧ Q (.bl b) H') E)
variable {X : Cx} {CX' : CXT} {k : Nat} {C g : Addr} {fd : FuncData} {ps : List Str} {sp : Sp} {E : XK}
theorem run_eqOwn (FO : FnOk X.prog X.w X.K X.mg X.base CX' k g fd ps sp) (hr : Room k X.A) (hb : Binds X.K fd ps []) (hx : Passes CX' X E) {pins : List (Addr × Obj)} {σ : L2.St} {H : Hp} {s : Shared} {a : Addr} {y : V} {u : Value} {Q : VK} (I : Inv X pins σ H s) (ry : RelV y u)
    (q : sp [.ref a, y] H (fun v H' => ∃ b, v = .bl b ∧ Q (.bl b) H') E) : wpAny (model X.prog X.w) X.A (call (.ref g) [.ref a, u]) (PySem.W.CmpBack (EP X pins σ Q)) X.xe s := by
  have r2 : Vals [V.ref a, y] [Value.ref a, u] := .cons rfl (.cons ry .nil)
  have hl : ([Value.ref a, u] : List Value).length = ps.length := by rw [← r2.length]; exact FO.len _ _ _ _ q
  have hbb := hb s [Value.ref a, u] I.kIn (by rw [List.append_nil]; exact hl)
  rw [List.append_nil] at hbb
  refine wpAny_call (codeAny_mono (FO.run X.A X.stack s H ⟨[Value.ref a, u], []⟩ [Value.ref a, u] [V.ref a, y] _ E hr I.env0 hbb r2 q) fun r s' hq => ?_)
  cases r with
  | error e => exact hx pins σ H s e s' I hq
  | ok fl =>
    cases fl with
    | next => exact False.elim hq
    | brk => exact False.elim hq
    | cont => exact False.elim hq
    | ret w =>
      obtain ⟨v, H', I', rv, b, rfl, qn⟩ := I.after hq
      cases (show w = Value.bool b from rv)
      exact ⟨.bl b, H', I', rfl, qn⟩
theorem op_eqOwn (mm : Meth X.K C "__eq__" g) (nf : ∀ H v T, Bi H v T → PySem.W.notFirst X.K C (.type T) = true) (sb : ∀ H v T, Bi H v T → PySem.W.subIn X.K (.ref C) (.type T) = some false) (FO : FnOk X.prog X.w X.K X.mg X.base CX' k g fd ps sp) (hr : Room k X.A) (hu : X.A.units < cLine) (hb : Binds X.K fd ps []) (hx : Passes CX' X E) : OpR X (compareOp .Eq) (rEqOwn C sp E) := by
  intro pins s σ H x y v u Q I rx ry h
  show wpAny (model X.prog X.w) X.A (richCompare .Eq v u) (EP X pins σ Q) X.xe s
  obtain ⟨m, hF⟩ := I.fr
  rcases h with ⟨a, dx, fs, rfl, ha, hy, q⟩ | ⟨a, dx, fs, T, rfl, ha, bi, q⟩
  · cases (show v = Value.ref a from rx)
    obtain ⟨mA, O, _⟩ := ins_get I.hok ha
    obtain ⟨od, J, _⟩ := O.look
    rcases hy with ⟨b, dy, gs, rfl, hb'⟩ | ⟨T, bi⟩
    · cases (show u = Value.ref b from ry)
      obtain ⟨mB, O', _⟩ := ins_get I.hok hb'
      obtain ⟨od', J', _⟩ := O'.look
      exact PySem.W.cmp_K (op := .Eq) (tb := .ref C) hu hF I.ok.mod.kin J J'.type (by simp [PySem.W.notFirst]) mm.at_ mm.fn (run_eqOwn (y := .ref b) FO hr hb hx I rfl q)
    · exact PySem.W.cmp_K (op := .Eq) (tb := .type T) hu hF I.ok.mod.kin J (looks_ty (bi.ty I ry)) (nf _ _ _ bi) mm.at_ mm.fn (run_eqOwn FO hr hb hx I ry q)
  · cases (show u = Value.ref a from ry)
    obtain ⟨mA, O, _⟩ := ins_get I.hok ha
    obtain ⟨od, J, _⟩ := O.look
    have go := run_eqOwn FO hr hb hx I rx q
    have tI := bi.ty I rx
    have sbt := sb _ _ _ bi
    have ob := J.1
    cases bi with
    | non =>
      cases (show v = Value.none from rx)
      exact rc_refl_own hu tI I.kIn J sbt F.slot_NoneType_eq (fun Q' h => call_gives F.slot_NoneType_eq tI F.entry_NoneType_eq (F.args_NoneType_eq_2 _ _) (PySem.SeqAt.NoneType___eq___none_ref_0 a) h) mm.at_ mm.fn go
    | bl b =>
      cases (show v = Value.bool b from rx)
      exact rc_refl_own hu tI I.kIn J sbt F.slot_bool_eq (fun Q' h => call_meets F.slot_bool_eq tI F.entry_int_eq (F.args_int_eq_2 _ _) (decl_bool b a C dx) ⟨ob, h⟩) mm.at_ mm.fn go
    | int i =>
      obtain ⟨t, z⟩ := (show ∃ t, v = Value.int i t from rx)
      cases z
      exact rc_refl_own hu tI I.kIn J sbt F.slot_int_eq (fun Q' h => call_meets F.slot_int_eq tI F.entry_int_eq (F.args_int_eq_2 _ _) (decl_int i t a C dx) ⟨ob, h⟩) mm.at_ mm.fn go
    | str z =>
      obtain ⟨t, z'⟩ := (show ∃ t, v = Value.str z t from rx)
      cases z'
      exact rc_refl_own hu tI I.kIn J sbt F.slot_str_eq (fun Q' h => call_meets F.slot_str_eq tI F.entry_str_eq (F.args_str_eq_2 _ _) (decl_str z t a C dx) ⟨ob, h⟩) mm.at_ mm.fn go
    | @tup b xs h =>
      cases (show v = Value.ref b from rx)
      exact rc_refl_own hu tI I.kIn J sbt F.slot_tuple_eq (fun Q' h => call_meetsIn F.slot_tuple_eq tI F.entry_tuple_eq (F.args_tuple_eq_2 _ _) (decl_tup sbt) ⟨I.kIn, ob, h⟩) mm.at_ mm.fn go
    | @lst b xs h =>
      cases (show v = Value.ref b from rx)
      exact rc_refl_own hu tI I.kIn J sbt F.slot_list_eq (fun Q' h => call_meetsIn F.slot_list_eq tI F.entry_list_eq (F.args_list_eq_2 _ _) (decl_list sbt) ⟨I.kIn, ob, h⟩) mm.at_ mm.fn go
end
/-! ### the operators -/
theorem x_makeS {K : PySem.W.Frag} {C : Addr} {sp : Sp} {E : XK} {te : TE} {σ : L2.St} {H : Hp} {Q : VK} (q : te σ H fun y H1 => ∃ a xs, y = V.ref a ∧ (SqT K H1 a xs ∨ SqL K H1 a xs) ∧ ∀ x dx, H1 x = none → H1 dx = none → dx ≠ x → sp (.ref x :: xs) (upd (upd H1 dx (.own x)) x (.ins C dx [])) (fun v H2 => v = .non ∧ Q (.ref x) H2) E) : tMakeS K C sp E te σ H Q := q
theorem Tups.app {H : Hp} {ts us : List Addr} {rs qs : List Run} (h : Tups H ts rs) (g : Tups H us qs) : Tups H (ts ++ us) (rs ++ qs) := ⟨by rw [List.length_append, List.length_append, h.1, g.1], fun i t r a b => by
  by_cases c : i < ts.length
  · rw [List.getElem?_append_left c] at a
    rw [List.getElem?_append_left (by have := h.1; omega)] at b
    exact h.2 i t r a b
  · rw [List.getElem?_append_right (by omega)] at a
    rw [List.getElem?_append_right (by have := h.1; omega), ← h.1] at b
    exact g.2 _ t r a b⟩
theorem isSp {K : PySem.W.Frag} {mg : Str → Option Value} (T : Txt K mg) {e : Addr} {F : List Addr} {rs : List Run} {H : Hp} {Q : VK} (S : SpA T.c_Spans e F rs H) (q : Q (.bl true) H) : rIsi K [.ref e, .ref T.c_Spans] H Q := by
  obtain ⟨dx, l, ts, he, _⟩ := S
  exact ⟨_, _, _, _, true, rfl, .own _, .base (.ins he T.cl_Spans T.rc_Spans T.ri_get T.ri_tk T.rm_Spans), T.ki_Spans_Spans, q⟩
/-- C(x, ..) of pairs that are runs already -/
theorem make_runs {K : PySem.W.Frag} {C Ce : Addr} {ts : List Addr} {rs : List Run} {H : Hp} {G' : Addr → Hp → Prop} {E : XK} (hT : Tups H ts rs) (hz : rs.length < 50000) (hp : ∀ r ∈ rs, 0 ≤ r.1 ∧ r.1 ≤ r.2)
    (k : ∀ e out H', H e = none → Same H H' → (∀ G, Al G H → SpA C e G out H') → out.length ≤ rs.length → (∀ o, Mem o out ↔ Mem o rs) → G' e H') :
    ∀ x dx, H x = none → H dx = none → dx ≠ x → starSp 1 (sp_Spans_init_ K C Ce) (.ref x :: ts.map V.ref) (upd (upd H dx (.own x)) x (.ins C dx [])) (fun v H2 => v = .non ∧ G' x H2) E := by
  intro x dx hx hdx ne
  have s0 : Same H (upd (upd H dx (.own x)) x (.ins C dx [])) := fun b o e => by rw [upd_ne (ne_of_none e hx), upd_ne (ne_of_none e hdx)]; exact e
  have h0 : upd (upd H dx (.own x)) x (.ins C dx []) x = some (.ins C dx []) := upd_same
  generalize upd (upd H dx (.own x)) x (.ins C dx []) = H0 at s0 h0
  have lt := hT.1
  refine ⟨[.ref x], ts.map V.ref, rfl, rfl, by rw [List.length_map, sizeLine_eq]; omega, fun p hp0 => ?_⟩
  have s1 : Same H0 (upd H0 p (.tup (ts.map V.ref))) := Same.new hp0
  have h1 : upd H0 p (.tup (ts.map V.ref)) p = some (.tup (ts.map V.ref)) := upd_same
  generalize upd H0 p (.tup (ts.map V.ref)) = H1 at s1 h1
  have S := s0.trans s1
  refine ⟨x, p, dx, _, rfl, s1 _ _ h0, h1, by rw [List.length_map]; omega, .inl ⟨rs, by rw [List.length_map, lt], fun i y r a b => ?_, fun H' out c hS z m => ⟨rfl, ?_⟩⟩⟩
  · rw [List.getElem?_map] at a
    cases c : ts[i]? with
    | none =>
      rw [c] at a
      cases a
    | some t =>
      rw [c] at a
      cases a
      exact ⟨⟨t, rfl, .inl (S _ _ (hT.2 i t r c b))⟩, hp r (List.mem_of_getElem? b)⟩
  · exact k x out H' hx (Ch.same (((Ch.of S).trans c).drop hx)) (fun G A => hS G (A.same S) (A.new hx)) z m
theorem Offs.ok {rs : List Run} (h : Offs rs) : ∀ r ∈ rs, 0 ≤ r.1 ∧ r.1 ≤ r.2 := fun r hr => ⟨h.lo r hr, Int.le_of_lt (h.nrm.1 r hr)⟩
/-- what one of the three gives: a new set -/
def OpSp (C : Addr) (P : Int → List Run → List Run → Prop) : Sp := fun vs H Q _ => ∃ (e e2 : Addr) (rs qs : List Run), vs = [.ref e, .ref e2] ∧ SpA C e [] rs H ∧ SpA C e2 [] qs H ∧ rs.length < 10000 ∧ qs.length < 10000 ∧
  ∀ x out H', H x = none → Same H H' → (∀ G, Al G H → SpA C x G out H') → out.length ≤ rs.length + qs.length + 1 → (∀ o, Mem o out ↔ P o rs qs) → Q (.ref x) H'
abbrev sp_Spans_or_ (K : PySem.W.Frag) (C : Addr) : Sp := OpSp C fun o rs qs => Mem o rs ∨ Mem o qs
theorem ok_Spans_or_ (T : Txt K mg) : FnOk P w K mg base CX0 6 T.a_Spans_or_ T.fd_Spans_or_ ["self", "other"] (sp_Spans_or_ K T.c_Spans) := by
  have S := sc_Spans_or_
  refine T.F_Spans_or_.ok S (fun vs H Q E h => ?_) (fun cdv A outer s H vs Q E hr h => ?_)
  · obtain ⟨e, e2, rs, qs, rfl, _⟩ := h
    rfl
  · obtain ⟨e, e2, rs, qs, rfl, S1, S2, z1, z2, k⟩ := h
    obtain ⟨dx, l, ts, he, R1, _, _, _, O1⟩ := id S1
    obtain ⟨dx2, l2, ts2, he2, R2, _, _, _, O2⟩ := id S2
    have y1 := R1.len
    have y2 := R2.len
    refine ⟨_, (pss_cons (ps_if (pt_not (pt_val (pe_callB (id := "isinstance") call_isi (by rfl) T.b_isinstance (by decide +kernel) (pa_cons (pv 1) (pa_cons (pe_glob (v := .ref T.c_Spans) rfl T.g_Spans rfl) pa_nil))))) (pss_one ps_dead) pss_nil)
      (pss_cons (ps_set (i := 2) S.nd rfl (Or.inl rfl) (pe_op op_cat (pe_fld (pv 0) rfl) (pe_fld (pv 1) rfl)))
      (pss_one (ps_ret (pe_makeS1 T.M_Spans (ok_Spans_init_ T) (hr.mono (by decide)) rfl T.g_Spans passL (pv 2)))))), ?_⟩
    refine st_Spans_or_ ?_
    o_args
    refine isSp T S2 ?_
    o_args
    refine fget he T.cl_Spans T.n_Spans__runs rfl ?_
    o_args
    refine fget he2 T.cl_Spans T.n_Spans__runs rfl ?_
    refine catList R1.1 R2.1 (by simp; omega) fun m H1 nm s1 h1 => ?_
    o_args
    rw [← List.map_append] at h1
    have T1 : Tups H1 (ts ++ ts2) (rs ++ qs) := Tups.app (R1.2.same s1) (R2.2.same s1)
    refine x_makeS ?_
    o_args
    refine ⟨m, _, rfl, .inr (SqL.of h1), make_runs T1 (by simp; omega) (fun r hr => ?_) fun x out H2 nx s2 P2 z3 M2 => ?_⟩
    · rcases List.mem_append.mp hr with q | q
      · exact O1.ok r q
      · exact O2.ok r q
    · refine k x out H2 (none_of s1 nx) (s1.trans s2) (fun G A => P2 G (A.same s1)) (by simp at z3; omega) fun o => ?_
      rw [M2 o, Mem.app]
abbrev sp_Spans_and_ (K : PySem.W.Frag) (C : Addr) : Sp := OpSp C fun o rs qs => Mem o rs ∧ Mem o qs
theorem ok_Spans_and_ (T : Txt K mg) : FnOk P w K mg base CX0 6 T.a_Spans_and_ T.fd_Spans_and_ ["self", "other"] (sp_Spans_and_ K T.c_Spans) := by
  have S := sc_Spans_and_
  refine T.F_Spans_and_.ok S (fun vs H Q E h => ?_) (fun cdv A outer s H vs Q E hr h => ?_)
  · obtain ⟨e, e2, rs, qs, rfl, _⟩ := h
    rfl
  · obtain ⟨e, e2, rs, qs, rfl, S1, S2, z1, z2, k⟩ := h
    obtain ⟨dx, l, ts, he, R1, _, _, _, O1⟩ := id S1
    obtain ⟨dx2, l2, ts2, he2, R2, _, _, _, O2⟩ := id S2
    refine ⟨_, (pss_cons (ps_if (pt_not (pt_val (pe_callB (id := "isinstance") call_isi (by rfl) T.b_isinstance (by decide +kernel) (pa_cons (pv 1) (pa_cons (pe_glob (v := .ref T.c_Spans) rfl T.g_Spans rfl) pa_nil))))) (pss_one ps_dead) pss_nil)
      (pss_cons (ps_set (i := 2) S.nd rfl (Or.inl rfl) (pe_call (ok_common T) (hr.mono (by decide)) rfl T.g_common T.F_common.kp T.B_common .nil pass0 (pa_cons (pe_fld (pv 0) rfl) (pa_cons (pe_fld (pv 1) rfl) pa_nil))))
      (pss_one (ps_ret (pe_makeS1 T.M_Spans (ok_Spans_init_ T) (hr.mono (by decide)) rfl T.g_Spans passL (pv 2)))))), ?_⟩
    refine st_Spans_and_ ?_
    o_args
    refine isSp T S2 ?_
    o_args
    refine fget he T.cl_Spans T.n_Spans__runs rfl ?_
    o_args
    refine fget he2 T.cl_Spans T.n_Spans__runs rfl ?_
    o_args
    refine ⟨l, l2, ts, ts2, rs, qs, rfl, R1, R2, O1.nrm, O2.nrm, by omega, by omega, fun m us mid H1 nm nt s1 r1 z3 n1 b1 m1 => ?_⟩
    o_args
    refine x_makeS ?_
    o_args
    refine ⟨m, _, rfl, .inr (SqL.of r1.1), make_runs r1.2 (by omega) (fun r hr => ?_) fun x out H2 nx s2 P2 z4 M2 => ?_⟩
    · obtain ⟨a, ha, h⟩ := b1 r hr
      have := O1.lo a ha
      have := n1.1 r hr
      omega
    · refine k x out H2 (none_of s1 nx) (s1.trans s2) (fun G A => P2 G (A.same s1)) (by omega) fun o => ?_
      rw [M2 o, m1 o]
abbrev sp_Spans_sub_ (K : PySem.W.Frag) (C : Addr) : Sp := OpSp C fun o rs qs => Mem o rs ∧ ¬ Mem o qs
theorem ok_Spans_sub_ (T : Txt K mg) : FnOk P w K mg base CX0 6 T.a_Spans_sub_ T.fd_Spans_sub_ ["self", "other"] (sp_Spans_sub_ K T.c_Spans) := by
  have S := sc_Spans_sub_
  refine T.F_Spans_sub_.ok S (fun vs H Q E h => ?_) (fun cdv A outer s H vs Q E hr h => ?_)
  · obtain ⟨e, e2, rs, qs, rfl, _⟩ := h
    rfl
  · obtain ⟨e, e2, rs, qs, rfl, S1, S2, z1, z2, k⟩ := h
    obtain ⟨dx, l, ts, he, R1, _, _, _, O1⟩ := id S1
    obtain ⟨dx2, l2, ts2, he2, R2, _, _, _, O2⟩ := id S2
    refine ⟨_, (pss_cons (ps_if (pt_not (pt_val (pe_callB (id := "isinstance") call_isi (by rfl) T.b_isinstance (by decide +kernel) (pa_cons (pv 1) (pa_cons (pe_glob (v := .ref T.c_Spans) rfl T.g_Spans rfl) pa_nil))))) (pss_one ps_dead) pss_nil)
      (pss_cons (ps_set (i := 2) S.nd rfl (Or.inl rfl) (pe_call (ok_without T) (hr.mono (by decide)) rfl T.g_without T.F_without.kp T.B_without .nil pass0 (pa_cons (pe_fld (pv 0) rfl) (pa_cons (pe_fld (pv 1) rfl) pa_nil))))
      (pss_one (ps_ret (pe_makeS1 T.M_Spans (ok_Spans_init_ T) (hr.mono (by decide)) rfl T.g_Spans passL (pv 2)))))), ?_⟩
    refine st_Spans_sub_ ?_
    o_args
    refine isSp T S2 ?_
    o_args
    refine fget he T.cl_Spans T.n_Spans__runs rfl ?_
    o_args
    refine fget he2 T.cl_Spans T.n_Spans__runs rfl ?_
    o_args
    refine ⟨l, l2, ts, ts2, rs, qs, rfl, R1, R2, O1, O2.nrm, by omega, by omega, fun m us mid H1 nm nt s1 r1 z3 o1 m1 => ?_⟩
    o_args
    refine x_makeS ?_
    o_args
    refine ⟨m, _, rfl, .inr (SqL.of r1.1), make_runs r1.2 (by omega) o1.ok fun x out H2 nx s2 P2 z4 M2 => ?_⟩
    refine k x out H2 (none_of s1 nx) (s1.trans s2) (fun G A => P2 G (A.same s1)) (by omega) fun o => ?_
    rw [M2 o, m1 o]
theorem eqv_runs : ∀ rs qs : List Run, PyData.eqvAll (rs.map fun r => .tuple [.int r.1, .int r.2]) (qs.map fun r => .tuple [.int r.1, .int r.2]) = decide (rs = qs)
  | [], [] => by simp [PyData.eqvAll]
  | [], y :: ys => by simp [PyData.eqvAll]
  | x :: xs, [] => by simp [PyData.eqvAll]
  | x :: xs, y :: ys => by
    have e := eqv_runs xs ys
    obtain ⟨a, b⟩ := x
    obtain ⟨c, d⟩ := y
    simp only [List.map_cons, PyData.eqvAll, e, PyData.eqv]
    by_cases h1 : a = c <;> by_cases h2 : b = d <;> by_cases h3 : xs = ys <;> simp [h1, h2, h3]
theorem eqRuns {K : PySem.W.Frag} {H : Hp} {Q : VK} {l m : Addr} {ts us : List Addr} {rs qs : List Run} (h : RunsL l ts rs H) (g : RunsL m us qs H) (q : Q (.bl (decide (rs = qs))) H) : rEqD K (.ref l) (.ref m) H Q :=
  ⟨_, _, .lst (SqL.of h.1) (dp_pairs h.2), .lst (SqL.of g.1) (dp_pairs g.2), lay_pd rs, lay_pd qs, by
    rw [show PyData.eqv (.list (rs.map fun r => .tuple [.int r.1, .int r.2])) (.list (qs.map fun r => .tuple [.int r.1, .int r.2])) = decide (rs = qs) by
      simp only [PyData.eqv]
      exact eqv_runs rs qs]
    exact q⟩
theorem notSp {K : PySem.W.Frag} {mg : Str → Option Value} (T : Txt K mg) {y : V} {t : String} {H : Hp} {Q : VK} (b : Bi H y t) (q : Q (.bl false) H) : rIsi K [y, .ref T.c_Spans] H Q := by
  cases b with
  | non => exact ⟨_, _, _, _, false, rfl, .own _, .base .non, T.kb_NoneType, q⟩
  | bl b => exact ⟨_, _, _, _, false, rfl, .own _, .base (.bl b), T.kb_bool, q⟩
  | int i => exact ⟨_, _, _, _, false, rfl, .own _, .base (.int i), T.kb_int, q⟩
  | str z => exact ⟨_, _, _, _, false, rfl, .own _, .base (.str z), T.kb_str, q⟩
  | tup h => exact ⟨_, _, _, _, false, rfl, .own _, .base (.tup h), T.kb_tuple, q⟩
  | lst h => exact ⟨_, _, _, _, false, rfl, .own _, .base (.lst h), T.kb_list, q⟩
def sp_Spans_eq_ (K : PySem.W.Frag) (C : Addr) : Sp := fun vs H Q _ => ∃ (e : Addr) (y : V) (rs : List Run), vs = [.ref e, y] ∧ SpA C e [] rs H ∧ ((∃ e2 qs, y = .ref e2 ∧ SpA C e2 [] qs H ∧ Q (.bl (decide (rs = qs))) H) ∨ ((∃ t, Bi H y t) ∧ Q (.bl false) H))
theorem ok_Spans_eq_ (T : Txt K mg) : FnOk P w K mg base CX0 1 T.a_Spans_eq_ T.fd_Spans_eq_ ["self", "other"] (sp_Spans_eq_ K T.c_Spans) := by
  have S := sc_Spans_eq_
  refine T.F_Spans_eq_.ok S (fun vs H Q E h => ?_) (fun cdv A outer s H vs Q E hr h => ?_)
  · obtain ⟨e, y, rs, rfl, _⟩ := h
    rfl
  · obtain ⟨e, y, rs, rfl, S1, h⟩ := h
    obtain ⟨dx, l, ts, he, R1, _, _, _, O1⟩ := id S1
    refine ⟨_, (pss_one (ps_ret (pe_and (pe_callB (id := "isinstance") call_isi (by rfl) T.b_isinstance (by decide +kernel) (pa_cons (pv 1) (pa_cons (pe_glob (v := .ref T.c_Spans) rfl T.g_Spans rfl) pa_nil))) (pe_one (pe_cmpR (op_eqD hr.units) (pe_fld (pv 0) rfl) (pe_fld (pv 1) rfl) (nomark _)))))), ?_⟩
    refine st_Spans_eq_ ?_
    o_args
    rcases h with ⟨e2, qs, rfl, S2, k⟩ | ⟨⟨t, b⟩, k⟩
    · obtain ⟨dx2, l2, ts2, he2, R2, _⟩ := id S2
      refine isSp T S2 ?_
      o_args
      refine fget he T.cl_Spans T.n_Spans__runs rfl ?_
      o_args
      refine fget he2 T.cl_Spans T.n_Spans__runs rfl ?_
      refine eqRuns R1 R2 ?_
      exact k
    · refine notSp T b ?_
      o_args
      exact k
/-! ### two sets joined -/
def jP (way : Int) (p q : Prop) : Prop := if way = 0 then p ∨ q else if way = 1 then p ∧ q else p ∧ ¬ q
def jB (way : Int) (p q : Bool) : Bool := if way = 0 then p || q else if way = 1 then p && q else p && !q
theorem jPB {way : Int} {p q : Bool} : jB way p q = true ↔ jP way (p = true) (q = true) := by
  unfold jB jP
  by_cases h0 : way = 0
  · simp [h0]
  · by_cases h1 : way = 1
    · simp [h1]
    · simp [h0, h1]
def sp__law_joined (K : PySem.W.Frag) (C : Addr) : Sp := fun vs H Q _ => ∃ (e e2 : Addr) (rs qs : List Run) (way : Int), vs = [.ref e, .ref e2, .int way] ∧ SpA C e [] rs H ∧ SpA C e2 [] qs H ∧ rs.length < 10000 ∧ qs.length < 10000 ∧
  ∀ x out H', H x = none → Same H H' → (∀ G, Al G H → SpA C x G out H') → out.length ≤ rs.length + qs.length + 1 → (∀ o, Mem o out ↔ jP way (Mem o rs) (Mem o qs)) → Q (.ref x) H'
theorem ok__law_joined (T : Txt K mg) : FnOk P w K mg base CX0 7 T.a__law_joined T.fd__law_joined ["left", "right", "way"] (sp__law_joined K T.c_Spans) := by
  have S := sc__law_joined
  refine T.F__law_joined.ok S (fun vs H Q E h => ?_) (fun cdv A outer s H vs Q E hr h => ?_)
  · obtain ⟨e, e2, rs, qs, way, rfl, _⟩ := h
    rfl
  · obtain ⟨e, e2, rs, qs, way, rfl, S1, S2, z1, z2, k⟩ := h
    obtain ⟨dx, l, ts, he, _⟩ := id S1
    obtain ⟨dx2, l2, ts2, he2, _⟩ := id S2
    refine ⟨_, (pss_cons (ps_if (pt_cmpR op_eq (pv 2) pe_int (nomark _)) (pss_one (ps_ret (pe_op (op_binOwn T.m_Spans_or_ rfl T.sf_Spans (ok_Spans_or_ T) (hr.mono (by decide)) T.B_Spans_or_ pass0) (pv 0) (pv 1)))) pss_nil)
      (pss_cons (ps_if (pt_cmpR op_eq (pv 2) pe_int (nomark _)) (pss_one (ps_ret (pe_op (op_binOwn T.m_Spans_and_ rfl T.sf_Spans (ok_Spans_and_ T) (hr.mono (by decide)) T.B_Spans_and_ pass0) (pv 0) (pv 1)))) pss_nil)
      (pss_one (ps_ret (pe_op (op_binOwn T.m_Spans_sub_ rfl T.sf_Spans (ok_Spans_sub_ T) (hr.mono (by decide)) T.B_Spans_sub_ pass0) (pv 0) (pv 1)))))), ?_⟩
    refine st__law_joined ?_
    o_args
    refine brD (fun q => ?_) (fun q => ?_)
    · o_args
      refine ⟨e, e2, dx, dx2, _, _, rfl, rfl, he, he2, e, e2, rs, qs, rfl, S1, S2, z1, z2, fun x out H' nx s P z M => ⟨x, rfl, ?_⟩⟩
      refine k x out H' nx s P z fun o => ?_
      rw [M o, jP, if_pos q]
    o_args
    refine brD (fun q1 => ?_) (fun q1 => ?_)
    · o_args
      refine ⟨e, e2, dx, dx2, _, _, rfl, rfl, he, he2, e, e2, rs, qs, rfl, S1, S2, z1, z2, fun x out H' nx s P z M => ⟨x, rfl, ?_⟩⟩
      refine k x out H' nx s P z fun o => ?_
      rw [M o, jP, if_neg q, if_pos q1]
    o_args
    refine ⟨e, e2, dx, dx2, _, _, rfl, rfl, he, he2, e, e2, rs, qs, rfl, S1, S2, z1, z2, fun x out H' nx s P z M => ⟨x, rfl, ?_⟩⟩
    refine k x out H' nx s P z fun o => ?_
    rw [M o, jP, if_neg q, if_neg q1]
def sp__law_joined_has (K : PySem.W.Frag) : Sp := fun vs H Q _ => ∃ (h h2 : Addr) (hs hs2 : List Deed) (way o : Int), vs = [.ref h, .ref h2, .int way, .int o] ∧ HistA h [] hs H ∧ HistA h2 [] hs2 H ∧ Q (.bl (jB way (hasF hs o) (hasF hs2 o))) H
theorem ok__law_joined_has (T : Txt K mg) : FnOk P w K mg base CX0 2 T.a__law_joined_has T.fd__law_joined_has ["one", "two", "way", "offset"] (sp__law_joined_has K) := by
  have S := sc__law_joined_has
  refine T.F__law_joined_has.ok S (fun vs H Q E h => ?_) (fun cdv A outer s H vs Q E hr h => ?_)
  · obtain ⟨h, h2, hs, hs2, way, o, rfl, _⟩ := h
    rfl
  · obtain ⟨h, h2, hs, hs2, way, o, rfl, A1, A2, k⟩ := h
    refine ⟨_, (pss_cons (ps_set (i := 4) S.nd rfl (Or.inl rfl) (pe_call (ok__law_has T) (hr.mono (by decide)) rfl T.g__law_has T.F__law_has.kp T.B__law_has .nil pass0 (pa_cons (pv 0) (pa_cons (pv 3) pa_nil))))
      (pss_cons (ps_set (i := 5) S.nd rfl (Or.inl rfl) (pe_call (ok__law_has T) (hr.mono (by decide)) rfl T.g__law_has T.F__law_has.kp T.B__law_has .nil pass0 (pa_cons (pv 1) (pa_cons (pv 3) pa_nil))))
      (pss_cons (ps_if (pt_cmpR op_eq (pv 2) pe_int (nomark _)) (pss_one (ps_ret (pe_or (pv 4) (pe_one (pv 5))))) pss_nil)
      (pss_cons (ps_if (pt_cmpR op_eq (pv 2) pe_int (nomark _)) (pss_one (ps_ret (pe_and (pv 4) (pe_one (pv 5))))) pss_nil)
      (pss_one (ps_ret (pe_and (pv 4) (pe_one (pe_not (pv 5)))))))))), ?_⟩
    refine st__law_joined_has ?_
    o_args
    refine ⟨h, _, hs, o, rfl, A1, ?_⟩
    o_args
    refine ⟨h2, _, hs2, o, rfl, A2, ?_⟩
    o_args
    generalize hasF hs o = p at k
    generalize hasF hs2 o = r at k
    refine brD (fun q => ?_) (fun q => ?_)
    · rw [jB, if_pos q] at k
      cases p <;> o_args <;> exact k
    o_args
    refine brD (fun q1 => ?_) (fun q1 => ?_)
    · rw [jB, if_neg q, if_pos q1] at k
      cases p <;> o_args <;> exact k
    rw [jB, if_neg q, if_neg q1] at k
    cases p <;> cases r <;> o_args <;> exact k
/-! ### what is due of two histories -/
theorem Hist.app {H : Hp} {ts us : List Addr} {hs qs : List Deed} (h : Hist H ts hs) (g : Hist H us qs) : Hist H (ts ++ us) (hs ++ qs) := ⟨by rw [List.length_append, List.length_append, h.1, g.1], fun i t r a b => by
  by_cases c : i < ts.length
  · rw [List.getElem?_append_left c] at a
    rw [List.getElem?_append_left (by have := h.1; omega)] at b
    exact h.2 i t r a b
  · rw [List.getElem?_append_right (by omega)] at a
    rw [List.getElem?_append_right (by have := h.1; omega), ← h.1] at b
    exact g.2 _ t r a b⟩
/-- both histories -/
def jF (way : Int) (hs qs : List Deed) (o : Int) : Bool := jB way (hasF hs o) (hasF qs o)
theorem Ends'.left {hs qs : List Deed} {es : List Int} (E : Ends' (hs ++ qs) es) : Ends' hs es := ⟨E.so, fun d hd => E.lo d (List.mem_append_left _ hd)⟩
theorem Ends'.right {hs qs : List Deed} {es : List Int} (E : Ends' (hs ++ qs) es) : Ends' qs es := ⟨E.so, fun d hd => E.lo d (List.mem_append_right _ hd)⟩
theorem Ends'.flatJ {hs qs : List Deed} {es : List Int} {way : Int} (E : Ends' (hs ++ qs) es) {k : Nat} {low high : Int} (hl : es[k]? = some low) (hh : es[k + 1]? = some high) : ∀ o, low ≤ o → o < high → jF way hs qs o = jF way hs qs low := fun o c1 c2 => by
  unfold jF
  rw [E.left.flat hl hh o c1 c2, E.right.flat hl hh o c1 c2]
theorem Ends'.doneJ {hs qs : List Deed} {es : List Int} {way : Int} {due : List Run} (E : Ends' (hs ++ qs) es) (D : Due (jF way hs qs) es (es.length - 1) due) : ∀ o, Mem o due ↔ jF way hs qs o = true := fun o => by
  rw [D.mem o]
  refine ⟨fun h => h.1, fun h => ⟨h, ?_⟩⟩
  have cov : ∃ d ∈ hs ++ qs, d.2.1 ≤ o ∧ o < d.2.2 := by
    have : hasF hs o = true ∨ hasF qs o = true := by
      have := jPB.mp h
      unfold jP at this
      by_cases h0 : way = 0
      · rw [if_pos h0] at this; exact this
      · rw [if_neg h0] at this
        by_cases h1 : way = 1
        · rw [if_pos h1] at this; exact .inl this.1
        · rw [if_neg h1] at this; exact .inl this.1
    rcases this with q | q
    · obtain ⟨d, hd, c⟩ := hasF_cov q
      exact ⟨d, List.mem_append_left _ hd, c⟩
    · obtain ⟨d, hd, c⟩ := hasF_cov q
      exact ⟨d, List.mem_append_right _ hd, c⟩
  obtain ⟨d, hd, c1, c2⟩ := cov
  obtain ⟨m1, m2⟩ := E.lo d hd
  have ln : 0 < es.length := List.length_pos_of_mem m1
  have h0 : es[0]? = some es[0] := List.getElem?_eq_getElem ln
  have h1 : es[es.length - 1]? = some es[es.length - 1] := List.getElem?_eq_getElem (by omega)
  have a := E.first h0 _ m1
  have b := E.last (n := es.length - 1) (by omega) h1 _ m2
  exact ⟨_, _, h0, h1, by omega, by omega⟩
def sp__law_joined_due (K : PySem.W.Frag) : Sp := fun vs H Q _ => ∃ (h1 h2 : Addr) (ds qs : List Deed) (way : Int), vs = [.ref h1, .ref h2, .int way] ∧ HistA h1 [] ds H ∧ HistA h2 [] qs H ∧ ds.length < 4000 ∧ qs.length < 4000 ∧
  ∀ l ts due H', H l = none → Same H H' → RunsL l ts due H' → Nrm due → (∀ o, Mem o due ↔ jF way ds qs o = true) → Q (.ref l) H'
set_option maxHeartbeats 0 in
theorem ok__law_joined_due (T : Txt K mg) : FnOk P w K mg base CX0 3 T.a__law_joined_due T.fd__law_joined_due ["one", "two", "way"] (sp__law_joined_due K) := by
  have S := sc__law_joined_due
  refine T.F__law_joined_due.ok S (fun vs H Q E h => ?_) (fun cdv A outer s H vs Q E hr h => ?_)
  · obtain ⟨h1, h2, ds, qs, way, rfl, _⟩ := h
    rfl
  · obtain ⟨a1, a2, ds, qs, way, rfl, X1, X2, zz1, zz2, k0⟩ := h
    refine ⟨_, (pss_cons (ps_set (i := 3) S.nd rfl (Or.inl rfl) (pe_op op_cat (pv 0) (pv 1)))
      (pss_cons (ps_set (i := 4) S.nd rfl (Or.inl rfl) (pe_callB (id := "sorted") cr_sortedI (by rfl) T.b_sorted (by decide +kernel) (pa_cons (pe_op op_cat (pe_lc (own := [("deed", 9)]) (g := gName 9) (tt := tYes) rfl S.nd (pi_list (pv 3)) (blkOk_by (N := ["one", "two", "way", "both", "ends", "due", "k", "low", "high", "deed"]) (sc := defScope s__law_joined_due) (by decide +kernel)) (fun _ _ _ _ _ => pg_name (i := 9) S.nd rfl (Or.inl rfl)) (fun _ _ _ _ _ => pts_nil) (fun _ _ _ _ _ => (pe_ix (show IxR _ (rIxT K) from ix_tup) (pv 9) pe_int (fun _ _ => rfl)))) (pe_lc (own := [("deed", 9)]) (g := gName 9) (tt := tYes) rfl S.nd (pi_list (pv 3)) (blkOk_by (N := ["one", "two", "way", "both", "ends", "due", "k", "low", "high", "deed"]) (sc := defScope s__law_joined_due) (by decide +kernel)) (fun _ _ _ _ _ => pg_name (i := 9) S.nd rfl (Or.inl rfl)) (fun _ _ _ _ _ => pts_nil) (fun _ _ _ _ _ => (pe_ix (show IxR _ (rIxT K) from ix_tup) (pv 9) pe_int (fun _ _ => rfl))))) pa_nil)))
      (pss_cons (ps_set (i := 5) S.nd rfl (Or.inl rfl) (pe_lst pa_nil))
      (pss_cons (ps_for PassesOwn.never rfl (pi_range2 (by rfl) T.b_range (pa_cons pe_int (pa_cons (pe_callB (id := "len") (call_lenK (K := K) rfl) (by rfl) T.b_len (by decide +kernel) (pa_cons (pv 4) pa_nil)) pa_nil))) (pg_name (i := 6) S.nd rfl (Or.inl rfl)) (pss_cons (ps_set (i := 7) S.nd rfl (Or.inl rfl) (pe_ix ix_list (pv 4) (pe_op op_sub (pv 6) pe_int) (fun _ _ => rfl)))
      (pss_cons (ps_set (i := 8) S.nd rfl (Or.inl rfl) (pe_ix ix_list (pv 4) (pv 6) (fun _ _ => rfl)))
      (pss_one (ps_if (PW.pt (pw_and (pt_cmpR op_lt (pv 7) (pv 8) (nomark _)) (pw_and1 (pt_val (pe_call (ok__law_joined_has T) (hr.mono (by decide)) rfl T.g__law_joined_has T.F__law_joined_has.kp T.B__law_joined_has .nil pass0 (pa_cons (pv 0) (pa_cons (pv 1) (pa_cons (pv 2) (pa_cons (pv 7) pa_nil))))))))) (pss_one (ps_if (PW.pt (pw_and (pt_cmpR (op_neD hr.units) (pv 5) (pe_lst pa_nil) (nomark _)) (pw_and1 (pt_cmpR op_eq (pe_ix ix_tup (pe_ix ix_list (pv 5) (pe_un un_neg pe_int) (fun _ _ => rfl)) pe_int (fun _ _ => rfl)) (pv 7) (nomark _))))) (pss_one (ps_asg (pe_tup (pa_cons (pe_ix ix_tup (pe_ix ix_list (pv 5) (pe_un un_neg pe_int) (fun _ _ => rfl)) pe_int (fun _ _ => rfl)) (pa_cons (pv 8) pa_nil))) (pg_sub (pv 5) (pe_un un_neg pe_int) set_list))) (pss_one (ps_expr (pe_bm PySem.F.plainAttrs_list PySem.F.slot_list_append PySem.F.type_list_append mt_append (pv 5) (pa_cons (pe_tup (pa_cons (pv 7) (pa_cons (pv 8) pa_nil))) pa_nil)))))) pss_nil)))))
      (pss_one (ps_ret (pv 5))))))), ?_⟩
    refine st__law_joined_due ?_
    o_args
    obtain ⟨ts1, g1, G1, _⟩ := id X1
    obtain ⟨ts2, g2, G2, _⟩ := id X2
    have gz1 := G1.1
    have gz2 := G2.1
    refine catList g1 g2 (by simp; omega) fun h Ha nh sa ha => ?_
    o_args
    rw [← List.map_append] at ha
    have A0 := Hist.app (G1.ch (Ch.of (G := []) sa) fun _ _ z => nomatch z) (G2.ch (Ch.of (G := []) sa) fun _ _ z => nomatch z)
    have Y1 := X1.same sa
    have Y2 := X2.same sa
    have k := fun l ts due H' (n : Ha l = none) (s : Same Ha H') => k0 l ts due H' (none_of sa n) (sa.trans s)
    clear k0 X1 X2 G1 G2 g1 g2 sa nh
    obtain ⟨hs, ehs⟩ : ∃ hs, hs = ds ++ qs := ⟨_, rfl⟩
    obtain ⟨ts, ets⟩ : ∃ ts, ts = ts1 ++ ts2 := ⟨_, rfl⟩
    rw [← ehs, ← ets] at A0
    rw [← ets] at ha
    have hz : hs.length < 10000 := by rw [ehs, List.length_append]; omega
    have tz := A0.1
    refine lcG (a := h) (xs := ts.map V.ref) (fun D i vs H' => SameX D Ha H' ∧ vs = ((hs.take i).map fun d => d.2.1).map V.int) (fun R h => ⟨_, rfl, h⟩) (SqL.of ha) (by rw [List.length_map]; omega) (fun D _ => ⟨SameX.upd, by simp⟩) (fun D i vs H' hD hP => SqL.of (hP.1 _ _ (ne_of_none ha hD) ha)) (fun D i v vs H' hD hv hle hd hP => ?_) (fun D vs H1 hD hd hle hP => ?_)
    · obtain ⟨s, e1⟩ := hP
      have il := getq_lt hv
      rw [List.length_map, A0.1] at il
      obtain ⟨t, _, e2, ht⟩ := A0.at (List.getElem?_eq_getElem il)
      rw [e2] at hv
      cases hv
      have tk : hs.take (i + 1) = hs.take i ++ [hs[i]] := by rw [List.take_succ, List.getElem?_eq_getElem il]; rfl
      generalize hs[i] = d at tk ht
      have ht' := s _ _ (ne_of_none ht hD) ht
      intro Y N hY hN
      dsimp only [tYes]
      rw [if_pos rfl]
      o_args
      exact hY _ H' hd ⟨s.upd', by rw [e1, tk]; simp⟩
    obtain ⟨s, e1⟩ := hP
    rw [List.length_map, A0.1, List.take_length] at e1
    subst e1
    have S1 := Same.ofX hD s
    have A1 : Hist H1 ts hs := A0.ch (Ch.of (G := []) S1) (fun _ _ z => nomatch z)
    refine lcG (a := h) (xs := ts.map V.ref) (fun D i vs H' => SameX D H1 H' ∧ vs = ((hs.take i).map fun d => d.2.2).map V.int) (fun R h => ⟨_, rfl, h⟩) (SqL.of (S1 _ _ ha)) (by rw [List.length_map]; omega) (fun D _ => ⟨SameX.upd, by simp⟩) (fun D i vs H' hD hP => SqL.of (hP.1 _ _ (ne_of_none (S1 _ _ ha) hD) (S1 _ _ ha))) (fun D i v vs H' hD hv hle hd hP => ?_) (fun D2 vs H2 hD2 hd2 hle2 hP => ?_)
    · obtain ⟨s, e1⟩ := hP
      have il := getq_lt hv
      rw [List.length_map, A0.1] at il
      obtain ⟨t, _, e2, ht⟩ := A1.at (List.getElem?_eq_getElem il)
      rw [e2] at hv
      cases hv
      have tk : hs.take (i + 1) = hs.take i ++ [hs[i]] := by rw [List.take_succ, List.getElem?_eq_getElem il]; rfl
      generalize hs[i] = d at tk ht
      have ht' := s _ _ (ne_of_none ht hD) ht
      intro Y N hY hN
      dsimp only [tYes]
      rw [if_pos rfl]
      o_args
      exact hY _ H' hd ⟨s.upd', by rw [e1, tk]; simp⟩
    obtain ⟨s2, e2⟩ := hP
    rw [List.length_map, A0.1, List.take_length] at e2
    subst e2
    have S2 := Same.ofX hD2 s2
    refine catList (S2 _ _ hd) hd2 (by simp; omega) fun c H3 nc s3 h3 => ?_
    o_args
    rw [← List.map_append] at h3
    refine ⟨c, _, rfl, SqL.of h3, fun es p hp so np => ?_⟩
    have S4 : Same H3 (upd H3 p (.lst (es.map V.int))) := Same.new np
    have h4 : upd H3 p (.lst (es.map V.int)) p = some (.lst (es.map V.int)) := upd_same
    generalize upd H3 p (.lst (es.map V.int)) = H4 at S4 h4
    have S := ((S1.trans S2).trans s3).trans S4
    have E : Ends' hs es := ⟨so, fun d hd => ⟨hp.mem_iff.mpr (List.mem_append_left _ (List.mem_map.mpr ⟨d, hd, rfl⟩)), hp.mem_iff.mpr (List.mem_append_right _ (List.mem_map.mpr ⟨d, hd, rfl⟩))⟩⟩
    have EJ : Ends' (ds ++ qs) es := by rw [← ehs]; exact E
    have le : es.length = hs.length + hs.length := by have := hp.length_eq; simpa using this
    have A4 : HistA h [] hs H4 := ⟨ts, S _ _ ha, A0.ch (Ch.of (G := []) S) (fun _ _ z => nomatch z), (fun z => nomatch z), fun _ _ z => nomatch z⟩
    o_args
    refine newList (by simp) fun l H5 nl s5 h5 => ?_
    have p5 := s5 _ _ h4
    have A5 := A4.same s5
    have S5 := S.trans s5
    have HN : Ha l = none := none_of S nl
    o_args
    refine lenA (SeqA.lst p5) ?_
    o_args
    rw [List.length_map]
    refine ⟨1, es.length, rfl, ⟨by decide, by decide, by omega, by omega⟩, ?_⟩
    have lp : p ∉ [l] := fun z => ne_of_none h4 nl (List.mem_singleton.mp z)
    refine for_rangeK (lo := 1) (n := ((es.length : Int) - 1).toNat) (fun i σ H' => ∃ a b c ts' due, σ = [some (.ref a1), some (.ref a2), some (.int way), some (.ref h), some (.ref p), some (.ref l), a, b, c, none] ∧ Ch [l] H5 H' ∧ RunsL l ts' due H' ∧ due.length ≤ i ∧ Due (jF way ds qs) es i due) ⟨none, none, none, [], [], rfl, Ch.refl, ⟨h5, .nil⟩, Nat.le_refl _, Due.start⟩ ?_ ?_
    · rintro i σ H6 hi ⟨a, b, c', ts', due, rfl, c6, r6, z6, D⟩
      have i1 : i + 1 < es.length := by omega
      have el : es[i]? = some es[i] := List.getElem?_eq_getElem (by omega)
      have eh : es[i + 1]? = some es[i + 1] := List.getElem?_eq_getElem i1
      obtain ⟨lh, _⟩ := E.gap el eh
      have fl := EJ.flatJ (way := way) el eh
      have e0 : es[0]? = some es[0] := List.getElem?_eq_getElem (by omega)
      have fst := E.first e0 _ (List.mem_of_getElem? el)
      have vl : (es.map V.int)[i]? = some (.int es[i]) := by rw [List.getElem?_map, el]; rfl
      have vh : (es.map V.int)[i + 1]? = some (.int es[i + 1]) := by rw [List.getElem?_map, eh]; rfl
      generalize es[i] = low at el lh fl fst vl
      generalize es[i + 1] = high at eh lh fl vh
      have p6 := c6.at lp p5
      have A6 : HistA h [l] hs H6 := (A4.own nl s5).ch c6 (fun _ h => h)
      have Z1 : HistA a1 [] ds H6 := (((Y1.same S).own nl s5).ch c6 (fun _ h => h)).less fun _ z => nomatch z
      have Z2 : HistA a2 [] qs H6 := (((Y2.same S).own nl s5).ch c6 (fun _ h => h)).less fun _ z => nomatch z
      have r6l := r6.len
      o_args
      refine ⟨p, es.map V.int, (1 + (i : Int)) - 1, .int low, rfl, rfl, SqL.of p6, by rw [show (1 + (i : Int)) - 1 = (i : Int) by omega]; exact atI_nat vl, ?_⟩
      o_args
      refine ⟨p, es.map V.int, 1 + (i : Int), .int high, rfl, rfl, SqL.of p6, by rw [show 1 + (i : Int) = ((i + 1 : Nat) : Int) by omega]; exact atI_nat vh, ?_⟩
      o_args
      have skip : ¬ (low < high ∧ jF way ds qs low = true) → ∀ H7, Ch [l] H5 H7 → RunsL l ts' due H7 → ∃ a b c ts' due, [some (V.ref a1), some (.ref a2), some (.int way), some (.ref h), some (.ref p), some (.ref l), some (.int (1 + (i : Int))), some (.int low), some (.int high), none] = [some (.ref a1), some (.ref a2), some (.int way), some (.ref h), some (.ref p), some (.ref l), a, b, c, none] ∧ Ch [l] H5 H7 ∧ RunsL l ts' due H7 ∧ due.length ≤ i + 1 ∧ Due (jF way ds qs) es (i + 1) due := fun n H7 c7 r7 => ⟨_, _, _, ts', due, rfl, c7, r7, by omega, D.skip el eh lh fl n⟩
      refine brD (fun q1 => ?_) (fun q1 => ?_)
      · o_args
        refine ⟨a1, a2, ds, qs, way, low, rfl, Z1, Z2, ?_⟩
        o_args
        refine br2 (fun q2 => ?_) (fun q2 => ?_)
        · have DA := D.add el eh e0 fst q1 fl q2
          o_args
          refine newList (by simp) fun m H7 nm s7 h7 => ?_
          have r7 := r6.same s7
          o_args
          refine nePairs r7 h7 ?_
          o_args
          rcases snoc_or due with rfl | ⟨da, r, rfl⟩
          · have e0' : ts' = [] := List.eq_nil_of_length_eq_zero r6l
            subst e0'
            refine brDT rfl ?_
            o_args
            refine ⟨isList r7.1, ?_⟩
            o_args
            refine newTup (by simp) fun u H8 nu s8 h8 => ?_
            o_args
            refine appList (s8 _ _ r7.1) (by simp) fun H9 s9 h9 => ?_
            have ul : u ≠ l := (ne_of_none r7.1 nu).symm
            o_args
            exact ⟨_, _, _, [u], [(low, high)], rfl, c6.trans ((Ch.of (s7.trans s8)).trans (Ch.ofX (by simp) s9 h9)), ⟨h9, Tups.snoc (ts := []) (rs := []) .nil (s9 _ _ ul h8)⟩, by simp, DA⟩
          · obtain ⟨ta, tr, rfl⟩ : ∃ a x, ts' = a ++ [x] := (snoc_or ts').resolve_left fun z => by rw [z] at r6l; simp at r6l
            have hl7 : H7 l = some (.lst (ta.map V.ref ++ [V.ref tr])) := by rw [r7.1, List.map_append]; rfl
            obtain ⟨Ti, Tr⟩ := r7.2.init
            rw [addDue_snoc] at DA
            refine brDF (by simp) ?_
            o_args
            refine ixLast hl7 ?_
            o_args
            refine brD (fun q3 => ?_) (fun q3 => ?_)
            · rw [if_pos q3] at DA
              o_args
              refine ixLast hl7 ?_
              o_args
              refine newTup (by simp) fun u H8 nu s8 h8 => ?_
              o_args
              refine setLast (s8 _ _ hl7) fun H9 s9 h9 => ?_
              have ul : u ≠ l := (ne_of_none hl7 nu).symm
              have c9 : Ch [l] H8 H9 := Ch.ofX (by simp) s9 h9
              have Ti9 : Tups H9 ta da := (Ti.same s8).ch c9 fun t ht z => (Ti.lst_ne hl7 t ht) (List.mem_singleton.mp z)
              o_args
              exact ⟨_, _, _, ta ++ [u], da ++ [(r.1, high)], rfl, c6.trans ((Ch.of (s7.trans s8)).trans c9), ⟨by rw [h9, List.map_append]; rfl, Ti9.snoc (r := (r.1, high)) (s9 _ _ ul h8)⟩, by simp at z6 ⊢; omega, DA⟩
            · rw [if_neg q3] at DA
              o_args
              refine ⟨isList r7.1, ?_⟩
              o_args
              refine newTup (by simp) fun u H8 nu s8 h8 => ?_
              o_args
              refine appList (s8 _ _ r7.1) (by rw [List.length_map]; omega) fun H9 s9 h9 => ?_
              have ul : u ≠ l := (ne_of_none hl7 nu).symm
              have c9 : Ch [l] H8 H9 := Ch.ofX (by simp) s9 h9
              have T9 : Tups H9 (ta ++ [tr]) (da ++ [r]) := (r7.2.same s8).ch c9 fun t ht z => (r7.2.lst_ne r7.1 t ht) (List.mem_singleton.mp z)
              o_args
              exact ⟨_, _, _, ta ++ [tr] ++ [u], da ++ [r] ++ [(low, high)], rfl, c6.trans ((Ch.of (s7.trans s8)).trans c9), ⟨by rw [h9, List.map_append (l₂ := [u])]; rfl, T9.snoc (r := (low, high)) (s9 _ _ ul h8)⟩, by simp at z6 ⊢; omega, DA⟩
        · o_args
          exact skip (fun z => by rw [show jF way ds qs low = false from q2] at z; exact nomatch z.2) H6 c6 r6
      · o_args
        exact skip (fun z => q1 z.1) H6 c6 r6
    · rintro σ H6 ⟨a, b, c', ts', due, rfl, c6, r6, z6, D⟩
      rw [show ((es.length : Int) - 1).toNat = es.length - 1 by omega] at D
      o_args
      exact k l ts' due H6 HN (Ch.same ((((Ch.of S).trans (Ch.of s5)).trans c6).drop HN)) r6 D.nrm (EJ.doneJ D)
/-! ### a set looked at -/
def sp__law_is_set (K : PySem.W.Frag) (C : Addr) : Sp := fun vs H Q _ => ∃ (e m : Addr) (us : List Addr) (rs : List Run), vs = [.ref e, .ref m] ∧ SpA C e [] rs H ∧ RunsL m us rs H ∧ rs.length < 20000 ∧ ∀ H', Same H H' → Q (.bl true) H'
theorem ok__law_is_set (T : Txt K mg) : FnOk P w K mg base CX0 3 T.a__law_is_set T.fd__law_is_set ["spans", "due"] (sp__law_is_set K T.c_Spans) := by
  have S := sc__law_is_set
  refine T.F__law_is_set.ok S (fun vs H Q E h => ?_) (fun cdv A outer s H vs Q E hr h => ?_)
  · obtain ⟨e, m, us, rs, rfl, _⟩ := h
    rfl
  · obtain ⟨e, m, us, due, rfl, hS, r0, hz, k⟩ := h
    obtain ⟨dx, l, ts, he, _⟩ := id hS
    refine ⟨_, (pss_cons (ps_if (PW.pt (pw_or (pt_not (pt_val (pe_callB (id := "isinstance") call_isi (by rfl) T.b_isinstance (by decide +kernel) (pa_cons (pv 0) (pa_cons (pe_glob (v := .ref T.c_Spans) rfl T.g_Spans rfl) pa_nil))))) (pw_or1 (pt_not (pt_val (pe_call (ok__law_pairs_are T) (hr.mono (by decide)) rfl T.g__law_pairs_are T.F__law_pairs_are.kp T.B__law_pairs_are .nil pass0 (pa_cons (pe_meth0 (pv 0) T.cl_Spans T.m_Spans_rows (ok_Spans_rows T) (hr.mono (by decide)) T.B_Spans_rows .nil pass0) (pa_cons (pv 1) pa_nil)))))))) (pss_one (ps_ret pe_bl)) pss_nil)
      (pss_cons (ps_set (i := 2) S.nd rfl (Or.inl rfl) (pe_meth0 (pv 0) T.cl_Spans T.m_Spans_total (ok_Spans_total T) (hr.mono (by decide)) T.B_Spans_total .nil pass0))
      (pss_cons (ps_if (PW.pt (pw_or (pt_not (pt_val (pe_call (ok__law_is_whole T) (hr.mono (by decide)) rfl T.g__law_is_whole T.F__law_is_whole.kp T.B__law_is_whole .nil pass0 (pa_cons (pv 2) pa_nil)))) (pw_or1 (pt_cmpR op_ne (pv 2) (pe_callB (id := "sum") (cr_sum rfl) (by rfl) T.b_sum (by decide +kernel) (pa_cons (pe_lc (own := [("pair", 3)]) (g := gName 3) (tt := tYes) rfl S.nd (pi_list (pv 1)) (blkOk_by (N := ["spans", "due", "many", "pair"]) (sc := defScope s__law_is_set) (by decide +kernel)) (fun _ _ _ _ _ => pg_name (i := 3) S.nd rfl (Or.inl rfl)) (fun _ _ _ _ _ => pts_nil) (fun _ _ _ _ _ => (pe_op op_sub (pe_ix (show IxR _ (rIxT K) from ix_tup) (pv 3) pe_int (fun _ _ => rfl)) (pe_ix (show IxR _ (rIxT K) from ix_tup) (pv 3) pe_int (fun _ _ => rfl))))) pa_nil)) (nomark _))))) (pss_one (ps_ret pe_bl)) pss_nil)
      (pss_one (ps_ret (pe_cmpR op_eq (pe_callB (id := "len") (call_lenOwn T.m_Spans_len_ (ok_Spans_len_ T) (hr.mono (by decide)) T.B_Spans_len_ pass0) (by rfl) T.b_len (by decide +kernel) (pa_cons (pv 0) pa_nil)) (pe_callB (id := "len") (call_lenK (K := K) rfl) (by rfl) T.b_len (by decide +kernel) (pa_cons (pv 1) pa_nil)) (nomark _))))))), ?_⟩
    refine st__law_is_set ?_
    o_args
    refine isSp T hS ?_
    o_args
    refine ⟨e, dx, _, rfl, he, rfl, ?_⟩
    o_args
    refine ⟨e, _, due, rfl, hS, fun t2 us2 H5 nt2 s5 r5 => ?_⟩
    have r45 := r0.same s5
    have S5 := hS.same s5
    have e5 := s5 _ _ he
    o_args
    refine ⟨t2, m, us2, us, due, rfl, r5, r45, by omega, ?_⟩
    o_args
    refine ⟨e, dx, _, rfl, e5, rfl, ?_⟩
    o_args
    refine ⟨e, _, due, rfl, S5, by omega, fun H6 s6 => ?_⟩
    have r6 := r45.same s6
    have S6 := S5.same s6
    have e6 := s6 _ _ e5
    have SS6 := s5.trans s6
    clear S5 r5 r45 s6 s5 r0 hS he e5
    o_args
    refine ⟨_, rfl, ?_⟩
    o_args
    refine lcG (a := m) (xs := us.map V.ref) (fun D i vs H' => SameX D H6 H' ∧ vs = ((due.take i).map fun r => r.2 - r.1).map V.int) (fun R h => ⟨_, rfl, h⟩) (SqL.of r6.1) (by rw [List.length_map, r6.len]; omega) (fun D _ => ⟨SameX.upd, by simp⟩) (fun D i vs H' hD hP => SqL.of (hP.1 _ _ (ne_of_none r6.1 hD) r6.1)) (fun D i v vs H' hD hv hle hd hP => ?_) (fun D vs H7 hD hd hle hP => ?_)
    · obtain ⟨s, e1⟩ := hP
      have il := getq_lt hv
      rw [List.length_map, r6.len] at il
      obtain ⟨t, _, e2, ht⟩ := r6.at (List.getElem?_eq_getElem il)
      rw [e2] at hv
      cases hv
      have tk : due.take (i + 1) = due.take i ++ [due[i]] := by rw [List.take_succ, List.getElem?_eq_getElem il]; rfl
      generalize due[i] = r at tk ht
      have ht' := s _ _ (ne_of_none ht hD) ht
      intro Y N hY hN
      dsimp only [tYes]
      rw [if_pos rfl]
      o_args
      exact hY _ H' hd ⟨s.upd', by rw [e1, tk]; simp⟩
    obtain ⟨s7, e7⟩ := hP
    rw [List.length_map, r6.len, List.take_length] at e7
    subst e7
    have S67 := Same.ofX hD s7
    have S7 := S6.same S67
    have e7 := S67 _ _ e6
    have r7 := r6.same S67
    refine ⟨D, _, rfl, SqL.of hd, ?_⟩
    o_args
    refine brDT rfl ?_
    o_args
    refine ⟨e, dx, _, rfl, e7, e, _, due, rfl, S7, _, rfl, by omega, by omega, ?_⟩
    o_args
    refine lenA (SeqA.lst r7.1) ?_
    rw [List.length_map, r7.len]
    refine x_eqI ?_
    rw [decide_eq_true rfl]
    exact k H7 (SS6.trans S67)
/-! ### deeds -/
def Dd (C a e h n : Addr) (Fb Fs Fh : List Addr) (m : Nat) (H : Hp) : Prop := ∃ (ns : List Int) (rs : List Run) (hs : List Deed), Box a Fb H ∧ IntL n ns H ∧ SpA C e Fs rs H ∧ HistA h Fh hs H ∧ (∀ o, Mem o rs ↔ hasF hs o = true) ∧ (ns.length ≤ m ∧ rs.length ≤ m ∧ hs.length ≤ m) ∧ Al Fs H ∧ Al Fh H ∧ (n ∈ Fb ∧ e ∈ Fb ∧ h ∈ Fb) ∧ (a ∈ Fs ∧ n ∈ Fs ∧ h ∈ Fs) ∧ a ∈ Fh ∧ n ∈ Fh ∧ e ∈ Fh
theorem Dd.more {C a e h n : Addr} {Fb Fs Fh : List Addr} {m m' : Nat} {H : Hp} (D : Dd C a e h n Fb Fs Fh m H) (z : m ≤ m') : Dd C a e h n Fb Fs Fh m' H := by
  obtain ⟨ns, rs, hs, B, N, P, A, M, ⟨z1, z2, z3⟩, q⟩ := D
  exact ⟨ns, rs, hs, B, N, P, A, M, ⟨by omega, by omega, by omega⟩, q⟩
theorem Dd.same {C a e h n : Addr} {Fb Fs Fh : List Addr} {m : Nat} {H H' : Hp} (D : Dd C a e h n Fb Fs Fh m H) (s : Same H H') : Dd C a e h n Fb Fs Fh m H' := by
  obtain ⟨ns, rs, hs, B, N, P, A, M, z, a1, a2, q⟩ := D
  exact ⟨ns, rs, hs, B.same s, s _ _ N, P.same s, A.same s, M, z, a1.same s, a2.same s, q⟩
theorem one_in {a : Addr} {F : List Addr} (h : a ∈ F) : ∀ b ∈ [a], b ∈ F := fun b hb => by rw [List.mem_singleton.mp hb]; exact h
theorem two_in {a c : Addr} {F : List Addr} (h : a ∈ F) (g : c ∈ F) : ∀ b ∈ [a, c], b ∈ F := fun b hb => by
  rcases List.mem_cons.mp hb with q | q
  · rw [q]; exact h
  · rw [List.mem_singleton.mp q]; exact g
def sp__law_deed (K : PySem.W.Frag) (C : Addr) : Sp := fun vs H Q _ => ∃ (a e h n : Addr) (Fb Fs Fh : List Addr) (m : Nat), vs = [.ref a, .ref e, .ref h, .ref n] ∧ Dd C a e h n Fb Fs Fh m H ∧ m ≤ 500 ∧ ∀ H', Dd C a e h n Fb Fs Fh (m + 2) H' → Ch [a, e, h, n] H H' → Q .non H'
set_option maxHeartbeats 0 in
theorem ok__law_deed (T : Txt K mg) : FnOk P w K mg base CX0 5 T.a__law_deed T.fd__law_deed ["box", "spans", "history", "ends"] (sp__law_deed K T.c_Spans) := by
  have S := sc__law_deed
  refine T.F__law_deed.ok S (fun vs H Q E h => ?_) (fun cdv A outer s H vs Q E hr h => ?_)
  · obtain ⟨a, e, h, n, Fb, Fs, Fh, m, rfl, _⟩ := h
    rfl
  · obtain ⟨a, e, h, n, Fb, Fs, Fh, m, rfl, ⟨ns, rs, hs, B2, N2, P2, A2, M2, ⟨z1, z2, z3⟩, ls2, lh2, ⟨f1, f2, f3⟩, ⟨f4, f5, f6⟩, f7, f8, f9⟩, zm, k⟩ := h
    have eFs : e ∉ Fs := by
      obtain ⟨_, _, _, _, _, q, _⟩ := id P2
      exact q
    have hFh : h ∉ Fh := by
      obtain ⟨_, _, _, q, _⟩ := id A2
      exact q
    have ne : n ≠ e := fun z => eFs (z ▸ f5)
    have nh : n ≠ h := fun z => hFh (z ▸ f8)
    refine ⟨_, (pss_cons (ps_set (i := 4) S.nd rfl (Or.inl rfl) (pe_call (ok__law_pair T) (hr.mono (by decide)) rfl T.g__law_pair T.F__law_pair.kp T.B__law_pair .nil pass0 (pa_cons (pv 0) (pa_cons (pv 3) pa_nil))))
      (pss_cons (ps_set (i := 5) S.nd rfl (Or.inl rfl) (pe_cmpR op_gt (pe_call (ok__law_draw T) (hr.mono (by decide)) rfl T.g__law_draw T.F__law_draw.kp T.B__law_draw .nil pass0 (pa_cons (pv 0) (pa_cons pe_int pa_nil))) pe_int (nomark _)))
      (C8.pss_cut (ps_if (pt_val (pv 5)) (pss_one (ps_expr (pe_meth (pv 1) T.cl_Spans T.m_Spans_put (ok_Spans_put T) (hr.mono (by decide)) T.B_Spans_put .nil passL (pa_cons (pe_ix ix_tup (pv 4) pe_int (fun _ _ => rfl)) (pa_cons (pe_ix ix_tup (pv 4) pe_int (fun _ _ => rfl)) pa_nil))))) (pss_one (ps_expr (pe_meth (pv 1) T.cl_Spans T.m_Spans_drop (ok_Spans_drop T) (hr.mono (by decide)) T.B_Spans_drop .nil passL (pa_cons (pe_ix ix_tup (pv 4) pe_int (fun _ _ => rfl)) (pa_cons (pe_ix ix_tup (pv 4) pe_int (fun _ _ => rfl)) pa_nil))))))
      (pss_one (ps_expr (pe_bm PySem.F.plainAttrs_list PySem.F.slot_list_append PySem.F.type_list_append mt_append (pv 2) (pa_cons (pe_tup (pa_cons (pv 5) (pa_cons (pe_ix ix_tup (pv 4) pe_int (fun _ _ => rfl)) (pa_cons (pe_ix ix_tup (pv 4) pe_int (fun _ _ => rfl)) pa_nil)))) pa_nil))))))), ?_⟩
    refine st__law_deed ?_
    o_args
    refine ⟨a, n, _, ns, rfl, B2, f1, N2, by omega, fun t lo hi ns' H3 nt l0 lh hh ht N3 y1 B3 c3 => ?_⟩
    have ta : t ∉ [a] := fun z => by
      obtain ⟨o, q⟩ := B2.al
      rw [← List.mem_singleton.mp z, nt] at q
      cases q
    have te : t ≠ e := fun z => by
      obtain ⟨o, q⟩ := P2.at_
      rw [← z, nt] at q
      cases q
    have P3 := P2.ch c3 (two_in f4 f5)
    have A3 := A2.ch c3 (two_in f7 f8)
    have ls3 := ls2.ch c3
    have lh3 := lh2.ch c3
    o_args
    refine ⟨a, _, 3, rfl, B3, by decide, by decide, fun d H4 d0 d1 B4 c4 => ?_⟩
    have ht4 := c4.at ta ht
    have P4 := P3.ch c4 (one_in f4)
    have A4 := A3.ch c4 (one_in f7)
    have N4 : IntL n ns' H4 := c4.at (fun z => B4.nin ((List.mem_singleton.mp z) ▸ f1)) N3
    have ls4 := ls3.ch c4
    have lh4 := lh3.ch c4
    have C4 : Ch [a, e, h, n] H H4 := (c3.more (by simp)).trans (c4.more (by simp))
    obtain ⟨dx, l, ts, he, _⟩ := id P4
    clear P2 P3 A2 A3 B2 B3 N2 N3 ls2 lh2 ls3 lh3 c3 c4 nt ht
    o_args
    obtain ⟨ad, ea⟩ : ∃ w, w = decide (0 < d) := ⟨_, rfl⟩
    rw [← ea]
    clear ea
    refine ⟨fun σ H' => ∃ rs', σ = [some (.ref a), some (.ref e), some (.ref h), some (.ref n), some (.ref t), some (.bl ad)] ∧ SpA T.c_Spans e Fs rs' H' ∧ Ch [e] H4 H' ∧ rs'.length ≤ rs.length + 2 ∧ ∀ o, Mem o rs' ↔ hasF (hs ++ [(ad, lo, hi)]) o = true, ?_, ?_⟩
    · cases ad
      · o_args
        refine ⟨e, dx, _, rfl, he, rfl, ?_⟩
        o_args
        refine ⟨e, _, rs, _, _, rfl, P4, by omega, .inl ⟨lo, hi, rfl, rfl, l0, lh, fun H5 rs' c5 P5 y2 m5 => ?_⟩⟩
        o_args
        refine ⟨rs', rfl, P5 _ ls4 eFs, c5, by omega, fun o => ?_⟩
        rw [m5 o, hasF_snoc, M2 o]
        by_cases c : lo ≤ o ∧ o < hi
        · simp [c]
        · simp [c]
      · o_args
        refine ⟨e, dx, _, rfl, he, rfl, ?_⟩
        o_args
        refine ⟨e, _, rs, _, _, rfl, P4, by omega, .inl ⟨lo, hi, rfl, rfl, l0, lh, fun H5 rs' c5 P5 y2 m5 => ?_⟩⟩
        o_args
        refine ⟨rs', rfl, P5 _ ls4 eFs, c5, by omega, fun o => ?_⟩
        rw [m5 o, hasF_snoc, M2 o]
        by_cases c : lo ≤ o ∧ o < hi
        · simp [c]
        · simp [c]
    · rintro σ H5 ⟨rs', rfl, P5, c5, y5, M5⟩
      have B5 := B4.ch c5 (one_in f2)
      have N5 : IntL n ns' H5 := c5.at (by simp [ne]) N4
      have A5 := A4.ch c5 (one_in f9)
      have ht5 := c5.at (by simp [te]) ht4
      have ls5 := ls4.ch c5
      have lh5 := lh4.ch c5
      have C5 : Ch [a, e, h, n] H H5 := C4.trans (c5.more (by simp))
      clear B4 N4 A4 P4 he ls4 lh4 c5 C4 ht4
      o_args
      obtain ⟨us, h5, T5, hF, tF⟩ := id A5
      refine ⟨isList h5, ?_⟩
      o_args
      refine newTup (by simp) fun u H6 nu s6 h6 => ?_
      o_args
      refine appList (s6 _ _ h5) (by rw [List.length_map, T5.1]; omega) fun H7 s7 h7 => ?_
      have A7 := HistA.push (d := (ad, lo, hi)) h5 T5 hF tF lh5 nu s6 h6 s7 h7
      have c7 : Ch [h] H5 H7 := (Ch.of s6).trans (Ch.ofX (by simp) s7 h7)
      o_args
      exact k H7 ⟨ns', rs', hs ++ [(ad, lo, hi)], B5.ch c7 (one_in f3), c7.at (by simp [nh]) N5, P5.ch c7 (one_in f6), A7, M5, ⟨by omega, by omega, by simp; omega⟩, ls5.ch c7, lh5.ch c7, ⟨f1, f2, f3⟩, ⟨f4, f5, f6⟩, f7, f8, f9⟩ (C5.trans (c7.more (by simp)))
def sp__law_filled (K : PySem.W.Frag) (C : Addr) : Sp := fun vs H Q _ => ∃ (a h n : Addr) (Fb Fh G : List Addr) (ns : List Int) (m : Nat), vs = [.ref a, .ref h, .ref n] ∧ Box a Fb H ∧ IntL n ns H ∧ (ns.length ≤ m ∧ m ≤ 400) ∧ HistA h Fh [] H ∧ Al Fh H ∧ Al G H ∧ (n ∈ Fb ∧ h ∈ Fb) ∧ (a ∈ G ∧ n ∈ G ∧ h ∈ G) ∧ (a ∈ Fh ∧ n ∈ Fh) ∧
  ∀ e H', H e = none → Dd C a e h n (e :: Fb) G (e :: Fh) (m + 20) H' → Ch [a, h, n] H H' → Q (.ref e) H'
set_option maxHeartbeats 0 in
theorem ok__law_filled (T : Txt K mg) : FnOk P w K mg base CX0 6 T.a__law_filled T.fd__law_filled ["box", "history", "ends"] (sp__law_filled K T.c_Spans) := by
  have S := sc__law_filled
  refine T.F__law_filled.ok S (fun vs H Q E h => ?_) (fun cdv A outer s H vs Q E hr h => ?_)
  · obtain ⟨a, h, n, Fb, Fh, G, ns, m, rfl, _⟩ := h
    rfl
  · obtain ⟨a, h, n, Fb, Fh, G, ns, m, rfl, B0, N0, ⟨zn, zm⟩, A0, lh0, lg0, ⟨f1, f2⟩, ⟨g1, g2, g3⟩, ⟨g4, g5⟩, k⟩ := h
    refine ⟨_, (pss_cons (ps_set (i := 3) S.nd rfl (Or.inl rfl) (pe_makeR0 T.M_Spans (ok_Spans_init_ T) (hr.mono (by decide)) rfl T.g_Spans passL))
      (pss_cons (ps_for PassesOwn.never rfl (pi_range1 (by rfl) T.b_range (pa_cons (pe_call (ok__law_draw T) (hr.mono (by decide)) rfl T.g__law_draw T.F__law_draw.kp T.B__law_draw .nil pass0 (pa_cons (pv 0) (pa_cons pe_int pa_nil))) pa_nil)) (pg_name (i := 4) S.nd rfl (Or.inl rfl)) (pss_one (ps_expr (pe_call (ok__law_deed T) (hr.mono (by decide)) rfl T.g__law_deed T.F__law_deed.kp T.B__law_deed .nil pass0 (pa_cons (pv 0) (pa_cons (pv 3) (pa_cons (pv 1) (pa_cons (pv 2) pa_nil))))))))
      (pss_one (ps_ret (pv 3))))), ?_⟩
    refine st__law_filled ?_
    o_args
    refine make_runs (ts := []) (rs := []) Tups.nil (by simp) (fun _ q => nomatch q) fun e out H1 ne s1 P1 z1 M1 => ?_
    have e0 : out = [] := List.eq_nil_of_length_eq_zero (by simpa using z1)
    subst e0
    have D1 : Dd T.c_Spans a e h n (e :: Fb) G (e :: Fh) m H1 := ⟨ns, [], [], B0.own ne s1, s1 _ _ N0, P1 G lg0, A0.own ne s1, fun o => ⟨fun z => absurd z Mem.nil, fun z => nomatch z⟩, ⟨zn, Nat.zero_le _, Nat.zero_le _⟩, lg0.same s1, .cons (P1 G lg0).at_.choose_spec (lh0.same s1), by simp [f1, f2], ⟨g1, g2, g3⟩, by simp [g4], by simp [g5], by simp⟩
    have aF := (B0.own ne s1)
    o_args
    refine ⟨a, _, 7, rfl, B0.own ne s1, by decide, by decide, fun d H2 d0 d1 B2 c2 => ?_⟩
    have D2 : Dd T.c_Spans a e h n (e :: Fb) G (e :: Fh) m H2 := by
      obtain ⟨ns, rs, hs, B, N, P, A, M, z, a1, a2, q1, q2, q3, q4, q5⟩ := D1
      exact ⟨ns, rs, hs, B2, c2.at (fun z => B.nin ((List.mem_singleton.mp z) ▸ q1.1)) N, P.ch c2 (one_in g1), A.ch c2 (one_in q3), M, z, a1.ch c2, a2.ch c2, q1, q2, q3, q4, q5⟩
    clear D1 aF
    o_args
    refine rngF (n := d) (by omega) (by omega) (for_rangeK (lo := 0) (n := d.toNat) (fun i σ H' => ∃ w, σ = [some (.ref a), some (.ref h), some (.ref n), some (.ref e), w] ∧ Dd T.c_Spans a e h n (e :: Fb) G (e :: Fh) (m + 2 * i) H' ∧ Ch [e, a, h, n] H1 H') ⟨none, rfl, D2, c2.more (by simp)⟩ ?_ ?_)
    · rintro i σ H3 hi ⟨w, rfl, D3, c3⟩
      o_args
      refine ⟨a, e, h, n, _, _, _, _, rfl, D3, by omega, fun H4 D4 c4 => ?_⟩
      o_args
      exact ⟨_, rfl, D4.more (by omega), c3.trans (c4.more (by simp))⟩
    · rintro σ H3 ⟨w, rfl, D3, c3⟩
      o_args
      exact k e H3 ne (D3.more (by omega)) (((Ch.of s1).trans c3).drop ne)
/-! ### equal sets -/
theorem biNf {K : PySem.W.Frag} {mg : Str → Option Value} (T : Txt K mg) : ∀ H v t, Bi H v t → PySem.W.notFirst K T.c_Spans (.type t) = true := fun _ _ _ b => by
  cases b with
  | non => exact T.nf_NoneType
  | bl _ => exact T.nf_bool
  | int _ => exact T.nf_int
  | str _ => exact T.nf_str
  | tup _ => exact T.nf_tuple
  | lst _ => exact T.nf_list
theorem biSb {K : PySem.W.Frag} {mg : Str → Option Value} (T : Txt K mg) : ∀ H v t, Bi H v t → PySem.W.subIn K (.ref T.c_Spans) (.type t) = some false := fun _ _ _ b => by
  cases b with
  | non => exact T.sb_NoneType
  | bl _ => exact T.sb_bool
  | int _ => exact T.sb_int
  | str _ => exact T.sb_str
  | tup _ => exact T.sb_tuple
  | lst _ => exact T.sb_list
def sp__law_rebuilt (K : PySem.W.Frag) (C : Addr) : Sp := fun vs H Q _ => ∃ (l : Addr) (ts : List Addr) (rs : List Run), vs = [.ref l] ∧ RunsL l ts rs H ∧ Offs rs ∧ rs.length < 9000 ∧ ∀ e H', H e = none → Same H H' → (∀ G, Al G H → SpA C e G rs H') → Q (.ref e) H'
set_option maxHeartbeats 0 in
theorem ok__law_rebuilt (T : Txt K mg) : FnOk P w K mg base CX0 6 T.a__law_rebuilt T.fd__law_rebuilt ["due"] (sp__law_rebuilt K T.c_Spans) := by
  have S := sc__law_rebuilt
  refine T.F__law_rebuilt.ok S (fun vs H Q E h => ?_) (fun cdv A outer s H vs Q E hr h => ?_)
  · obtain ⟨l, ts, rs, rfl, _⟩ := h
    rfl
  · obtain ⟨l, ts, rs, rfl, hR, hO, hz, k⟩ := h
    have lt := hR.len
    refine ⟨_, (pss_cons (ps_set (i := 1) S.nd rfl (Or.inl rfl) (pe_makeR0 T.M_Spans (ok_Spans_init_ T) (hr.mono (by decide)) rfl T.g_Spans passL))
      (pss_cons (ps_for PassesOwn.never rfl (pi_range1 (by rfl) T.b_range (pa_cons (pe_callB (id := "len") (call_lenK (K := K) rfl) (by rfl) T.b_len (by decide +kernel) (pa_cons (pv 0) pa_nil)) pa_nil)) (pg_name (i := 2) S.nd rfl (Or.inl rfl)) (pss_cons (ps_set (i := 3) S.nd rfl (Or.inl rfl) (pe_ix ix_list (pv 0) (pe_op op_sub (pe_op op_sub (pe_callB (id := "len") (call_lenK (K := K) rfl) (by rfl) T.b_len (by decide +kernel) (pa_cons (pv 0) pa_nil)) pe_int) (pv 2)) (fun _ _ => rfl)))
      (pss_one (ps_expr (pe_meth (pv 1) T.cl_Spans T.m_Spans_put (ok_Spans_put T) (hr.mono (by decide)) T.B_Spans_put .nil passL (pa_cons (pe_ix ix_tup (pv 3) pe_int (fun _ _ => rfl)) (pa_cons (pe_ix ix_tup (pv 3) pe_int (fun _ _ => rfl)) pa_nil)))))))
      (pss_one (ps_ret (pv 1))))), ?_⟩
    refine st__law_rebuilt ?_
    o_args
    refine make_runs (ts := []) (rs := []) Tups.nil (by simp) (fun _ q => nomatch q) fun e out H1 ne s1 P1 z1 M1 => ?_
    have e0 : out = [] := List.eq_nil_of_length_eq_zero (by simpa using z1)
    subst e0
    have R1 := hR.same s1
    o_args
    refine lenA (SeqA.lst R1.1) ?_
    o_args
    rw [List.length_map, lt]
    refine rngF (n := rs.length) (by omega) (by omega) (for_rangeK (lo := 0) (n := (rs.length : Int).toNat) (fun i σ H' => ∃ u w out, σ = [some (.ref l), some (.ref e), u, w] ∧ Ch [e] H1 H' ∧ (∀ G, Al G H → SpA T.c_Spans e G out H') ∧ out.length ≤ i ∧ ∀ o, Mem o out ↔ Mem o (rs.drop (rs.length - i))) ⟨none, none, [], rfl, Ch.refl, P1, Nat.le_refl _, fun o => by rw [Nat.sub_zero, List.drop_length]⟩ ?_ ?_)
    · rintro i σ H2 hi ⟨u, w, out, rfl, c2, P2, z2, M2⟩
      have il : i < rs.length := by omega
      have jl : rs.length - 1 - i < rs.length := by omega
      have el : l ≠ e := fun z => by
        have := hR.1
        rw [z, ne] at this
        cases this
      have te : ∀ t ∈ ts, t ∉ [e] := fun t ht z => by
        obtain ⟨q, hq⟩ := List.mem_iff_getElem?.mp ht
        have ql := getq_lt hq
        have := hR.2.2 q t _ hq (List.getElem?_eq_getElem (show q < rs.length by omega))
        rw [List.mem_singleton.mp z, ne] at this
        cases this
      have R2 := R1.ch c2 (by simp [el]) te
      obtain ⟨t, _, e1, ht⟩ := R2.at (List.getElem?_eq_getElem jl)
      have dr : rs.drop (rs.length - (i + 1)) = rs[rs.length - 1 - i] :: rs.drop (rs.length - i) := by
        rw [show rs.length - (i + 1) = rs.length - 1 - i by omega, List.drop_eq_getElem_cons jl, show rs.length - 1 - i + 1 = rs.length - i by omega]
      have ok := hO.ok _ (List.getElem_mem jl)
      generalize rs[rs.length - 1 - i] = r at ht dr ok
      o_args
      refine lenA (SeqA.lst R2.1) ?_
      o_args
      rw [List.length_map, lt]
      refine ⟨l, ts.map V.ref, (rs.length : Int) - 1 - (0 + (i : Int)), .ref t, rfl, rfl, SqL.of R2.1, by rw [show (rs.length : Int) - 1 - (0 + (i : Int)) = ((rs.length - 1 - i : Nat) : Int) by omega]; exact atI_nat e1, ?_⟩
      obtain ⟨dx, l', ts', he, _⟩ := id (P2 [] Al.nil)
      o_args
      refine ⟨e, dx, _, rfl, he, rfl, ?_⟩
      o_args
      refine ⟨e, [], out, _, _, rfl, P2 [] Al.nil, by omega, .inl ⟨r.1, r.2, rfl, rfl, ok.1, ok.2, fun H3 out' c3 P3 z3 M3 => ?_⟩⟩
      o_args
      refine ⟨_, _, out', rfl, c2.trans c3, fun G A => P3 G ((A.same s1).ch c2) (A.new ne), by omega, fun o => ?_⟩
      rw [M3 o, dr, Mem.cons, M2 o, or_comm]
    · rintro σ H2 ⟨u, w, out, rfl, c2, P2, z2, M2⟩
      o_args
      have eo : out = rs := (P2 [] Al.nil).offs.nrm.uniq hO.nrm fun o => by rw [M2 o, Int.toNat_natCast, Nat.sub_self, List.drop_zero]
      subst eo
      exact k e H2 ne (Ch.same (((Ch.of s1).trans c2).drop ne)) P2
theorem eqOwn2 {K : PySem.W.Frag} {C e e2 : Addr} {F G : List Addr} {rs qs : List Run} {H : Hp} {Q : VK} {E : XK} (S : SpA C e F rs H) (S2 : SpA C e2 G qs H) (q : Q (.bl (decide (rs = qs))) H) : rEqOwn C (sp_Spans_eq_ K C) E (.ref e) (.ref e2) H Q := by
  obtain ⟨dx, l, ts, he, _⟩ := id S
  obtain ⟨dy, l2, ts2, he2, _⟩ := id S2
  exact .inl ⟨e, dx, _, rfl, he, .inl ⟨e2, dy, _, rfl, he2⟩, e, .ref e2, rs, rfl, S.less (fun _ z => nomatch z), .inl ⟨e2, qs, rfl, S2.less (fun _ z => nomatch z), ⟨_, rfl, q⟩⟩⟩
theorem eqOwnV {K : PySem.W.Frag} {C e : Addr} {F : List Addr} {rs : List Run} {H : Hp} {Q : VK} {E : XK} {y : V} {t : String} (S : SpA C e F rs H) (b : Bi H y t) (q : Q (.bl false) H) : rEqOwn C (sp_Spans_eq_ K C) E (.ref e) y H Q := by
  obtain ⟨dx, l, ts, he, _⟩ := id S
  exact .inl ⟨e, dx, _, rfl, he, .inr ⟨t, b⟩, e, y, rs, rfl, S.less (fun _ z => nomatch z), .inr ⟨⟨t, b⟩, ⟨_, rfl, q⟩⟩⟩
theorem eqOwnR {K : PySem.W.Frag} {C e : Addr} {F : List Addr} {rs : List Run} {H : Hp} {Q : VK} {E : XK} {y : V} {t : String} (S : SpA C e F rs H) (b : Bi H y t) (q : Q (.bl false) H) : rEqOwn C (sp_Spans_eq_ K C) E y (.ref e) H Q := by
  obtain ⟨dx, l, ts, he, _⟩ := id S
  exact .inr ⟨e, dx, _, t, rfl, he, b, e, y, rs, rfl, S.less (fun _ z => nomatch z), .inr ⟨⟨t, b⟩, ⟨_, rfl, q⟩⟩⟩
theorem binOwn2 {C e e2 : Addr} {P : Int → List Run → List Run → Prop} {F G : List Addr} {rs qs : List Run} {H : Hp} {Q : VK} {E : XK} (S : SpA C e F rs H) (S2 : SpA C e2 G qs H) (z1 : rs.length < 10000) (z2 : qs.length < 10000)
    (k : ∀ x out H', H x = none → Same H H' → (∀ G, Al G H → SpA C x G out H') → out.length ≤ rs.length + qs.length + 1 → (∀ o, Mem o out ↔ P o rs qs) → Q (.ref x) H') : rBinOwn C (OpSp C P) E (.ref e) (.ref e2) H Q := by
  obtain ⟨dx, l, ts, he, _⟩ := id S
  obtain ⟨dy, l2, ts2, he2, _⟩ := id S2
  exact ⟨e, e2, dx, dy, _, _, rfl, rfl, he, he2, e, e2, rs, qs, rfl, S.less (fun _ z => nomatch z), S2.less (fun _ z => nomatch z), z1, z2, fun x out H' nx s P z M => ⟨x, rfl, k x out H' nx s P z M⟩⟩
def sp__law_equals (K : PySem.W.Frag) (C : Addr) : Sp := fun vs H Q _ => ∃ (L Lh e0 e1 h0 h1 : Addr) (rs qs : List Run) (hs ks : List Deed), vs = [.ref L, .ref Lh] ∧ H L = some (.lst [.ref e0, .ref e1]) ∧ H Lh = some (.lst [.ref h0, .ref h1]) ∧ SpA C e0 [] rs H ∧ SpA C e1 [] qs H ∧ HistA h0 [] hs H ∧ HistA h1 [] ks H ∧ (∀ o, Mem o rs ↔ hasF hs o = true) ∧ (∀ o, Mem o qs ↔ hasF ks o = true) ∧
  (rs.length ≤ 900 ∧ qs.length ≤ 900 ∧ hs.length ≤ 900 ∧ ks.length ≤ 900) ∧ ∀ H', Same H H' → Q (.bl true) H'
set_option maxHeartbeats 0 in
theorem ok__law_equals (T : Txt K mg) : FnOk P w K mg base CX0 8 T.a__law_equals T.fd__law_equals ["sets", "histories"] (sp__law_equals K T.c_Spans) := by
  have S := sc__law_equals
  refine T.F__law_equals.ok S (fun vs H Q E h => ?_) (fun cdv A outer s H vs Q E hr h => ?_)
  · obtain ⟨L, Lh, e0, e1, h0, h1, rs, qs, hs, ks, rfl, _⟩ := h
    rfl
  · obtain ⟨L, Lh, e0, e1, h0, h1, rs, qs, hs, ks, rfl, hL, hLh, S0, S1, A0, A1, M0, M1, ⟨z1, z2, z3, z4⟩, k⟩ := h
    refine ⟨_, (pss_cons (ps_set (i := 2) S.nd rfl (Or.inl rfl) (pe_call (ok__law_due T) (hr.mono (by decide)) rfl T.g__law_due T.F__law_due.kp T.B__law_due .nil pass0 (pa_cons (pe_ix ix_list (pv 1) pe_int (fun _ _ => rfl)) pa_nil)))
      (pss_cons (ps_set (i := 3) S.nd rfl (Or.inl rfl) (pe_call (ok__law_due T) (hr.mono (by decide)) rfl T.g__law_due T.F__law_due.kp T.B__law_due .nil pass0 (pa_cons (pe_ix ix_list (pv 1) pe_int (fun _ _ => rfl)) pa_nil)))
      (pss_cons (ps_if (PW.pt (pw_or (pt_cmpR op_ne (pe_cmpR (op_eqOwn T.m_Spans_eq_ (biNf T) (biSb T) (ok_Spans_eq_ T) (hr.mono (by decide)) (Nat.lt_of_le_of_lt (Nat.le_add_right _ _) hr.units) T.B_Spans_eq_ pass0) (pe_ix ix_list (pv 0) pe_int (fun _ _ => rfl)) (pe_ix ix_list (pv 0) pe_int (fun _ _ => rfl)) (nomark _)) (pe_cmpR (op_eqD hr.units) (pv 2) (pv 3) (nomark _)) (nomark _)) (pw_or1 (pt_cmpR op_ne (pe_cmpR (op_eqOwn T.m_Spans_eq_ (biNf T) (biSb T) (ok_Spans_eq_ T) (hr.mono (by decide)) (Nat.lt_of_le_of_lt (Nat.le_add_right _ _) hr.units) T.B_Spans_eq_ pass0) (pe_ix ix_list (pv 0) pe_int (fun _ _ => rfl)) (pe_ix ix_list (pv 0) pe_int (fun _ _ => rfl)) (nomark _)) (pe_cmpR (op_eqD hr.units) (pv 2) (pv 3) (nomark _)) (nomark _))))) (pss_one (ps_ret pe_bl)) pss_nil)
      (pss_cons (ps_if (PW.pt (pw_or (pt_not (pt_cmpR (op_eqOwn T.m_Spans_eq_ (biNf T) (biSb T) (ok_Spans_eq_ T) (hr.mono (by decide)) (Nat.lt_of_le_of_lt (Nat.le_add_right _ _) hr.units) T.B_Spans_eq_ pass0) (pe_ix ix_list (pv 0) pe_int (fun _ _ => rfl)) (pe_ix ix_list (pv 0) pe_int (fun _ _ => rfl)) (nomark _))) (pw_or (pt_not (pt_cmpR (op_eqOwn T.m_Spans_eq_ (biNf T) (biSb T) (ok_Spans_eq_ T) (hr.mono (by decide)) (Nat.lt_of_le_of_lt (Nat.le_add_right _ _) hr.units) T.B_Spans_eq_ pass0) (pe_ix ix_list (pv 0) pe_int (fun _ _ => rfl)) (pe_call (ok__law_rebuilt T) (hr.mono (by decide)) rfl T.g__law_rebuilt T.F__law_rebuilt.kp T.B__law_rebuilt .nil pass0 (pa_cons (pv 2) pa_nil)) (nomark _))) (pw_or1 (pt_not (pt_cmpR (op_eqOwn T.m_Spans_eq_ (biNf T) (biSb T) (ok_Spans_eq_ T) (hr.mono (by decide)) (Nat.lt_of_le_of_lt (Nat.le_add_right _ _) hr.units) T.B_Spans_eq_ pass0) (pe_call (ok__law_rebuilt T) (hr.mono (by decide)) rfl T.g__law_rebuilt T.F__law_rebuilt.kp T.B__law_rebuilt .nil pass0 (pa_cons (pv 3) pa_nil)) (pe_ix ix_list (pv 0) pe_int (fun _ _ => rfl)) (nomark _))))))) (pss_one (ps_ret pe_bl)) pss_nil)
      (pss_cons (ps_if (pt_not (pt_cmpR (op_eqOwn T.m_Spans_eq_ (biNf T) (biSb T) (ok_Spans_eq_ T) (hr.mono (by decide)) (Nat.lt_of_le_of_lt (Nat.le_add_right _ _) hr.units) T.B_Spans_eq_ pass0) (pe_op (op_binOwn T.m_Spans_or_ rfl T.sf_Spans (ok_Spans_or_ T) (hr.mono (by decide)) T.B_Spans_or_ pass0) (pe_op (op_binOwn T.m_Spans_sub_ rfl T.sf_Spans (ok_Spans_sub_ T) (hr.mono (by decide)) T.B_Spans_sub_ pass0) (pe_ix ix_list (pv 0) pe_int (fun _ _ => rfl)) (pe_ix ix_list (pv 0) pe_int (fun _ _ => rfl))) (pe_op (op_binOwn T.m_Spans_and_ rfl T.sf_Spans (ok_Spans_and_ T) (hr.mono (by decide)) T.B_Spans_and_ pass0) (pe_ix ix_list (pv 0) pe_int (fun _ _ => rfl)) (pe_ix ix_list (pv 0) pe_int (fun _ _ => rfl)))) (pe_ix ix_list (pv 0) pe_int (fun _ _ => rfl)) (nomark _))) (pss_one (ps_ret pe_bl)) pss_nil)
      (pss_cons (ps_for PassesOwn.never rfl (pi_list (pe_lst (pa_cons pe_non (pa_cons pe_int (pa_cons pe_bl (pa_cons pe_str (pa_cons (pe_tup pa_nil) (pa_cons (pe_lst pa_nil) (pa_cons (pv 2) (pa_cons (pe_callTy (T := "tuple") (call_tupK (K := K) rfl) (by rfl) T.b_tuple (by decide +kernel) (pa_cons (pv 2) pa_nil)) (pa_cons (pe_callB (id := "len") (call_lenK (K := K) rfl) (by rfl) T.b_len (by decide +kernel) (pa_cons (pv 2) pa_nil)) pa_nil))))))))))) (pg_name (i := 4) S.nd rfl (Or.inl rfl)) (pss_one (ps_if (PW.pt (pw_or (pt_cmpR (op_eqOwn T.m_Spans_eq_ (biNf T) (biSb T) (ok_Spans_eq_ T) (hr.mono (by decide)) (Nat.lt_of_le_of_lt (Nat.le_add_right _ _) hr.units) T.B_Spans_eq_ pass0) (pe_ix ix_list (pv 0) pe_int (fun _ _ => rfl)) (pv 4) (nomark _)) (pw_or1 (pt_cmpR (op_eqOwn T.m_Spans_eq_ (biNf T) (biSb T) (ok_Spans_eq_ T) (hr.mono (by decide)) (Nat.lt_of_le_of_lt (Nat.le_add_right _ _) hr.units) T.B_Spans_eq_ pass0) (pv 4) (pe_ix ix_list (pv 0) pe_int (fun _ _ => rfl)) (nomark _))))) (pss_one (ps_ret pe_bl)) pss_nil)))
      (pss_one (ps_ret pe_bl)))))))), ?_⟩
    refine st__law_equals ?_
    o_args
    refine ⟨h0, _, hs, rfl, A0, by omega, fun l0 t0 d0 H1 n0 s1 r1 N1 m1 => ?_⟩
    have ed : d0 = rs := N1.uniq S0.offs.nrm fun o => by rw [m1 o, M0 o]
    subst ed
    have hLh1 := s1 _ _ hLh
    o_args
    refine ⟨h1, _, ks, rfl, A1.same s1, by omega, fun l1 t1 d1 H2 n1 s2 r2 N2 m2 => ?_⟩
    have ed : d1 = qs := N2.uniq S1.offs.nrm fun o => by rw [m2 o, M1 o]
    subst ed
    have s12 := s1.trans s2
    have hL2 := s12 _ _ hL
    have P0 := S0.same s12
    have P1 := S1.same s12
    have R0 := r1.same s2
    o_args
    refine eqOwn2 P0 P1 ?_
    o_args
    refine eqRuns R0 r2 ?_
    o_args
    refine brDT rfl ?_
    o_args
    refine eqOwn2 P1 P0 ?_
    o_args
    refine eqRuns R0 r2 ?_
    o_args
    refine brDT (decide_eq_decide.mpr eq_comm) ?_
    o_args
    refine eqOwn2 P0 P0 ?_
    rw [decide_eq_true rfl]
    o_args
    refine ⟨l0, t0, d0, rfl, R0, P0.offs, by omega, fun x3 H3 nx3 s3 P3 => ?_⟩
    have P03 := P0.same s3
    have P13 := P1.same s3
    have r03 := R0.same s3
    have r23 := r2.same s3
    have hL3 := s3 _ _ hL2
    have s13 := s12.trans s3
    refine eqOwn2 P03 (P3 [] Al.nil) ?_
    rw [decide_eq_true rfl]
    clear P0 P1 R0 r2 hL2 s12 r1
    o_args
    refine ⟨l1, t1, d1, rfl, r23, P13.offs, by omega, fun x4 H4 nx4 s4 P4 => ?_⟩
    have P04 := P03.same s4
    have P14 := P13.same s4
    have r04 := r03.same s4
    have hL4 := s4 _ _ hL3
    have s14 := s13.trans s4
    clear P03 P13 r03 r23 hL3 s13
    o_args
    refine eqOwn2 (P4 [] Al.nil) P14 ?_
    rw [decide_eq_true rfl]
    o_args
    refine binOwn2 P04 P14 (by omega) (by omega) fun x5 o5 H5 nx5 s5 P5 z5 M5 => ?_
    have P05 := P04.same s5
    have P15 := P14.same s5
    have hL5 := s5 _ _ hL4
    o_args
    refine binOwn2 P05 P15 (by omega) (by omega) fun x6 o6 H6 nx6 s6 P6 z6 M6 => ?_
    have s56 := s5.trans s6
    have P06 := P05.same s6
    have hL6 := s6 _ _ hL5
    have r06 := r04.same s56
    have s16 := s14.trans s56
    refine binOwn2 ((P5 [] Al.nil).same s6) (P6 [] Al.nil) (by omega) (by omega) fun x7 o7 H7 nx7 s7 P7 z7 M7 => ?_
    have P07 := P06.same s7
    have hL7 := s7 _ _ hL6
    have r07 := r06.same s7
    have s17 := s16.trans s7
    have eo : o7 = d0 := (P7 [] Al.nil).offs.nrm.uniq P07.offs.nrm fun o => by
      rw [M7 o, M5 o, M6 o]
      by_cases c : Mem o d0 <;> by_cases c' : Mem o d1 <;> simp [c, c']
    o_args
    refine eqOwn2 (P7 [] Al.nil) P07 ?_
    rw [eo, decide_eq_true rfl]
    clear P04 P14 r04 hL4 s14 P05 P15 hL5 s56 P06 hL6 r06 s16 P5 P6 P7 M5 M6 M7
    o_args
    refine newTup (by simp) fun u H8 nu s8 h8 => ?_
    o_args
    refine newList (by simp) fun v H9 nv s9 h9 => ?_
    have r09 := (r07.same s8).same s9
    o_args
    refine ⟨l0, _, rfl, .inl ⟨SqL.of r09.1, fun p hp => ?_⟩⟩
    have s10 : Same H9 (upd H9 p (.tup (t0.map V.ref))) := Same.new hp
    have h10 : upd H9 p (.tup (t0.map V.ref)) p = some (.tup (t0.map V.ref)) := upd_same
    generalize upd H9 p (.tup (t0.map V.ref)) = H10 at s10 h10
    have r010 := r09.same s10
    o_args
    refine lenA (SeqA.lst r010.1) ?_
    o_args
    refine newList (by simp) fun W H11 nW s11 h11 => ?_
    have s811 := ((s8.trans s9).trans s10).trans s11
    have P011 := P07.same s811
    have hL11 := s811 _ _ hL7
    have s111 := s17.trans s811
    have b8 : Bi H11 (.ref u) "tuple" := .tup (((s9.trans s10).trans s11) _ _ h8)
    have b9 : Bi H11 (.ref v) "list" := .lst ((s10.trans s11) _ _ h9)
    have b1 : Bi H11 (.ref l0) "list" := .lst (s11 _ _ r010.1)
    have b10 : Bi H11 (.ref p) "tuple" := .tup (s11 _ _ h10)
    rw [List.length_map, r010.len] at h11
    have all : ∀ (i : Nat) x, ([V.non, .int 0, .bl true, .str "", .ref u, .ref v, .ref l0, .ref p, .int d0.length] : List V)[i]? = some x → ∃ t, Bi H11 x t := fun i x hx => by
      have := getq_lt hx
      have : i = 0 ∨ i = 1 ∨ i = 2 ∨ i = 3 ∨ i = 4 ∨ i = 5 ∨ i = 6 ∨ i = 7 ∨ i = 8 := by simp at this; omega
      rcases this with rfl | rfl | rfl | rfl | rfl | rfl | rfl | rfl | rfl <;> cases hx
      · exact ⟨_, .non⟩
      · exact ⟨_, .int _⟩
      · exact ⟨_, .bl _⟩
      · exact ⟨_, .str _⟩
      · exact ⟨_, b8⟩
      · exact ⟨_, b9⟩
      · exact ⟨_, b1⟩
      · exact ⟨_, b10⟩
      · exact ⟨_, .int _⟩
    clear r07 r09 r010 P07 hL7 s17 s811 b8 b9 b1 b10
    refine overL (SqL.of h11) (for_list (K := K) (a := W) (xs := [V.non, .int 0, .bl true, .str "", .ref u, .ref v, .ref l0, .ref p, .int d0.length]) (fun i σ H' => ∃ w, σ = [some (.ref L), some (.ref Lh), some (.ref l0), some (.ref l1), w] ∧ H' = H11) ⟨none, rfl, rfl⟩ (fun i σ H' _ ⟨_, _, e⟩ => by rw [e]; exact SqL.of h11) ?_ ?_)
    · rintro i x σ H' hx ⟨w, rfl, rfl⟩
      obtain ⟨t, b⟩ := all i x hx
      o_args
      refine eqOwnV P011 b ?_
      o_args
      refine eqOwnR P011 b ?_
      o_args
      exact ⟨_, rfl, rfl⟩
    · rintro σ H' ⟨w, rfl, rfl⟩
      o_args
      exact k _ s111
/-! ### of a history and of new lists -/
theorem hasF_all : ∀ {ps : List Run} {o : Int}, hasF (ps.map fun r => (true, r.1, r.2)) o = true ↔ Mem o ps := by
  intro ps o
  suffices g : ∀ (ps : List Run) (b : Bool), (ps.map fun r => ((true, r.1, r.2) : Deed)).foldl (fun b d => if d.2.1 ≤ o ∧ o < d.2.2 then d.1 else b) b = true ↔ b = true ∨ Mem o ps from (g ps false).trans ⟨fun q => q.resolve_left (fun z => nomatch z), .inr⟩
  intro ps
  induction ps with
  | nil => exact fun b => ⟨.inl, fun q => q.resolve_right Mem.nil⟩
  | cons r rs ih =>
    intro b
    rw [List.map_cons, List.foldl_cons, ih, Mem.cons]
    by_cases c : r.1 ≤ o ∧ o < r.2
    · simp [c]
    · simp [c]
theorem Ch.newS {ls : List Addr} {H H' : Hp} (c : Ch ls H H') (n : ∀ l ∈ ls, H l = Option.none) : Same H H' := fun b o e => c.1 b o (fun z => by rw [n b z] at e; cases e) e
theorem SameX.none_of {H H' : Hp} {D l : Addr} (s : SameX D H H') (h : H' l = Option.none) (ne : l ≠ D) : H l = Option.none := by
  cases q : H l with
  | none => rfl
  | some o => rw [s l o ne q] at h; cases h
/-! ### joins -/
def sp__law_joins (K : PySem.W.Frag) (C : Addr) : Sp := fun vs H Q _ => ∃ (a L Lh n e0 e1 h0 h1 ei ej hi hj : Addr) (F : List Addr) (ns : List Int) (rs qs ri rj : List Run) (ds ks di dj : List Deed) (i j : Nat) (way : Int),
  vs = [.ref a, .ref L, .ref Lh, .ref n, .int i, .int j, .int way] ∧ (Box a F H ∧ n ∈ F ∧ IntL n ns H) ∧ (H L = some (.lst [.ref e0, .ref e1]) ∧ H Lh = some (.lst [.ref h0, .ref h1]) ∧ L ∉ [a, n] ∧ Lh ∉ [a, n]) ∧
  (SpA C e0 [a, n] rs H ∧ SpA C e1 [a, n] qs H ∧ HistA h0 [a, n] ds H ∧ HistA h1 [a, n] ks H ∧ (∀ o, Mem o rs ↔ hasF ds o = true) ∧ ∀ o, Mem o qs ↔ hasF ks o = true) ∧
  (([V.ref e0, .ref e1])[i]? = some (.ref ei) ∧ ([V.ref e0, .ref e1])[j]? = some (.ref ej) ∧ ([V.ref h0, .ref h1])[i]? = some (.ref hi) ∧ ([V.ref h0, .ref h1])[j]? = some (.ref hj)) ∧
  (SpA C ei [a, n] ri H ∧ SpA C ej [a, n] rj H ∧ HistA hi [a, n] di H ∧ HistA hj [a, n] dj H ∧ (∀ o, Mem o ri ↔ hasF di o = true) ∧ ∀ o, Mem o rj ↔ hasF dj o = true) ∧
  (ns.length ≤ 400 ∧ rs.length ≤ 200 ∧ qs.length ≤ 200 ∧ ri.length ≤ 200 ∧ rj.length ≤ 200 ∧ ds.length ≤ 200 ∧ ks.length ≤ 200 ∧ di.length ≤ 200 ∧ dj.length ≤ 200) ∧ ∀ H', Box a F H' → Ch [a, n] H H' → Q (.bl true) H'
set_option maxHeartbeats 0 in
theorem ok__law_joins (T : Txt K mg) : FnOk P w K mg base CX0 8 T.a__law_joins T.fd__law_joins ["box", "sets", "histories", "ends", "left", "right", "way"] (sp__law_joins K T.c_Spans) := by
  have S := sc__law_joins
  refine T.F__law_joins.ok S (fun vs H Q E h => ?_) (fun cdv A outer s H vs Q E hr h => ?_)
  · obtain ⟨a, L, Lh, n, e0, e1, h0, h1, ei, ej, hi, hj, F, ns, rs, qs, ri, rj, ds, ks, di, dj, i, j, way, rfl, _⟩ := h
    rfl
  · obtain ⟨a, L, Lh, n, e0, e1, h0, h1, ei, ej, hi, hj, F, ns, rs, qs, ri, rj, ds, ks, di, dj, i, j, way, rfl, ⟨B0, nF, N0⟩, ⟨hL, hLh, nL, nLh⟩, ⟨S0, S1, A0, A1, M0, M1⟩, ⟨p1, p2, p3, p4⟩, ⟨Si, Sj, Ai, Aj, Mi, Mj⟩, ⟨z0, z1, z2, z3, z4, z5, z6, z7, z8⟩, k⟩ := h
    refine ⟨_, (pss_cons (ps_set (i := 7) S.nd rfl (Or.inl rfl) (pe_ix ix_list (pv 2) (pv 4) (fun _ _ => rfl)))
      (pss_cons (ps_set (i := 8) S.nd rfl (Or.inl rfl) (pe_ix ix_list (pv 2) (pv 5) (fun _ _ => rfl)))
      (pss_cons (ps_set (i := 9) S.nd rfl (Or.inl rfl) (pe_call (ok__law_joined T) (hr.mono (by decide)) rfl T.g__law_joined T.F__law_joined.kp T.B__law_joined .nil pass0 (pa_cons (pe_ix ix_list (pv 1) (pv 4) (fun _ _ => rfl)) (pa_cons (pe_ix ix_list (pv 1) (pv 5) (fun _ _ => rfl)) (pa_cons (pv 6) pa_nil)))))
      (pss_cons (ps_set (i := 10) S.nd rfl (Or.inl rfl) (pe_call (ok__law_joined_due T) (hr.mono (by decide)) rfl T.g__law_joined_due T.F__law_joined_due.kp T.B__law_joined_due .nil pass0 (pa_cons (pv 7) (pa_cons (pv 8) (pa_cons (pv 6) pa_nil)))))
      (pss_cons (ps_if (pt_not (pt_val (pe_call (ok__law_is_set T) (hr.mono (by decide)) rfl T.g__law_is_set T.F__law_is_set.kp T.B__law_is_set .nil pass0 (pa_cons (pv 9) (pa_cons (pv 10) pa_nil))))) (pss_one (ps_ret pe_bl)) pss_nil)
      (pss_cons (ps_for PassesOwn.never rfl (pi_list (pe_op op_cat (pv 7) (pv 8))) (pg_name (i := 11) S.nd rfl (Or.inl rfl)) (pss_one (ps_for PassesOwn.never rfl (pi_list (pe_lst (pa_cons (pe_op op_sub (pe_ix ix_tup (pv 11) pe_int (fun _ _ => rfl)) pe_int) (pa_cons (pe_ix ix_tup (pv 11) pe_int (fun _ _ => rfl)) (pa_cons (pe_op op_sub (pe_ix ix_tup (pv 11) pe_int (fun _ _ => rfl)) pe_int) (pa_cons (pe_ix ix_tup (pv 11) pe_int (fun _ _ => rfl)) pa_nil)))))) (pg_name (i := 12) S.nd rfl (Or.inl rfl)) (pss_one (ps_if (pt_cmpR op_ne (pe_cmpR (op_inOwn T.m_Spans_contains_ (ok_Spans_contains_ T) (hr.mono (by decide)) T.B_Spans_contains_ pass0) (pv 12) (pv 9) rfl) (pe_call (ok__law_joined_has T) (hr.mono (by decide)) rfl T.g__law_joined_has T.F__law_joined_has.kp T.B__law_joined_has .nil pass0 (pa_cons (pv 7) (pa_cons (pv 8) (pa_cons (pv 6) (pa_cons (pv 12) pa_nil))))) (nomark _)) (pss_one (ps_ret pe_bl)) pss_nil)))))
      (pss_cons (ps_setLc (i := 13) (own := [("pair", 14)]) (g := gName 14) (tt := tYes) rfl S.nd rfl rfl (sw_true rfl rfl rfl (by decide +kernel)) (pi_list (pv 10)) (blkOk_by (N := ["box", "sets", "histories", "ends", "left", "right", "way", "one", "two", "made", "due", "deed", "offset", "later", "pair"]) (sc := defScope s__law_joins) (by decide +kernel)) (fun _ _ _ _ _ => pg_name (i := 14) S.nd rfl (Or.inl rfl)) (fun _ _ _ _ _ => pts_nil) (fun _ _ _ _ _ => (pe_tup (pa_cons pe_bl (pa_cons (pe_ix (show IxR _ (rIxT K) from ix_tup) (pv 14) pe_int (fun _ _ => rfl)) (pa_cons (pe_ix (show IxR _ (rIxT K) from ix_tup) (pv 14) pe_int (fun _ _ => rfl)) pa_nil))))))
      (pss_cons (ps_expr (pe_call (ok__law_deed T) (hr.mono (by decide)) rfl T.g__law_deed T.F__law_deed.kp T.B__law_deed .nil pass0 (pa_cons (pv 0) (pa_cons (pv 9) (pa_cons (pv 13) (pa_cons (pv 3) pa_nil))))))
      (pss_cons (ps_if (pt_not (pt_val (pe_call (ok__law_is_set T) (hr.mono (by decide)) rfl T.g__law_is_set T.F__law_is_set.kp T.B__law_is_set .nil pass0 (pa_cons (pv 9) (pa_cons (pe_call (ok__law_due T) (hr.mono (by decide)) rfl T.g__law_due T.F__law_due.kp T.B__law_due .nil pass0 (pa_cons (pv 13) pa_nil)) pa_nil))))) (pss_one (ps_ret pe_bl)) pss_nil)
      (pss_one (ps_ret (pe_and (pe_call (ok__law_is_set T) (hr.mono (by decide)) rfl T.g__law_is_set T.F__law_is_set.kp T.B__law_is_set .nil pass0 (pa_cons (pe_ix ix_list (pv 1) pe_int (fun _ _ => rfl)) (pa_cons (pe_call (ok__law_due T) (hr.mono (by decide)) rfl T.g__law_due T.F__law_due.kp T.B__law_due .nil pass0 (pa_cons (pe_ix ix_list (pv 2) pe_int (fun _ _ => rfl)) pa_nil)) pa_nil))) (pe_one (pe_call (ok__law_is_set T) (hr.mono (by decide)) rfl T.g__law_is_set T.F__law_is_set.kp T.B__law_is_set .nil pass0 (pa_cons (pe_ix ix_list (pv 1) pe_int (fun _ _ => rfl)) (pa_cons (pe_call (ok__law_due T) (hr.mono (by decide)) rfl T.g__law_due T.F__law_due.kp T.B__law_due .nil pass0 (pa_cons (pe_ix ix_list (pv 2) pe_int (fun _ _ => rfl)) pa_nil)) pa_nil)))))))))))))))), ?_⟩
    refine st__law_joins ?_
    o_args
    refine ixL hLh p3 ?_
    o_args
    refine ixL hLh p4 ?_
    o_args
    refine ixL hL p1 ?_
    o_args
    refine ixL hL p2 ?_
    o_args
    refine ⟨ei, ej, ri, rj, way, rfl, Si.less (fun _ z => nomatch z), Sj.less (fun _ z => nomatch z), by omega, by omega, fun x out H1 nx s1 P1 y1 m1 => ?_⟩
    have an : Al [a, n] H := .cons B0.al.choose_spec (.cons N0 .nil)
    have P1 := P1 [a, n] an
    o_args
    refine ⟨hi, hj, di, dj, way, rfl, (Ai.same s1).less (fun _ z => nomatch z), (Aj.same s1).less (fun _ z => nomatch z), by omega, by omega, fun l ts due H2 nl s2 r2 N2 m2 => ?_⟩
    have ed : due = out := N2.uniq P1.offs.nrm fun o => by rw [m2 o, jF, jPB, m1 o, Mi o, Mj o]
    subst ed
    have P2 := P1.same s2
    o_args
    refine ⟨x, l, ts, due, rfl, P2.less (fun _ z => nomatch z), r2, by omega, fun H3 s3 => ?_⟩
    have s03 := (s1.trans s2).trans s3
    have P3 := P2.same s3
    have r3 := r2.same s3
    have Ai3 := Ai.same s03
    have Aj3 := Aj.same s03
    have Mx : ∀ o, Mem o due ↔ jF way di dj o = true := m2
    clear P1 P2 r2 m1 m2 Si Sj s1 s2 s3 N2
    obtain ⟨ti, gi, Gi, _⟩ := id Ai3
    obtain ⟨tj, gj, Gj, _⟩ := id Aj3
    have li := Gi.1
    have lj := Gj.1
    o_args
    refine catList gi gj (by simp; omega) fun c H4 nc s4 h4 => ?_
    rw [← List.map_append] at h4
    have G4 := Hist.app (Gi.ch (Ch.of (G := []) s4) fun _ _ z => nomatch z) (Gj.ch (Ch.of (G := []) s4) fun _ _ z => nomatch z)
    have P4 := P3.same s4
    have Ai4 := Ai3.same s4
    have Aj4 := Aj3.same s4
    have r4 := r3.same s4
    have s04 := s03.trans s4
    have B4 := B0.same s04
    have N4 : IntL n ns H4 := s04 _ _ N0
    have l4 := G4.1
    obtain ⟨dx, lx, tx, hx4, _⟩ := id P4
    clear P3 Ai3 Aj3 r3 gi gj Gi Gj s03
    have fine : ∀ (H' : Hp) (o : Int) (Q : VK) (E : XK), Same H4 H' → (∀ b H'', Same H' H'' → b = jF way di dj o → Q (.bl (id b)) H'') → rOwnIn T.c_Spans id (sp_Spans_contains_ K T.c_Spans) E (.int o) (.ref x) H' Q := fun H' o Q E s q =>
      ⟨x, dx, _, rfl, s _ _ hx4, x, _, due, .int o, rfl, P4.same s, .inl ⟨o, rfl, fun b H'' s2 hb => ⟨b, rfl, q b H'' s2 (by
        have := Mx o
        cases b with
        | true => exact (this.mp (hb.mp rfl)).symm
        | false =>
          cases c : jF way di dj o with
          | false => rfl
          | true => exact nomatch (hb.mpr (this.mpr c)))⟩⟩⟩
    refine overL (SqL.of h4) (for_list (K := K) (a := c) (xs := (ti ++ tj).map V.ref) (fun k' σ H' => ∃ b c, σ = [some (.ref a), some (.ref L), some (.ref Lh), some (.ref n), some (.int i), some (.int j), some (.int way), some (.ref hi), some (.ref hj), some (.ref x), some (.ref l), b, c, none, none] ∧ Same H4 H') ⟨none, none, rfl, Same.refl _⟩ (fun k' σ H' _ ⟨_, _, _, s⟩ => SqL.of (s _ _ h4)) ?_ ?_)
    · rintro k' y σ H5 hy ⟨b, c', rfl, s5⟩
      have il := getq_lt hy
      rw [List.length_map, l4] at il
      obtain ⟨t, _, e2, ht⟩ := G4.at (List.getElem?_eq_getElem il)
      rw [e2] at hy
      cases hy
      generalize (di ++ dj)[k'] = d at ht
      have ht5 := s5 _ _ ht
      o_args
      refine newList (by simp) fun W H6 nW s6 h6 => ?_
      o_args
      refine overL (SqL.of h6) (for_list (K := K) (a := W) (xs := [.int (d.2.1 - 1), .int d.2.1, .int (d.2.2 - 1), .int d.2.2]) (fun q σ H' => ∃ c, σ = [some (.ref a), some (.ref L), some (.ref Lh), some (.ref n), some (.int i), some (.int j), some (.int way), some (.ref hi), some (.ref hj), some (.ref x), some (.ref l), some (.ref t), c, none, none] ∧ Same H6 H') ⟨_, rfl, Same.refl _⟩ (fun q σ H' _ ⟨_, _, s⟩ => SqL.of (s _ _ h6)) ?_ ?_)
      · rintro q y σ H7 hy ⟨c', rfl, s7⟩
        obtain ⟨o, rfl⟩ : ∃ z, y = .int z := by
          have hi := getq_lt hy
          match q, hi with
          | 0, _ => cases hy; exact ⟨_, rfl⟩
          | 1, _ => cases hy; exact ⟨_, rfl⟩
          | 2, _ => cases hy; exact ⟨_, rfl⟩
          | 3, _ => cases hy; exact ⟨_, rfl⟩
        o_args
        refine fine H7 o _ _ ((s5.trans s6).trans s7) fun b H8 s8 hb => ?_
        have s48 := ((s5.trans s6).trans s7).trans s8
        o_args
        refine ⟨hi, hj, di, dj, way, o, rfl, (Ai4.same s48).less (fun _ z => nomatch z), (Aj4.same s48).less (fun _ z => nomatch z), ?_⟩
        o_args
        rw [show decide (id b = jB way (hasF di o) (hasF dj o)) = true from decide_eq_true hb]
        o_args
        exact ⟨_, rfl, s7.trans s8⟩
      · rintro σ H7 ⟨c', rfl, s7⟩
        o_args
        exact ⟨_, _, rfl, (s5.trans s6).trans s7⟩
    · rintro σ H5 ⟨b, c', rfl, s5⟩
      have P5 := P4.same s5
      have r5 := r4.same s5
      have s05 := s04.trans s5
      have N5 : IntL n ns H5 := s05 _ _ N0
      have lt := r5.len
      clear Ai4 Aj4 fine G4 P4 r4 B4 N4 h4 hx4
      o_args
      refine lcG (a := l) (xs := ts.map V.ref) (fun D3 k' vs H' => ∃ us : List Addr, vs = us.map V.ref ∧ us.length = k' ∧ SameX D3 H5 H' ∧ (∀ (j : Nat) u (r : Run), us[j]? = some u → due[j]? = some r → H' u = some (.tup [.bl true, .int r.1, .int r.2])) ∧ ∀ u ∈ us, H5 u = none ∧ u ≠ D3) (fun R h => ⟨_, rfl, h⟩) (SqL.of r5.1) (by rw [List.length_map]; omega) (fun D3 _ => ⟨[], rfl, rfl, SameX.upd, (fun _ _ _ q => nomatch q), fun _ q => nomatch q⟩) (fun D3 k' vs H' hD3 ⟨_, _, _, s, _⟩ => SqL.of (s _ _ (ne_of_none r5.1 hD3) r5.1)) (fun D3 k' v vs H' hD3 hv hle hd hP => ?_) (fun h vs H6 hD3 hd hle hP => ?_)
      · obtain ⟨us, e1, ll, sX, at', nw⟩ := hP
        have il := getq_lt hv
        rw [List.length_map, lt] at il
        obtain ⟨t, _, e2, ht⟩ := r5.at (List.getElem?_eq_getElem il)
        rw [e2] at hv
        cases hv
        have ht' := sX _ _ (ne_of_none ht hD3) ht
        have ip : due[k']? = some due[k'] := List.getElem?_eq_getElem il
        generalize due[k'] = r at ht ht' ip
        intro Y N hY hN
        dsimp only [tYes]
        rw [if_pos rfl]
        o_args
        refine newTup (by simp) fun u H3 nu s3 h3 => ?_
        have uD : u ≠ D3 := (ne_of_none hd nu).symm
        refine hY _ H3 (s3 _ _ hd) ⟨us ++ [u], by rw [e1, List.map_append]; rfl, by simp [ll], (sX.trans (SameX.of s3)).upd', fun j x q hx hq => ?_, fun x hx => ?_⟩
        · rcases getq_app hx with ⟨c, hx⟩ | ⟨c, z⟩
          · rw [upd_ne (nw x (List.mem_of_getElem? hx)).2]
            exact s3 _ _ (at' j x q hx hq)
          · rw [c, ll, ip] at hq
            cases hq
            rw [z, upd_ne uD]
            exact h3
        · rcases List.mem_append.mp hx with hx | hx
          · exact nw x hx
          · rw [List.mem_singleton.mp hx]
            exact ⟨sX.none_of nu uD, uD⟩
      obtain ⟨us, e1, ll, sX, at', nw⟩ := hP
      subst e1
      rw [List.length_map, lt] at ll
      have s56 := Same.ofX hD3 sX
      obtain ⟨hs, eh⟩ : ∃ hs : List Deed, hs = due.map fun r => (true, r.1, r.2) := ⟨_, rfl⟩
      have lh : hs.length = due.length := by rw [eh, List.length_map]
      have Hi : Hist H6 us hs := ⟨by rw [ll, lh], fun i t d h1 h2 => by
        rw [eh, List.getElem?_map] at h2
        cases c : due[i]? with
        | none =>
          rw [c] at h2
          cases h2
        | some r =>
          rw [c] at h2
          cases h2
          exact at' i t r h1 c⟩
      have al5 : Al [a, n, x] H5 := .cons (B0.same s05).al.choose_spec (.cons N5 (.cons P5.at_.choose_spec .nil))
      have A6 : HistA h [a, n, x] hs H6 := ⟨us, hd, Hi, al5.new hD3, fun u hu => al5.new (nw u hu).1⟩
      have P6 : SpA T.c_Spans x [a, n, h] due H6 := (P5.own hD3 s56).less (by simp)
      have M6 : ∀ o, Mem o due ↔ hasF hs o = true := fun o => by rw [eh, hasF_all]
      have s06 := s05.trans s56
      have nh : H h = none := none_of s05 hD3
      have B6 : Box a (h :: x :: F) H6 := by
        have B1 : Box a (x :: F) H5 := B0.own nx s05
        exact B1.own hD3 s56
      have N6 : IntL n ns H6 := s06 _ _ N0
      have D6 : Dd T.c_Spans a x h n (h :: x :: F) [a, n, h] [a, n, x] 450 H6 := ⟨ns, due, hs, B6, N6, P6, A6, M6, ⟨by omega, by omega, by omega⟩, .cons B6.al.choose_spec (.cons N6 (.cons hd .nil)), al5.same s56, by simp [nF], by simp, by simp⟩
      clear A6 P6 M6 B6 N6 Hi sX at' nw P5 r5 hd
      o_args
      refine ⟨a, x, h, n, _, _, _, _, rfl, D6, by decide, fun H7 D7 c7 => ?_⟩
      have C7 : Ch [a, n] H H7 := ((Ch.of (G := [x, h, a, n]) s06).trans (c7.more (by simp))).drop nx |>.drop nh
      have B7 : Box a F H7 := by
        obtain ⟨_, _, _, B, _⟩ := D7
        exact B.less (fun b hb => by simp [hb])
      obtain ⟨ns7, rs7, hs7, _, N7, P7, A7, M7, ⟨z71, z72, z73⟩, _⟩ := D7
      have hL7 := C7.at nL hL
      have hLh7 := C7.at nLh hLh
      have S07 := S0.ch C7 (fun _ z => z)
      have S17 := S1.ch C7 (fun _ z => z)
      have A07 := A0.ch C7 (fun _ z => z)
      have A17 := A1.ch C7 (fun _ z => z)
      clear D6 c7 S0 S1 A0 A1 hL hLh B0 N0 Ai Aj
      o_args
      refine ⟨h, _, hs7, rfl, A7, by omega, fun l2 t2 d2 H8 n8 s8 r8 N8 m8 => ?_⟩
      have ed : d2 = rs7 := N8.uniq P7.offs.nrm fun o => by rw [m8 o, M7 o]
      subst ed
      o_args
      refine ⟨x, l2, t2, d2, rfl, (P7.same s8).less (fun _ z => nomatch z), r8, by omega, fun H9 s9 => ?_⟩
      have s79 := s8.trans s9
      have hL9 := s79 _ _ hL7
      have hLh9 := s79 _ _ hLh7
      have S09 := S07.same s79
      have S19 := S17.same s79
      have A09 := A07.same s79
      have A19 := A17.same s79
      have C9 : Ch [a, n] H H9 := C7.trans (Ch.of s79)
      have B9 := B7.same s79
      clear A7 P7 hL7 hLh7 S07 S17 A07 A17 C7 B7 r8 N7 s79 s8 s9
      o_args
      refine ⟨h0, _, ds, rfl, A09, by omega, fun l3 t3 d3 H10 n10 s10 r10 N10 m10 => ?_⟩
      have ed : d3 = rs := N10.uniq S09.offs.nrm fun o => by rw [m10 o, M0 o]
      subst ed
      o_args
      refine ⟨e0, l3, t3, d3, rfl, (S09.same s10).less (fun _ z => nomatch z), r10, by omega, fun H11 s11 => ?_⟩
      have s911 := s10.trans s11
      have hL11 := s911 _ _ hL9
      have hLh11 := s911 _ _ hLh9
      o_args
      refine ⟨h1, _, ks, rfl, A19.same s911, by omega, fun l4 t4 d4 H12 n12 s12 r12 N12 m12 => ?_⟩
      have ed : d4 = qs := N12.uniq S19.offs.nrm fun o => by rw [m12 o, M1 o]
      subst ed
      have s912 := s911.trans s12
      o_args
      refine ⟨e1, l4, t4, d4, rfl, (S19.same s912).less (fun _ z => nomatch z), r12, by omega, fun H13 s13 => ?_⟩
      have s913 := s912.trans s13
      exact k H13 (B9.same s913) (C9.trans (Ch.of s913))
/-! ### the law -/
theorem HistA.nil {h : Addr} {F : List Addr} {H : Hp} (e : H h = some (.lst [])) (n : h ∉ F) : HistA h F [] H := ⟨[], e, ⟨rfl, fun _ _ _ q => nomatch q⟩, n, fun _ q => nomatch q⟩
theorem lcR3 {tel : TE} {σ : L2.St} {H : Hp} {Q : VK} {j : Nat} (P : Addr → Nat → List Addr → Hp → Prop) (h0 : ∀ D, H D = none → P D 0 [] (upd H D (.lst [])))
    (hs : ∀ D i xs H', H D = none → i < 3 → H' D = some (.lst (xs.map V.ref)) → xs.length = i → P D i xs H' → ∀ Y : VK, (∀ x H3, H3 D = some (.lst (xs.map V.ref)) → P D (i + 1) (xs ++ [x]) (upd H3 D (.lst ((xs ++ [x]).map V.ref))) → Y (.ref x) H3) → tel ((σ.set j none).set j (some (.int (0 + (i : Int))))) H' Y)
    (hd : ∀ D xs H', H D = none → H' D = some (.lst (xs.map V.ref)) → xs.length = 3 → P D 3 xs H' → Q (.ref D) H') : tLc (iRng1 (tCons (tC (.int 3)) tNil)) (gName j) tYes tel [j] σ H Q := by
  refine ⟨3, rfl, by decide, by decide, fun D hD => lc_range (lo := 0) (n := (3 : Int).toNat) (fun i H' => ∃ xs : List Addr, xs.length = i ∧ H' D = some (.lst (xs.map V.ref)) ∧ P D i xs H') ⟨[], rfl, upd_same, h0 D hD⟩ ?_ ?_⟩
  · rintro i H' hi ⟨xs, hl, h1, hp⟩
    refine ⟨?_, ?_⟩
    · show ((((σ.set j none).set j (some (V.int (0 + (i : Int))))).set j none) = σ.set j none)
      rw [List.set_set, List.set_set]
    dsimp only [tYes]
    rw [if_pos rfl]
    refine hs D i xs H' hD hi h1 hl hp _ fun x H3 e p => ⟨_, e, ?_, xs ++ [x], by rw [List.length_append, hl]; rfl, by rw [List.map_append]; exact upd_same, by rw [List.map_append] at p; exact p⟩
    have : i < 3 := hi
    rw [List.length_map, sizeLine_eq]
    omega
  · rintro H' ⟨xs, hl, h1, hp⟩
    exact hd D xs H' hD h1 hl hp
/-- what a deed at one set leaves of the other -/
theorem Dd.other {C a e h n e' h' : Addr} {Fb Fs Fh Fs' Fh' : List Addr} {m m' : Nat} {H H' : Hp} (D : Dd C a e h n Fb Fs Fh m H) (D' : Dd C a e' h' n Fb Fs' Fh' m' H') (c : Ch [a, e', h', n] H H') (z : m ≤ m') (i1 : e' ∈ Fs ∧ h' ∈ Fs) (i2 : e' ∈ Fh ∧ h' ∈ Fh) : Dd C a e h n Fb Fs Fh m' H' := by
  obtain ⟨ns, rs, hs, _, _, P, A, M, ⟨_, z2, z3⟩, l1, l2, q1, ⟨q2, q3, q4⟩, q5, q6, q7⟩ := D
  obtain ⟨ns', _, _, B', N', _, _, _, ⟨z1, _, _⟩, _⟩ := D'
  exact ⟨ns', rs, hs, B', N', P.ch c (by simp [q2, q3, i1]), A.ch c (by simp [q5, q6, i2]), M, ⟨z1, by omega, by omega⟩, l1.ch c, l2.ch c, q1, ⟨q2, q3, q4⟩, q5, q6, q7⟩
def sp_law (K : PySem.W.Frag) : Sp := fun vs H Q _ => ∃ (a : Addr) (ns : List Int), vs = [.ref a] ∧ SqL K H a (ns.map V.int) ∧ ns.length ≤ 63 ∧ ∀ H', Q (.bl true) H'
set_option maxHeartbeats 0 in
theorem ok_law (T : Txt K mg) : FnOk P w K mg base CX0 9 T.a_law T.fd_law ["script"] (sp_law K) := by
  have S := sc_law
  refine T.F_law.ok S (fun vs H Q E h => ?_) (fun cdv A outer s H vs Q E hr h => ?_)
  · obtain ⟨s, ns, rfl, _⟩ := h
    rfl
  · obtain ⟨s, ns0, rfl, hS, _, k⟩ := h
    refine ⟨_, (pss_cons (ps_set (i := 1) S.nd rfl (Or.inl rfl) (pe_call (ok__law_box T) (hr.mono (by decide)) rfl T.g__law_box T.F__law_box.kp T.B__law_box .nil pass0 (pa_cons (pv 0) pa_nil)))
      (pss_cons (ps_set (i := 2) S.nd rfl (Or.inl rfl) (pe_lst pa_nil))
      (pss_cons (ps_set (i := 3) S.nd rfl (Or.inr rfl) (pe_lst (pa_cons (pe_lst pa_nil) (pa_cons (pe_lst pa_nil) pa_nil))))
      (pss_cons (ps_set (i := 4) S.nd rfl (Or.inr rfl) (pe_lst (pa_cons (pe_call (ok__law_filled T) (hr.mono (by decide)) rfl T.g__law_filled T.F__law_filled.kp T.B__law_filled .nil pass0 (pa_cons (pv 1) (pa_cons (pe_ix ix_list (pv 3) pe_int (fun _ _ => rfl)) (pa_cons (pv 2) pa_nil)))) (pa_cons (pe_call (ok__law_filled T) (hr.mono (by decide)) rfl T.g__law_filled T.F__law_filled.kp T.B__law_filled .nil pass0 (pa_cons (pv 1) (pa_cons (pe_ix ix_list (pv 3) pe_int (fun _ _ => rfl)) (pa_cons (pv 2) pa_nil)))) pa_nil))))
      (pss_cons (ps_for PassesOwn.never rfl (pi_range1 (by rfl) T.b_range (pa_cons pe_int pa_nil)) (pg_name (i := 5) S.nd rfl (Or.inl rfl)) (pss_one (ps_for PassesOwn.never rfl (pi_list (pe_lst (pa_cons (pe_tup (pa_cons pe_int (pa_cons pe_int pa_nil))) (pa_cons (pe_tup (pa_cons pe_int (pa_cons pe_int pa_nil))) (pa_cons (pe_tup (pa_cons pe_int (pa_cons pe_int pa_nil))) (pa_cons (pe_tup (pa_cons pe_int (pa_cons pe_int pa_nil))) pa_nil)))))) (pg_name (i := 6) S.nd rfl (Or.inl rfl)) (pss_one (ps_if (pt_not (pt_val (pe_call (ok__law_joins T) (hr.mono (by decide)) rfl T.g__law_joins T.F__law_joins.kp T.B__law_joins .nil pass0 (pa_cons (pv 1) (pa_cons (pv 4) (pa_cons (pv 3) (pa_cons (pe_callTy (T := "list") (call_listK (K := K) rfl) (by rfl) T.b_list (by decide +kernel) (pa_cons (pv 2) pa_nil)) (pa_cons (pe_ix ix_tup (pv 6) pe_int (fun _ _ => rfl)) (pa_cons (pe_ix ix_tup (pv 6) pe_int (fun _ _ => rfl)) (pa_cons (pv 5) pa_nil)))))))))) (pss_one (ps_ret pe_bl)) pss_nil)))))
      (pss_cons (ps_if (pt_not (pt_val (pe_call (ok__law_equals T) (hr.mono (by decide)) rfl T.g__law_equals T.F__law_equals.kp T.B__law_equals .nil pass0 (pa_cons (pv 4) (pa_cons (pv 3) pa_nil))))) (pss_one (ps_ret pe_bl)) pss_nil)
      (pss_cons (ps_setLc (i := 7) (own := [("way", 5)]) (g := gName 5) (tt := tYes) rfl S.nd rfl rfl (sw_true rfl rfl rfl (by decide +kernel)) (pi_range1 (by rfl) T.b_range (pa_cons pe_int pa_nil)) (blkOk_by (N := ["script", "box", "ends", "histories", "sets", "way", "order", "kept", "dues", "alone", "lone", "k"]) (sc := defScope s_law) (by decide +kernel)) (fun _ _ _ _ _ => pg_name (i := 5) S.nd rfl (Or.inl rfl)) (fun _ _ _ _ _ => pts_nil) (fun _ _ _ _ _ => (pe_call (ok__law_joined T) (hr.mono (by decide)) rfl T.g__law_joined T.F__law_joined.kp T.B__law_joined .nil pass0 (pa_cons (pe_ix (show IxR _ (rIxL K) from ix_list) (pv 4) pe_int (fun _ _ => rfl)) (pa_cons (pe_ix (show IxR _ (rIxL K) from ix_list) (pv 4) pe_int (fun _ _ => rfl)) (pa_cons (pv 5) pa_nil))))))
      (pss_cons (ps_setLc (i := 8) (own := [("way", 5)]) (g := gName 5) (tt := tYes) rfl S.nd rfl rfl (sw_true rfl rfl rfl (by decide +kernel)) (pi_range1 (by rfl) T.b_range (pa_cons pe_int pa_nil)) (blkOk_by (N := ["script", "box", "ends", "histories", "sets", "way", "order", "kept", "dues", "alone", "lone", "k"]) (sc := defScope s_law) (by decide +kernel)) (fun _ _ _ _ _ => pg_name (i := 5) S.nd rfl (Or.inl rfl)) (fun _ _ _ _ _ => pts_nil) (fun _ _ _ _ _ => (pe_call (ok__law_joined_due T) (hr.mono (by decide)) rfl T.g__law_joined_due T.F__law_joined_due.kp T.B__law_joined_due .nil pass0 (pa_cons (pe_ix (show IxR _ (rIxL K) from ix_list) (pv 3) pe_int (fun _ _ => rfl)) (pa_cons (pe_ix (show IxR _ (rIxL K) from ix_list) (pv 3) pe_int (fun _ _ => rfl)) (pa_cons (pv 5) pa_nil))))))
      (pss_cons (ps_setLc (i := 9) (own := [("way", 5)]) (g := gName 5) (tt := tYes) rfl S.nd rfl rfl (sw_true rfl rfl rfl (by decide +kernel)) (pi_range1 (by rfl) T.b_range (pa_cons pe_int pa_nil)) (blkOk_by (N := ["script", "box", "ends", "histories", "sets", "way", "order", "kept", "dues", "alone", "lone", "k"]) (sc := defScope s_law) (by decide +kernel)) (fun _ _ _ _ _ => pg_name (i := 5) S.nd rfl (Or.inl rfl)) (fun _ _ _ _ _ => pts_nil) (fun _ _ _ _ _ => (pe_call (ok__law_joined T) (hr.mono (by decide)) rfl T.g__law_joined T.F__law_joined.kp T.B__law_joined .nil pass0 (pa_cons (pe_ix (show IxR _ (rIxL K) from ix_list) (pv 4) pe_int (fun _ _ => rfl)) (pa_cons (pe_ix (show IxR _ (rIxL K) from ix_list) (pv 4) pe_int (fun _ _ => rfl)) (pa_cons (pv 5) pa_nil))))))
      (pss_cons (ps_set (i := 10) S.nd rfl (Or.inl rfl) (pe_call (ok__law_due T) (hr.mono (by decide)) rfl T.g__law_due T.F__law_due.kp T.B__law_due .nil pass0 (pa_cons (pe_ix ix_list (pv 3) pe_int (fun _ _ => rfl)) pa_nil)))
      (pss_cons (ps_for PassesOwn.never rfl (pi_range1 (by rfl) T.b_range (pa_cons (pe_op op_add pe_int (pe_call (ok__law_draw T) (hr.mono (by decide)) rfl T.g__law_draw T.F__law_draw.kp T.B__law_draw .nil pass0 (pa_cons (pv 1) (pa_cons pe_int pa_nil)))) pa_nil)) (pg_name (i := 11) S.nd rfl (Or.inl rfl)) (pss_cons (ps_expr (pe_call (ok__law_deed T) (hr.mono (by decide)) rfl T.g__law_deed T.F__law_deed.kp T.B__law_deed .nil pass0 (pa_cons (pv 1) (pa_cons (pe_ix ix_list (pv 4) pe_int (fun _ _ => rfl)) (pa_cons (pe_ix ix_list (pv 3) pe_int (fun _ _ => rfl)) (pa_cons (pv 2) pa_nil))))))
      (pss_one (ps_expr (pe_call (ok__law_deed T) (hr.mono (by decide)) rfl T.g__law_deed T.F__law_deed.kp T.B__law_deed .nil pass0 (pa_cons (pv 1) (pa_cons (pe_ix ix_list (pv 4) pe_int (fun _ _ => rfl)) (pa_cons (pe_ix ix_list (pv 3) pe_int (fun _ _ => rfl)) (pa_cons (pv 2) pa_nil)))))))))
      (pss_cons (ps_for PassesOwn.never rfl (pi_range1 (by rfl) T.b_range (pa_cons pe_int pa_nil)) (pg_name (i := 5) S.nd rfl (Or.inl rfl)) (pss_one (ps_if (PW.pt (pw_or (pt_not (pt_val (pe_call (ok__law_is_set T) (hr.mono (by decide)) rfl T.g__law_is_set T.F__law_is_set.kp T.B__law_is_set .nil pass0 (pa_cons (pe_ix ix_list (pv 7) (pv 5) (fun _ _ => rfl)) (pa_cons (pe_ix ix_list (pv 8) (pv 5) (fun _ _ => rfl)) pa_nil))))) (pw_or1 (pt_not (pt_val (pe_call (ok__law_is_set T) (hr.mono (by decide)) rfl T.g__law_is_set T.F__law_is_set.kp T.B__law_is_set .nil pass0 (pa_cons (pe_ix ix_list (pv 9) (pv 5) (fun _ _ => rfl)) (pa_cons (pe_ix ix_list (pe_lst (pa_cons (pv 10) (pa_cons (pv 10) (pa_cons (pe_lst pa_nil) pa_nil)))) (pv 5) (fun _ _ => rfl)) pa_nil)))))))) (pss_one (ps_ret pe_bl)) pss_nil)))
      (pss_one (ps_ret (pe_call (ok__law_equals T) (hr.mono (by decide)) rfl T.g__law_equals T.F__law_equals.kp T.B__law_equals .nil pass0 (pa_cons (pv 4) (pa_cons (pv 3) pa_nil))))))))))))))))), ?_⟩
    refine st_law ?_
    o_args
    refine ⟨s, ns0, rfl, hS, fun a H1 na s1 B1 => ?_⟩
    o_args
    refine newList (by simp) fun n H2 nn s2 h2 => ?_
    have B2 : Box a [n] H2 := (B1 [] Al.nil).own nn s2
    have al2 : Al [a, n] H2 := .cons B2.al.choose_spec (.cons h2 .nil)
    o_args
    refine newList (by simp) fun h0 H3 nh0 s3 h3 => ?_
    have B3 := B2.own nh0 s3
    have X3 : HistA h0 [a, n] [] H3 := .nil h3 (al2.new nh0)
    have al3 : Al [h0, a, n] H3 := .cons h3 (al2.same s3)
    o_args
    refine newList (by simp) fun h1 H4 nh1 s4 h4 => ?_
    have B4 := B3.own nh1 s4
    have X4 := X3.own nh1 s4
    have Y4 : HistA h1 [h0, a, n] [] H4 := .nil h4 (al3.new nh1)
    have al4 : Al [h1, h0, a, n] H4 := .cons h4 (al3.same s4)
    o_args
    refine newList (by simp) fun Lh H5 nLh s5 h5 => ?_
    have B5 := B4.own nLh s5
    have X5 := X4.own nLh s5
    have Y5 := Y4.own nLh s5
    have al5 : Al [Lh, h1, h0, a, n] H5 := .cons h5 (al4.same s5)
    have N5 : IntL n [] H5 := (((s3.trans s4).trans s5) _ _ h2)
    have nL5 := al4.new nLh
    clear B1 B2 B3 B4 X3 X4 Y4 al2 al3 s1 s2 s3 s4 s5 h2 h3 h4 nh0 nh1 nn na
    o_args
    refine ⟨a, h0, n, _, _, [Lh, h1, h0, a, n], [], 0, rfl, B5, N5, ⟨Nat.le_refl _, Nat.zero_le _⟩, X5, al5.less (by simp), al5, by simp, by simp, by simp, fun e0 H6 ne0 D6 c6 => ?_⟩
    have Y6 := (Y5.own ne0 (Same.refl _)).ch c6 (by simp)
    have al6 : Al [e0, Lh, h1, h0, a, n] H6 := by
      obtain ⟨_, _, _, _, _, P, _⟩ := id D6
      exact .cons P.at_.choose_spec (al5.ch c6)
    have hLh6 := c6.at (fun z => nL5 (by simp at z; simp; rcases z with z | z | z <;> simp [z])) h5
    obtain ⟨ns6, rs6, hs6, B6, N6, P6, X6, M6, ⟨z61, z62, z63⟩, _⟩ := D6
    clear Y5 X5 B5 N5 c6
    o_args
    refine ⟨a, h1, n, _, _, [e0, Lh, h1, h0, a, n], ns6, 20, rfl, B6, N6, ⟨by omega, by omega⟩, Y6, al6.less (by simp), al6, by simp, by simp, by simp, fun e1 H7 ne1 D7 c7 => ?_⟩
    have X7 := (X6.own ne1 (Same.refl _)).ch c7 (by simp)
    have P7 := (P6.own ne1 (Same.refl _)).ch c7 (by simp)
    have hLh7 := c7.at (fun z => nL5 (by simp at z; simp; rcases z with z | z | z <;> simp [z])) hLh6
    have al7 : Al [e1, e0, Lh, h1, h0, a, n] H7 := by
      obtain ⟨_, _, _, _, _, P, _⟩ := id D7
      exact .cons P.at_.choose_spec (al6.ch c7)
    obtain ⟨ns7, rs7, hs7, B7, N7, R7, Y7, M7, ⟨z71, z72, z73⟩, _⟩ := D7
    clear Y6 X6 B6 N6 c7 P6 hLh6
    o_args
    refine newList (by simp) fun L H8 nL s8 h8 => ?_
    have B8 := B7.own nL s8
    have P8 := P7.own nL s8
    have R8 := R7.own nL s8
    have X8 := X7.own nL s8
    have Y8 := Y7.own nL s8
    have N8 : IntL n ns7 H8 := s8 _ _ N7
    have hLh8 := s8 _ _ hLh7
    have al8 : Al [L, e1, e0, Lh, h1, h0, a, n] H8 := .cons h8 (al7.same s8)
    have fL := al7.new nL
    have LLh : L ≠ Lh := (ne_of_none hLh7 nL).symm
    have La : L ≠ a := fun z => al7.new nL (by rw [z]; simp)
    have Ln : L ≠ n := fun z => al7.new nL (by rw [z]; simp)
    have Lha : Lh ≠ a := fun z => nL5 (by rw [z]; simp)
    have Lhn : Lh ≠ n := fun z => nL5 (by rw [z]; simp)
    clear B7 P7 R7 X7 Y7 N7 hLh7 al7 s8
    o_args
    refine rngF (n := 3) (by decide) (by decide) (for_rangeK (lo := 0) (n := (3 : Int).toNat) (fun i σ H' => ∃ u w, σ = [some (.ref s), some (.ref a), some (.ref n), some (.ref Lh), some (.ref L), u, w, none, none, none, none, none] ∧ Box a [L, e1, e0, Lh, h1, h0, n] H' ∧ Ch [a] H8 H') ⟨none, none, rfl, B8, Ch.refl⟩ ?_ ?_)
    · rintro i σ H9 hi ⟨u, w, rfl, B9, c9⟩
      o_args
      refine newTup (by simp) fun t1 H10 n10 s10 h10 => ?_
      o_args
      refine newTup (by simp) fun t2 H11 n11 s11 h11 => ?_
      o_args
      refine newTup (by simp) fun t3 H12 n12 s12 h12 => ?_
      o_args
      refine newTup (by simp) fun t4 H13 n13 s13 h13 => ?_
      o_args
      refine newList (by simp) fun W H14 n14 s14 h14 => ?_
      have g13 := s14 _ _ h13
      have g12 := (s13.trans s14) _ _ h12
      have g11 := (s12.trans (s13.trans s14)) _ _ h11
      have g10 := (s11.trans (s12.trans (s13.trans s14))) _ _ h10
      have s914 := s10.trans (s11.trans (s12.trans (s13.trans s14)))
      have B14 := B9.same s914
      have c14 : Ch [a] H8 H14 := c9.trans (Ch.of s914)
      have ta : ∀ {t xs}, H14 t = some (.tup xs) → t ∉ [a] := fun q z => by
        obtain ⟨c, cs, p, r, s', m, h1, _⟩ := id B14
        rw [List.mem_singleton.mp z, h1] at q
        cases q
      have Wa : W ∉ [a] := fun z => by
        obtain ⟨o, q⟩ := (B9.same (s10.trans (s11.trans (s12.trans s13)))).al
        rw [← List.mem_singleton.mp z, n14] at q
        cases q
      clear h10 h11 h12 h13 s10 s11 s12 s13 s14 n10 n11 n12 n13 n14 B9 c9
      refine overL (SqL.of h14) (for_list (K := K) (a := W) (xs := [.ref t1, .ref t2, .ref t3, .ref t4]) (fun q σ H' => ∃ w, σ = [some (.ref s), some (.ref a), some (.ref n), some (.ref Lh), some (.ref L), some (.int (0 + (i : Int))), w, none, none, none, none, none] ∧ Box a [L, e1, e0, Lh, h1, h0, n] H' ∧ Ch [a] H14 H') ⟨_, rfl, B14, Ch.refl⟩ (fun q σ H' _ ⟨_, _, _, c⟩ => SqL.of (c.at Wa h14)) ?_ ?_)
      · rintro q x σ H15 hx ⟨w, rfl, B15, c15⟩
        have key : ∃ (t : Addr) (i j : Nat) (ei ej hi hj : Addr) (ri rj : List Run) (di dj : List Deed), x = .ref t ∧ H15 t = some (.tup [.int i, .int j]) ∧ (([V.ref e0, .ref e1])[i]? = some (.ref ei) ∧ ([V.ref e0, .ref e1])[j]? = some (.ref ej) ∧ ([V.ref h0, .ref h1])[i]? = some (.ref hi) ∧ ([V.ref h0, .ref h1])[j]? = some (.ref hj)) ∧ (ri.length ≤ 200 ∧ rj.length ≤ 200 ∧ di.length ≤ 200 ∧ dj.length ≤ 200) ∧ (∀ o, Mem o ri ↔ hasF di o = true) ∧ (∀ o, Mem o rj ↔ hasF dj o = true) ∧
            ∀ F H'', SpA T.c_Spans e0 F rs6 H'' → SpA T.c_Spans e1 F rs7 H'' → HistA h0 F hs6 H'' → HistA h1 F hs7 H'' → SpA T.c_Spans ei F ri H'' ∧ SpA T.c_Spans ej F rj H'' ∧ HistA hi F di H'' ∧ HistA hj F dj H'' := by
          have := getq_lt hx
          have : q = 0 ∨ q = 1 ∨ q = 2 ∨ q = 3 := by simp at this; omega
          rcases this with rfl | rfl | rfl | rfl <;> cases hx
          · exact ⟨t1, 0, 1, e0, e1, h0, h1, rs6, rs7, hs6, hs7, rfl, c15.at (ta g10) g10, ⟨rfl, rfl, rfl, rfl⟩, ⟨by omega, by omega, by omega, by omega⟩, M6, M7, fun F H'' a b c d => ⟨a, b, c, d⟩⟩
          · exact ⟨t2, 1, 0, e1, e0, h1, h0, rs7, rs6, hs7, hs6, rfl, c15.at (ta g11) g11, ⟨rfl, rfl, rfl, rfl⟩, ⟨by omega, by omega, by omega, by omega⟩, M7, M6, fun F H'' a b c d => ⟨b, a, d, c⟩⟩
          · exact ⟨t3, 0, 0, e0, e0, h0, h0, rs6, rs6, hs6, hs6, rfl, c15.at (ta g12) g12, ⟨rfl, rfl, rfl, rfl⟩, ⟨by omega, by omega, by omega, by omega⟩, M6, M6, fun F H'' a b c d => ⟨a, a, c, c⟩⟩
          · exact ⟨t4, 1, 1, e1, e1, h1, h1, rs7, rs7, hs7, hs7, rfl, c15.at (ta g13) g13, ⟨rfl, rfl, rfl, rfl⟩, ⟨by omega, by omega, by omega, by omega⟩, M7, M7, fun F H'' a b c d => ⟨b, b, d, d⟩⟩
        obtain ⟨t, i', j', ei, ej, hi', hj', ri, rj, di, dj, rfl, ht, pk, ⟨y1, y2, y3, y4⟩, Mi, Mj, all⟩ := key
        have c815 := c14.trans c15
        have N15 : IntL n ns7 H15 := c815.at (fun z => B8.nin ((List.mem_singleton.mp z) ▸ (by simp))) N8
        o_args
        refine listOf (.inl (SqL.of N15)) fun n' H16 nn' s16 h16 => ?_
        have ht16 := s16 _ _ ht
        have nw : ∀ {C e F rs}, SpA C e F rs H8 → a ∈ F → SpA C e [a, n'] rs H16 := fun {C e F rs} P aF => ((((P.ch c815 (one_in aF)).less (G := [a]) (one_in aF)).own nn' s16).less (by simp))
        have nh : ∀ {h F hs}, HistA h F hs H8 → a ∈ F → HistA h [a, n'] hs H16 := fun {h F hs} X aF => ((((X.ch c815 (one_in aF)).less (G := [a]) (one_in aF)).own nn' s16).less (by simp))
        have P16 := nw P8 (by simp)
        have R16 := nw R8 (by simp)
        have X16 := nh X8 (by simp)
        have Y16 := nh Y8 (by simp)
        obtain ⟨q1, q2, q3, q4⟩ := all [a, n'] H16 P16 R16 X16 Y16
        have hL16 := s16 _ _ (c815.at (by simp [La]) h8)
        have hLh16 := s16 _ _ (c815.at (by simp [Lha]) hLh8)
        have nL' : L ≠ n' := fun z => by rw [z] at hL16 h8; exact absurd nn' (fun z => by rw [c815.at (by rw [← ‹L = n'›]; simp [La]) h8] at z; cases z)
        have nLh' : Lh ≠ n' := fun z => by
          have := c815.at (by simp [Lha]) hLh8
          rw [z, nn'] at this
          cases this
        o_args
        refine ⟨a, L, Lh, n', e0, e1, h0, h1, ei, ej, hi', hj', n' :: [L, e1, e0, Lh, h1, h0, n], ns7, rs6, rs7, ri, rj, hs6, hs7, di, dj, i', j', _, rfl, ⟨B15.own nn' s16, by simp, h16⟩, ⟨hL16, hLh16, by simp [La, nL'], by simp [Lha, nLh']⟩, ⟨P16, R16, X16, Y16, M6, M7⟩, pk, ⟨q1, q2, q3, q4, Mi, Mj⟩, ⟨by omega, by omega, by omega, y1, y2, by omega, by omega, y3, y4⟩, fun H17 B17 c17 => ?_⟩
        o_args
        exact ⟨_, rfl, B17.less (by simp), c15.trans (((Ch.of (G := [n', a]) s16).trans (c17.more (by simp))).drop nn')⟩
      · rintro σ H15 ⟨w, rfl, B15, c15⟩
        o_args
        exact ⟨_, _, rfl, B15, c14.trans c15⟩
    · rintro σ H9 ⟨u, w, rfl, B9, c9⟩
      have N9 : IntL n ns7 H9 := c9.at (fun z => B8.nin ((List.mem_singleton.mp z) ▸ (by simp))) N8
      have P9 := P8.ch c9 (one_in (by simp))
      have R9 := R8.ch c9 (one_in (by simp))
      have X9 := X8.ch c9 (one_in (by simp))
      have Y9 := Y8.ch c9 (one_in (by simp))
      have hL9 := c9.at (by simp [La]) h8
      have hLh9 := c9.at (by simp [Lha]) hLh8
      have al9 := al8.ch c9
      clear B8 P8 R8 X8 Y8 N8 h8 hLh8 al8 c9
      o_args
      refine ⟨L, Lh, e0, e1, h0, h1, rs6, rs7, hs6, hs7, rfl, hL9, hLh9, P9.less (fun _ z => nomatch z), R9.less (fun _ z => nomatch z), X9.less (fun _ z => nomatch z), Y9.less (fun _ z => nomatch z), M6, M7, ⟨by omega, by omega, by omega, by omega⟩, fun H10 s10 => ?_⟩
      have N10 : IntL n ns7 H10 := s10 _ _ N9
      have P10 := P9.same s10
      have R10 := R9.same s10
      have X10 := X9.same s10
      have Y10 := Y9.same s10
      have B10 := B9.same s10
      have hL10 := s10 _ _ hL9
      have hLh10 := s10 _ _ hLh9
      have al10 := al9.same s10
      clear P9 R9 X9 Y9 N9 B9 hL9 hLh9 al9 s10
      o_args
      refine lcR3 (fun D i xs H' => SameX D H10 H' ∧ ∀ (w : Nat) x, xs[w]? = some x → ∃ out, SpA T.c_Spans x [D, L, e1, e0, Lh, h1, h0, a, n] out H' ∧ out.length ≤ 400 ∧ ∀ o, Mem o out ↔ jP w (Mem o rs6) (Mem o rs7)) (fun D hD => ⟨SameX.upd, fun _ _ q => nomatch q⟩) (fun D i xs H' hD hi h1' hl hp Y hY => ?_) (fun Dk xk H11 hDk hk hlk hpk => ?_)
      · obtain ⟨sX, hx⟩ := hp
        have sN : ∀ {b o}, H10 b = some o → H' b = some o := fun {b o} q => sX b o (ne_of_none q hD) q
        have cX : Ch [D] H10 H' := Ch.ofX (by simp) sX h1'
        have hL' := sN hL10
        have al' : Al [D, L, e1, e0, Lh, h1, h0, a, n] H' := .cons h1' (al10.ch cX)
        have P' := (P10.own hD (Same.refl _)).ch cX (one_in (by simp))
        have R' := (R10.own hD (Same.refl _)).ch cX (one_in (by simp))
        show tCall (sp__law_joined K T.c_Spans) [] E0 _ [some (.ref s), some (.ref a), some (.ref n), some (.ref Lh), some (.ref L), some (.int (0 + (i : Int))), w, none, none, none, none, none] H' Y
        o_args
        refine ⟨e0, e1, rs6, rs7, _, rfl, P'.less (fun _ z => nomatch z), R'.less (fun _ z => nomatch z), by omega, by omega, fun x out H3 nx s3 P3 z3 M3 => ?_⟩
        have cu : Ch [D] H3 (upd H3 D (.lst ((xs ++ [x]).map V.ref))) := Ch.ofX (by simp) SameX.upd upd_same
        refine hY x H3 (s3 _ _ h1') ⟨(sX.trans (SameX.of s3)).upd', fun w' y hy => ?_⟩
        rcases getq_app hy with ⟨c, hy⟩ | ⟨c, z⟩
        · obtain ⟨out', P', z', M'⟩ := hx w' y hy
          exact ⟨out', (P'.same s3).ch cu (one_in (by simp)), z', M'⟩
        · rw [z]
          refine ⟨out, (P3 _ al').ch cu (one_in (by simp)), by omega, fun o => ?_⟩
          rw [M3 o, c, hl, Int.zero_add]
      have S1011 := Same.ofX hDk hpk.1
      have fk := al10.new hDk
      have kept := hpk.2
      clear hpk
      have al11 : Al [Dk, L, e1, e0, Lh, h1, h0, a, n] H11 := .cons hk (al10.same S1011)
      have P11 := P10.own hDk S1011
      have R11 := R10.own hDk S1011
      have X11 := X10.own hDk S1011
      have Y11 := Y10.own hDk S1011
      have B11 := B10.own hDk S1011
      have N11 : IntL n ns7 H11 := S1011 _ _ N10
      have hL11 := S1011 _ _ hL10
      have hLh11 := S1011 _ _ hLh10
      clear P10 R10 X10 Y10 B10 N10 hL10 hLh10 al10 S1011
      o_args
      refine lcR3 (fun D i xs H' => SameX D H11 H' ∧ ∀ (w : Nat) x, xs[w]? = some x → ∃ ts due, RunsL x ts due H' ∧ x ∉ [D, Dk, L, e1, e0, Lh, h1, h0, a, n] ∧ Nrm due ∧ ∀ o, Mem o due ↔ jF w hs6 hs7 o = true) (fun D hD => ⟨SameX.upd, fun _ _ q => nomatch q⟩) (fun D i xs H' hD hi h1' hl hp Y hY => ?_) (fun Dd' xd H12 hDd hd hld hpd => ?_)
      · obtain ⟨sX, hx⟩ := hp
        have cX : Ch [D] H11 H' := Ch.ofX (by simp) sX h1'
        have hLh' := sX _ _ (ne_of_none hLh11 hD) hLh11
        have al' : Al [D, Dk, L, e1, e0, Lh, h1, h0, a, n] H' := .cons h1' (al11.ch cX)
        have X' := (X11.own hD (Same.refl _)).ch cX (one_in (by simp))
        have Y' := (Y11.own hD (Same.refl _)).ch cX (one_in (by simp))
        show tCall (sp__law_joined_due K) [] E0 _ [some (.ref s), some (.ref a), some (.ref n), some (.ref Lh), some (.ref L), some (.int (0 + (i : Int))), w, some (.ref Dk), none, none, none, none] H' Y
        o_args
        refine ⟨h0, h1, hs6, hs7, _, rfl, X'.less (fun _ z => nomatch z), Y'.less (fun _ z => nomatch z), by omega, by omega, fun x ts due H3 nx s3 r3 N3 M3 => ?_⟩
        have cu : Ch [D] H3 (upd H3 D (.lst ((xs ++ [x]).map V.ref))) := Ch.ofX (by simp) SameX.upd upd_same
        have h13 := s3 _ _ h1'
        have rk : ∀ {x ts due}, RunsL x ts due H3 → x ∉ [D] → RunsL x ts due (upd H3 D (.lst ((xs ++ [x]).map V.ref))) := fun {y ts due} r n => r.ch (Ch.ofX (by simp) SameX.upd upd_same) n fun t ht z => (r.2.lst_ne h13 t ht) (List.mem_singleton.mp z)
        refine hY x H3 h13 ⟨(sX.trans (SameX.of s3)).upd', fun w' y hy => ?_⟩
        rcases getq_app hy with ⟨c, hy⟩ | ⟨c, z⟩
        · obtain ⟨ts', due', r', n', N', M'⟩ := hx w' y hy
          have nD : y ∉ [D] := fun z => n' (by rw [List.mem_singleton.mp z]; simp)
          refine ⟨ts', due', (r'.same s3).ch cu nD fun t ht z => ((r'.same s3).2.lst_ne h13 t ht) (List.mem_singleton.mp z), n', N', M'⟩
        · rw [z]
          have nxG := al'.new nx
          have nD : x ∉ [D] := fun z => nxG (by rw [List.mem_singleton.mp z]; simp)
          refine ⟨ts, due, r3.ch cu nD fun t ht z => (r3.2.lst_ne h13 t ht) (List.mem_singleton.mp z), nxG, N3, fun o => ?_⟩
          rw [M3 o, c, hl, Int.zero_add]
      have S1112 := Same.ofX hDd hpd.1
      have fd := al11.new hDd
      have dues := hpd.2
      clear hpd
      have al12 : Al [Dd', Dk, L, e1, e0, Lh, h1, h0, a, n] H12 := .cons hd (al11.same S1112)
      have P12 := P11.own hDd S1112
      have R12 := R11.own hDd S1112
      have X12 := X11.own hDd S1112
      have Y12 := Y11.own hDd S1112
      have B12 := B11.own hDd S1112
      have N12 : IntL n ns7 H12 := S1112 _ _ N11
      have hL12 := S1112 _ _ hL11
      have hLh12 := S1112 _ _ hLh11
      have hk12 := S1112 _ _ hk
      have kept12 : ∀ (w : Nat) x, xk[w]? = some x → ∃ out, SpA T.c_Spans x [Dk, L, e1, e0, Lh, h1, h0, a, n] out H12 ∧ out.length ≤ 400 ∧ ∀ o, Mem o out ↔ jP w (Mem o rs6) (Mem o rs7) := fun w x hx => by
        obtain ⟨out, q1, q2⟩ := kept w x hx
        exact ⟨out, q1.same S1112, q2⟩
      clear P11 R11 X11 Y11 B11 N11 hL11 hLh11 hk al11 S1112 kept
      o_args
      refine lcR3 (fun D i xs H' => SameX D H12 H' ∧ ∀ (w : Nat) x, xs[w]? = some x → ∃ out, SpA T.c_Spans x [D, Dd', Dk, L, e1, e0, Lh, h1, h0, a, n] out H' ∧ out.length ≤ 400 ∧ ∀ o, Mem o out ↔ jP w (Mem o rs6) (Mem o rs6)) (fun D hD => ⟨SameX.upd, fun _ _ q => nomatch q⟩) (fun D i xs H' hD hi h1' hl hp Y hY => ?_) (fun Da xa H13 hDa ha hla hpa => ?_)
      · obtain ⟨sX, hx⟩ := hp
        have cX : Ch [D] H12 H' := Ch.ofX (by simp) sX h1'
        have hL' := sX _ _ (ne_of_none hL12 hD) hL12
        have al' : Al [D, Dd', Dk, L, e1, e0, Lh, h1, h0, a, n] H' := .cons h1' (al12.ch cX)
        have P' := (P12.own hD (Same.refl _)).ch cX (one_in (by simp))
        show tCall (sp__law_joined K T.c_Spans) [] E0 _ [some (.ref s), some (.ref a), some (.ref n), some (.ref Lh), some (.ref L), some (.int (0 + (i : Int))), w, some (.ref Dk), some (.ref Dd'), none, none, none] H' Y
        o_args
        refine ⟨e0, e0, rs6, rs6, _, rfl, P'.less (fun _ z => nomatch z), P'.less (fun _ z => nomatch z), by omega, by omega, fun x out H3 nx s3 P3 z3 M3 => ?_⟩
        have cu : Ch [D] H3 (upd H3 D (.lst ((xs ++ [x]).map V.ref))) := Ch.ofX (by simp) SameX.upd upd_same
        refine hY x H3 (s3 _ _ h1') ⟨(sX.trans (SameX.of s3)).upd', fun w' y hy => ?_⟩
        rcases getq_app hy with ⟨c, hy⟩ | ⟨c, z⟩
        · obtain ⟨out', P', z', M'⟩ := hx w' y hy
          exact ⟨out', (P'.same s3).ch cu (one_in (by simp)), z', M'⟩
        · rw [z]
          refine ⟨out, (P3 _ al').ch cu (one_in (by simp)), by omega, fun o => ?_⟩
          rw [M3 o, c, hl, Int.zero_add]
      have S1213 := Same.ofX hDa hpa.1
      have fa := al12.new hDa
      have alone := hpa.2
      clear hpa
      have al13 : Al [Da, Dd', Dk, L, e1, e0, Lh, h1, h0, a, n] H13 := .cons ha (al12.same S1213)
      have P13 := P12.own hDa S1213
      have R13 := R12.own hDa S1213
      have X13 := X12.own hDa S1213
      have Y13 := Y12.own hDa S1213
      have B13 := B12.own hDa S1213
      have N13 : IntL n ns7 H13 := S1213 _ _ N12
      have hL13 := S1213 _ _ hL12
      have hLh13 := S1213 _ _ hLh12
      have hk13 := S1213 _ _ hk12
      have hd13 := S1213 _ _ hd
      o_args
      refine ⟨h0, _, hs6, rfl, X13, by omega, fun ll lt lone H14 nl s14 rl Nl ml => ?_⟩
      have el : lone = rs6 := Nl.uniq P13.offs.nrm fun o => by rw [ml o, M6 o]
      subst el
      o_args
      refine ⟨a, _, _, rfl, B13.same s14, by decide, by decide, fun d H15 d0 d1 B15 c15 => ?_⟩
      have s1314 : Ch [a] H13 H15 := (Ch.of s14).trans c15
      have al15 := al13.ch s1314
      have N15 : IntL n ns7 H15 := s1314.at (fun z => B13.nin ((List.mem_singleton.mp z) ▸ (by simp))) N13
      have D0 : Dd T.c_Spans a e0 h0 n [Da, Dd', Dk, L, e1, e0, Lh, h1, h0, n] [Da, Dd', Dk, L, e1, Lh, h1, h0, a, n] [Da, Dd', Dk, L, e1, e0, Lh, h1, a, n] 150 H15 := ⟨ns7, _, hs6, B15, N15, P13.ch s1314 (one_in (by simp)), X13.ch s1314 (one_in (by simp)), M6, ⟨by omega, by omega, by omega⟩, al15.less (by simp), al15.less (by simp), by simp, by simp, by simp⟩
      have D1 : Dd T.c_Spans a e1 h1 n [Da, Dd', Dk, L, e1, e0, Lh, h1, h0, n] [Da, Dd', Dk, L, e0, Lh, h1, h0, a, n] [Da, Dd', Dk, L, e1, e0, Lh, h0, a, n] 150 H15 := ⟨ns7, _, hs7, B15, N15, R13.ch s1314 (one_in (by simp)), Y13.ch s1314 (one_in (by simp)), M7, ⟨by omega, by omega, by omega⟩, al15.less (by simp), al15.less (by simp), by simp, by simp, by simp⟩
      have fl := al13.new nl
      have tl : ∀ {t xs}, H15 t = some (.tup xs) → t ∉ [a, e0, h0, n, e1, h1] := fun {t xs} q z => by
        obtain ⟨_, _, _, ⟨_, _, _, _, _, _, b1, _⟩, b2, ⟨_, _, _, b3, _⟩, ⟨_, b4, _⟩, _⟩ := id D0
        obtain ⟨_, _, _, _, _, ⟨_, _, _, b5, _⟩, ⟨_, b6, _⟩, _⟩ := id D1
        simp only [List.mem_cons, List.not_mem_nil, or_false] at z
        rcases z with rfl | rfl | rfl | rfl | rfl | rfl
        · rw [b1] at q; cases q
        · rw [b3] at q; cases q
        · rw [b4] at q; cases q
        · rw [b2] at q; cases q
        · rw [b5] at q; cases q
        · rw [b6] at q; cases q
      have hL15 := s1314.at (by simp [La]) hL13
      have hLh15 := s1314.at (by simp [Lha]) hLh13
      have gL : L ∉ [a, e0, h0, n, e1, h1] := fun z => fL (by simp at z ⊢; rcases z with z | z | z | z | z | z <;> simp [z])
      have gLh : Lh ∉ [a, e0, h0, n, e1, h1] := fun z => by
        obtain ⟨_, _, _, _, _, ⟨_, _, _, _, _, b3, _⟩, _⟩ := id D0
        obtain ⟨_, _, _, _, _, ⟨_, _, _, _, _, b5, _⟩, _⟩ := id D1
        simp only [List.mem_cons, List.not_mem_nil, or_false] at z
        rcases z with z | z | z | z | z | z
        · exact Lha z
        · exact b3 (by simp [← z])
        · exact nL5 (by simp [z])
        · exact Lhn z
        · exact b5 (by simp [← z])
        · exact nL5 (by simp [z])
      have s1314' := c15
      have rla : ∀ t ∈ lt, t ∉ [a] := fun t ht z => by
        obtain ⟨j, hj⟩ := List.mem_iff_getElem?.mp ht
        have jl := getq_lt hj
        have q := rl.2.2 j t _ hj (List.getElem?_eq_getElem (show j < lone.length by have := rl.len; omega))
        obtain ⟨_, _, _, _, _, _, b1, _⟩ := id (B13.same s14)
        rw [List.mem_singleton.mp z, b1] at q
        cases q
      have rlb : ∀ t ∈ lt, t ∉ [a, e0, h0, n, e1, h1] := fun t ht => by
        obtain ⟨j, hj⟩ := List.mem_iff_getElem?.mp ht
        have jl := getq_lt hj
        have q := rl.2.2 j t _ hj (List.getElem?_eq_getElem (show j < lone.length by have := rl.len; omega))
        exact tl (c15.at (rla t ht) q)
      have an13 : ∀ {t xs}, H13 t = some (.tup xs) → t ∉ [a] := fun {t xs} q z => by
        obtain ⟨_, _, _, _, _, _, b1, _⟩ := id B13
        rw [List.mem_singleton.mp z, b1] at q
        cases q
      clear B13 P13 R13 X13 Y13 N13
      o_args
      refine rngF (n := 1 + d) (by omega) (by omega) (for_rangeK (lo := 0) (n := (1 + d).toNat) (fun i σ H' => ∃ v, σ = [some (.ref s), some (.ref a), some (.ref n), some (.ref Lh), some (.ref L), u, w, some (.ref Dk), some (.ref Dd'), some (.ref Da), some (.ref ll), v] ∧ Dd T.c_Spans a e0 h0 n [Da, Dd', Dk, L, e1, e0, Lh, h1, h0, n] [Da, Dd', Dk, L, e1, Lh, h1, h0, a, n] [Da, Dd', Dk, L, e1, e0, Lh, h1, a, n] (150 + 4 * i) H' ∧ Dd T.c_Spans a e1 h1 n [Da, Dd', Dk, L, e1, e0, Lh, h1, h0, n] [Da, Dd', Dk, L, e0, Lh, h1, h0, a, n] [Da, Dd', Dk, L, e1, e0, Lh, h0, a, n] (150 + 4 * i) H' ∧ Ch [a, e0, h0, n, e1, h1] H15 H') ⟨none, rfl, D0, D1, Ch.refl⟩ ?_ ?_)
      · rintro i σ H16 hi ⟨v, rfl, E0', E1', c16⟩
        have hL16 := c16.at gL hL15
        have hLh16 := c16.at gLh hLh15
        o_args
        refine ⟨a, e0, h0, n, _, _, _, _, rfl, E0', by omega, fun H17 E0'' c17 => ?_⟩
        have E1'' := E1'.other E0'' c17 (by omega) (by simp) (by simp)
        have c1517 := c16.trans (c17.more (by simp))
        have hL17 := c1517.at gL hL15
        have hLh17 := c1517.at gLh hLh15
        o_args
        refine ⟨a, e1, h1, n, _, _, _, _, rfl, E1'', by omega, fun H18 E18 c18 => ?_⟩
        o_args
        exact ⟨_, rfl, (E0''.other E18 c18 (by omega) (by simp) (by simp)).more (by omega), E18.more (by omega), c1517.trans (c18.more (by simp))⟩
      · rintro σ H16 ⟨v, rfl, E0', E1', c16⟩
        have hL16 := c16.at gL hL15
        have hLh16 := c16.at gLh hLh15
        have ga : ∀ {X : Addr} {F : List Addr}, X ∉ F → (∀ b ∈ [a, e0, h0, n, e1, h1], b ∈ F) → X ∉ [a, e0, h0, n, e1, h1] := fun h g z => h (g _ z)
        have c1316 : Ch [a, e0, h0, n, e1, h1] H13 H16 := (s1314.more (by simp)).trans c16
        have hk16 := c1316.at (ga fk (by simp)) hk13
        have hd16 := c1316.at (ga fd (by simp)) hd13
        have ha16 := c1316.at (ga fa (by simp)) ha
        have r16 : ∀ {x ts due}, RunsL x ts due H13 → x ∉ [a, e0, h0, n, e1, h1] → RunsL x ts due H16 := fun {x ts due} r nx => r.ch c1316 nx fun t ht => by
          obtain ⟨j, hj⟩ := List.mem_iff_getElem?.mp ht
          have jl := getq_lt hj
          have q := r.2.2 j t _ hj (List.getElem?_eq_getElem (show j < due.length by have := r.len; omega))
          exact tl (s1314.at (an13 q) q)
        have kept16 : ∀ (w : Nat) x, xk[w]? = some x → ∃ out, SpA T.c_Spans x [] out H16 ∧ out.length ≤ 400 ∧ ∀ o, Mem o out ↔ jP w (Mem o lone) (Mem o rs7) := fun w x hx => by
          obtain ⟨out, q1, q2⟩ := kept12 w x hx
          exact ⟨out, ((q1.same S1213).ch c1316 (by simp)).less (fun _ z => nomatch z), q2⟩
        have alone16 : ∀ (w : Nat) x, xa[w]? = some x → ∃ out, SpA T.c_Spans x [] out H16 ∧ out.length ≤ 400 ∧ ∀ o, Mem o out ↔ jP w (Mem o lone) (Mem o lone) := fun w x hx => by
          obtain ⟨out, q1, q2⟩ := alone w x hx
          exact ⟨out, (q1.ch c1316 (by simp)).less (fun _ z => nomatch z), q2⟩
        have dues16 : ∀ (w : Nat) x, xd[w]? = some x → ∃ ts due, RunsL x ts due H16 ∧ Nrm due ∧ ∀ o, Mem o due ↔ jF w hs6 hs7 o = true := fun w x hx => by
          obtain ⟨ts, due, q1, q2, q3, q4⟩ := dues w x hx
          exact ⟨ts, due, r16 (q1.same S1213) (ga q2 (by simp)), q3, q4⟩
        o_args
        refine rngF (n := 3) (by decide) (by decide) (for_rangeK (lo := 0) (n := (3 : Int).toNat) (fun i σ H' => ∃ u', σ = [some (.ref s), some (.ref a), some (.ref n), some (.ref Lh), some (.ref L), u', w, some (.ref Dk), some (.ref Dd'), some (.ref Da), some (.ref ll), v] ∧ Same H16 H') ⟨_, rfl, Same.refl _⟩ ?_ ?_)
        · rintro i σ H17 hi ⟨u', rfl, s17⟩
          have i3 : i < 3 := hi
          obtain ⟨x1, ek⟩ : ∃ x, xk[i]? = some x := ⟨_, List.getElem?_eq_getElem (by omega)⟩
          obtain ⟨x2, ed⟩ : ∃ x, xd[i]? = some x := ⟨_, List.getElem?_eq_getElem (by omega)⟩
          obtain ⟨x3, ea⟩ : ∃ x, xa[i]? = some x := ⟨_, List.getElem?_eq_getElem (by omega)⟩
          obtain ⟨o1, Pk, zk, Mk⟩ := kept16 i x1 ek
          obtain ⟨td, dd, rd', nd, Md⟩ := dues16 i x2 ed
          obtain ⟨o3, Pa, za, Ma⟩ := alone16 i x3 ea
          have e1' : dd = o1 := nd.uniq Pk.offs.nrm fun o => by rw [Md o, jF, jPB, Mk o, M6 o, M7 o]
          subst e1'
          have at3 : ∀ {xs : List Addr} {x : Addr}, xs[i]? = some x → (xs.map V.ref)[i]? = some (.ref x) := fun h => by rw [List.getElem?_map, h]; rfl
          o_args
          refine ⟨Dk, xk.map V.ref, 0 + (i : Int), .ref x1, rfl, rfl, SqL.of (s17 _ _ hk16), by rw [Int.zero_add]; exact atI_nat (at3 ek), ?_⟩
          o_args
          refine ⟨Dd', xd.map V.ref, 0 + (i : Int), .ref x2, rfl, rfl, SqL.of (s17 _ _ hd16), by rw [Int.zero_add]; exact atI_nat (at3 ed), ?_⟩
          o_args
          refine ⟨x1, x2, td, dd, rfl, Pk.same s17, rd'.same s17, by omega, fun H18 s18 => ?_⟩
          have s1618 := s17.trans s18
          o_args
          refine ⟨Da, xa.map V.ref, 0 + (i : Int), .ref x3, rfl, rfl, SqL.of (s1618 _ _ ha16), by rw [Int.zero_add]; exact atI_nat (at3 ea), ?_⟩
          o_args
          refine newList (by simp) fun m' H19 nm' s19 h19 => ?_
          o_args
          refine newList (by simp) fun W H20 nW s20 h20 => ?_
          have s1620 := (s1618.trans s19).trans s20
          have rl16 := (rl.ch ((s1314' : Ch [a] H14 H15)) (fun z => fl (by rw [List.mem_singleton.mp z]; simp)) rla).ch c16 (ga fl (by simp)) rlb
          have rl20 := rl16.same s1620
          have Pa20 := Pa.same s1620
          have : i = 0 ∨ i = 1 ∨ i = 2 := by omega
          rcases this with rfl | rfl | rfl
          · have e3 : o3 = lone := Pa.offs.nrm.uniq Nl fun o => by rw [Ma o]; simp [jP]
            subst e3
            o_args
            refine ⟨x3, ll, lt, o3, rfl, Pa20, rl20, by omega, fun H21 s21 => ?_⟩
            o_args
            exact ⟨_, rfl, s1620.trans s21⟩
          · have e3 : o3 = lone := Pa.offs.nrm.uniq Nl fun o => by rw [Ma o]; simp [jP]
            subst e3
            o_args
            refine ⟨x3, ll, lt, o3, rfl, Pa20, rl20, by omega, fun H21 s21 => ?_⟩
            o_args
            exact ⟨_, rfl, s1620.trans s21⟩
          · have e3 : o3 = [] := Pa.offs.nrm.uniq Nrm.nil fun o => by rw [Ma o]; simp [jP, Mem.nil]
            subst e3
            o_args
            refine ⟨x3, m', [], [], rfl, Pa20, ⟨s20 _ _ h19, Tups.nil⟩, by simp, fun H21 s21 => ?_⟩
            o_args
            exact ⟨_, rfl, s1620.trans s21⟩
        · rintro σ H17 ⟨u', rfl, s17⟩
          obtain ⟨_, q0, p0, _, _, Q0, A0', N0', ⟨_, y1, y2⟩, _⟩ := E0'
          obtain ⟨_, q1, p1, _, _, Q1, A1', N1', ⟨_, y3, y4⟩, _⟩ := E1'
          have hL17 := s17 _ _ hL16
          have hLh17 := s17 _ _ hLh16
          o_args
          refine ⟨L, Lh, e0, e1, h0, h1, q0, q1, p0, p1, rfl, hL17, hLh17, (Q0.same s17).less (fun _ z => nomatch z), (Q1.same s17).less (fun _ z => nomatch z), (A0'.same s17).less (fun _ z => nomatch z), (A1'.same s17).less (fun _ z => nomatch z), N0', N1', ⟨by omega, by omega, by omega, by omega⟩, fun H18 s18 => ?_⟩
          exact k H18
end
set_option maxHeartbeats 0 in
theorem all_mk {l : PySem.W.OpenLaw} {w : World} {K : PySem.W.Frag} {h : Heap} {mg : Str → Option Value} {fa : Addr} (X : K.In h) (G : h.Ns mainGlobals mg) (hfa : mg "law" = some (.ref fa))
    {c_Spans c_LossError c_InvalidNumber a_InvalidNumber_init_ a_is_integer a_is_at_least a_is_sequence a_is_run a_joined a_missing a_common a_without a_Spans_init_ a_Spans_or_ a_Spans_and_ a_Spans_sub_ a_Spans_contains_ a_Spans_eq_ a_Spans_len_ a_Spans_rows a_Spans_total a_Spans_put a_Spans_drop a_Spans_holding a__law_box a__law_draw a__law_end a__law_pair a__law_has a__law_due a__law_is_whole a__law_pairs_are a__law_deed a__law_filled a__law_joined_has a__law_joined_due a__law_joined a__law_is_set a__law_joins a__law_rebuilt a__law_equals a_law : Addr}
    {od_InvalidNumber_init_ an_InvalidNumber_init_ od_is_integer an_is_integer od_is_at_least an_is_at_least od_is_sequence an_is_sequence od_is_run an_is_run od_joined an_joined od_missing an_missing od_common an_common od_without an_without od_Spans_init_ an_Spans_init_ od_Spans_or_ an_Spans_or_ od_Spans_and_ an_Spans_and_ od_Spans_sub_ an_Spans_sub_ od_Spans_contains_ an_Spans_contains_ od_Spans_eq_ an_Spans_eq_ od_Spans_len_ an_Spans_len_ od_Spans_rows an_Spans_rows od_Spans_total an_Spans_total od_Spans_put an_Spans_put od_Spans_drop an_Spans_drop od_Spans_holding an_Spans_holding od__law_box an__law_box od__law_draw an__law_draw od__law_end an__law_end od__law_pair an__law_pair od__law_has an__law_has od__law_due an__law_due od__law_is_whole an__law_is_whole od__law_pairs_are an__law_pairs_are od__law_deed an__law_deed od__law_filled an__law_filled od__law_joined_has an__law_joined_has od__law_joined_due an__law_joined_due od__law_joined an__law_joined od__law_is_set an__law_is_set od__law_joins an__law_joins od__law_rebuilt an__law_rebuilt od__law_equals an__law_equals od_law an_law : Option Addr} {sl_InvalidNumber_init_ sl_is_integer sl_is_at_least sl_is_sequence sl_is_run sl_joined sl_missing sl_common sl_without sl_Spans_init_ sl_Spans_or_ sl_Spans_and_ sl_Spans_sub_ sl_Spans_contains_ sl_Spans_eq_ sl_Spans_len_ sl_Spans_rows sl_Spans_total sl_Spans_put sl_Spans_drop sl_Spans_holding sl__law_box sl__law_draw sl__law_end sl__law_pair sl__law_has sl__law_due sl__law_is_whole sl__law_pairs_are sl__law_deed sl__law_filled sl__law_joined_has sl__law_joined_due sl__law_joined sl__law_is_set sl__law_joins sl__law_rebuilt sl__law_equals sl_law : Array (Option Value)}
    {oc_InvalidNumber_init_ kV_InvalidNumber_init_ dc_InvalidNumber_init_ pm_InvalidNumber_init_ cd_InvalidNumber_init_ ct_InvalidNumber_init_ oc_is_integer kV_is_integer dc_is_integer pm_is_integer cd_is_integer ct_is_integer oc_is_at_least kV_is_at_least dc_is_at_least pm_is_at_least cd_is_at_least ct_is_at_least oc_is_sequence kV_is_sequence dc_is_sequence pm_is_sequence cd_is_sequence ct_is_sequence oc_is_run kV_is_run dc_is_run pm_is_run cd_is_run ct_is_run oc_joined kV_joined dc_joined pm_joined cd_joined ct_joined oc_missing kV_missing dc_missing pm_missing cd_missing ct_missing oc_common kV_common dc_common pm_common cd_common ct_common oc_without kV_without dc_without pm_without cd_without ct_without oc_Spans_init_ kV_Spans_init_ dc_Spans_init_ pm_Spans_init_ cd_Spans_init_ ct_Spans_init_ oc_Spans_or_ kV_Spans_or_ dc_Spans_or_ pm_Spans_or_ cd_Spans_or_ ct_Spans_or_ oc_Spans_and_ kV_Spans_and_ dc_Spans_and_ pm_Spans_and_ cd_Spans_and_ ct_Spans_and_ oc_Spans_sub_ kV_Spans_sub_ dc_Spans_sub_ pm_Spans_sub_ cd_Spans_sub_ ct_Spans_sub_ oc_Spans_contains_ kV_Spans_contains_ dc_Spans_contains_ pm_Spans_contains_ cd_Spans_contains_ ct_Spans_contains_ oc_Spans_eq_ kV_Spans_eq_ dc_Spans_eq_ pm_Spans_eq_ cd_Spans_eq_ ct_Spans_eq_ oc_Spans_len_ kV_Spans_len_ dc_Spans_len_ pm_Spans_len_ cd_Spans_len_ ct_Spans_len_ oc_Spans_rows kV_Spans_rows dc_Spans_rows pm_Spans_rows cd_Spans_rows ct_Spans_rows oc_Spans_total kV_Spans_total dc_Spans_total pm_Spans_total cd_Spans_total ct_Spans_total oc_Spans_put kV_Spans_put dc_Spans_put pm_Spans_put cd_Spans_put ct_Spans_put oc_Spans_drop kV_Spans_drop dc_Spans_drop pm_Spans_drop cd_Spans_drop ct_Spans_drop oc_Spans_holding kV_Spans_holding dc_Spans_holding pm_Spans_holding cd_Spans_holding ct_Spans_holding oc__law_box kV__law_box dc__law_box pm__law_box cd__law_box ct__law_box oc__law_draw kV__law_draw dc__law_draw pm__law_draw cd__law_draw ct__law_draw oc__law_end kV__law_end dc__law_end pm__law_end cd__law_end ct__law_end oc__law_pair kV__law_pair dc__law_pair pm__law_pair cd__law_pair ct__law_pair oc__law_has kV__law_has dc__law_has pm__law_has cd__law_has ct__law_has oc__law_due kV__law_due dc__law_due pm__law_due cd__law_due ct__law_due oc__law_is_whole kV__law_is_whole dc__law_is_whole pm__law_is_whole cd__law_is_whole ct__law_is_whole oc__law_pairs_are kV__law_pairs_are dc__law_pairs_are pm__law_pairs_are cd__law_pairs_are ct__law_pairs_are oc__law_deed kV__law_deed dc__law_deed pm__law_deed cd__law_deed ct__law_deed oc__law_filled kV__law_filled dc__law_filled pm__law_filled cd__law_filled ct__law_filled oc__law_joined_has kV__law_joined_has dc__law_joined_has pm__law_joined_has cd__law_joined_has ct__law_joined_has oc__law_joined_due kV__law_joined_due dc__law_joined_due pm__law_joined_due cd__law_joined_due ct__law_joined_due oc__law_joined kV__law_joined dc__law_joined pm__law_joined cd__law_joined ct__law_joined oc__law_is_set kV__law_is_set dc__law_is_set pm__law_is_set cd__law_is_set ct__law_is_set oc__law_joins kV__law_joins dc__law_joins pm__law_joins cd__law_joins ct__law_joins oc__law_rebuilt kV__law_rebuilt dc__law_rebuilt pm__law_rebuilt cd__law_rebuilt ct__law_rebuilt oc__law_equals kV__law_equals dc__law_equals pm__law_equals cd__law_equals ct__law_equals oc_law kV_law dc_law pm_law cd_law ct_law : Value}
    {xn_InvalidNumber xq_InvalidNumber : Str} {xN_InvalidNumber : Addr} {xb_InvalidNumber xm_InvalidNumber : List Value} {xs_InvalidNumber : List Str} {xu_InvalidNumber : List Value} {xa_InvalidNumber : Bool} {xo_InvalidNumber : _} {xd_InvalidNumber : Option Addr} {x0_InvalidNumber x1_InvalidNumber x2_InvalidNumber x3_InvalidNumber x5_InvalidNumber : Option Value}
    (aC_Spans : PySem.W.nsIn K mainGlobals "Spans" = some (some (.ref c_Spans)))
    (pg_Spans : PySem.W.plainGet K c_Spans Str.empty = true)
    (hd_Spans : PySem.W.hasDictIn K c_Spans = true)
    (po_Spans : PySem.W.plainOver K c_Spans = true)
    (sa_Spans : PySem.W.findIn K (.ref c_Spans) "__setattr__" = some (some (.builtin "object.__setattr__")))
    (mk_Spans : PySem.W.makesIn K c_Spans = true)
    (kc_Spans : PySem.W.keepIn K (.ref c_Spans) = true)
    (n_Spans__runs : PySem.W.findIn K (.ref c_Spans) "_runs" = some none)
    (aC_LossError : PySem.W.nsIn K mainGlobals "LossError" = some (some (.ref c_LossError)))
    (aC_InvalidNumber : PySem.W.nsIn K mainGlobals "InvalidNumber" = some (some (.ref c_InvalidNumber)))
    (xl_InvalidNumber : K.lookup c_InvalidNumber = some (excClassObj xn_InvalidNumber xq_InvalidNumber c_InvalidNumber xN_InvalidNumber xb_InvalidNumber xm_InvalidNumber true xs_InvalidNumber xu_InvalidNumber xa_InvalidNumber xo_InvalidNumber xd_InvalidNumber x0_InvalidNumber x1_InvalidNumber x2_InvalidNumber x3_InvalidNumber x5_InvalidNumber "ValueError.__new__"))
    (sa_InvalidNumber : PySem.W.findIn K (.ref c_InvalidNumber) "__setattr__" = some (some (.builtin "object.__setattr__")))
    (xx_InvalidNumber : PySem.W.subIn K (.ref c_InvalidNumber) (.type "BaseException") = some true)
    (xt_InvalidNumber : PySem.W.typeIn K (.ref c_InvalidNumber) = some (.type "type"))
    (xk_InvalidNumber : PySem.W.keepIn K (.ref c_InvalidNumber) = true)
    (xi_InvalidNumber : PySem.W.findIn K (.ref c_InvalidNumber) "__init__" = some (some (.ref a_InvalidNumber_init_)))
    (xg_InvalidNumber : PySem.W.findIn K (.ref c_InvalidNumber) "__getattribute__" = some (some (.builtin "BaseException.__getattribute__")))
    (xh_InvalidNumber : PySem.W.findIn K (.ref c_InvalidNumber) "__getattr__" = some none)
    (xy_InvalidNumber : PySem.W.hasDictIn K c_InvalidNumber = true)
    (xc_InvalidNumber : PySem.W.findIn K (.ref c_InvalidNumber) "__class__" = some (some (.builtin "object.__class__")))
    (xr_InvalidNumber : PySem.W.mroIn K c_InvalidNumber (.type "object") = some true)
    (nX_InvalidNumber : PySem.W.findIn K (.ref c_InvalidNumber) "number" = some none)
    (x_get : PySem.W.specialIn K (.builtin "object.__class__") "__get__" = some (some (.builtin "getset_descriptor.__get__")))
    (x_tk : PySem.W.takesIn K (.builtin "object.__class__") = some true)
    (Me_InvalidNumber_InvalidNumber : PySem.W.exmOne K (.ref c_InvalidNumber) (.ref c_InvalidNumber) = some true)
    (Kt_InvalidNumber_InvalidNumber : PySem.W.kitOne K (.ref c_InvalidNumber) (.ref c_InvalidNumber) = some true)
    (Kt_InvalidNumber_LossError : PySem.W.kitOne K (.ref c_InvalidNumber) (.ref c_LossError) = some true)
    (xf_InvalidNumber_init_ : PySem.W.typeIn K (.ref a_InvalidNumber_init_) = some (.type "function"))
    (l_InvalidNumber_init_ : K.lookup a_InvalidNumber_init_ = some ⟨oc_InvalidNumber_init_, od_InvalidNumber_init_, .func (PySem.W.fnOf "__init__" "InvalidNumber.__init__" (defArgs s_InvalidNumber_init_) (defBody s_InvalidNumber_init_) (defScope s_InvalidNumber_init_) .none kV_InvalidNumber_init_ dc_InvalidNumber_init_ pm_InvalidNumber_init_ an_InvalidNumber_init_ cd_InvalidNumber_init_ ct_InvalidNumber_init_), sl_InvalidNumber_init_⟩)
    (e_InvalidNumber_init_ : PySem.W.codeIn K cd_InvalidNumber_init_ "InvalidNumber.__init__" = true)
    (k_InvalidNumber_init_ : PySem.W.keepIn K (.ref a_InvalidNumber_init_) = true)
    (a_is_integer' : PySem.W.nsIn K mainGlobals "is_integer" = some (some (.ref a_is_integer)))
    (l_is_integer : K.lookup a_is_integer = some ⟨oc_is_integer, od_is_integer, .func (PySem.W.fnOf "is_integer" "is_integer" (defArgs s_is_integer) (defBody s_is_integer) (defScope s_is_integer) .none kV_is_integer dc_is_integer pm_is_integer an_is_integer cd_is_integer ct_is_integer), sl_is_integer⟩)
    (e_is_integer : PySem.W.codeIn K cd_is_integer "is_integer" = true)
    (k_is_integer : PySem.W.keepIn K (.ref a_is_integer) = true)
    (a_is_at_least' : PySem.W.nsIn K mainGlobals "is_at_least" = some (some (.ref a_is_at_least)))
    (l_is_at_least : K.lookup a_is_at_least = some ⟨oc_is_at_least, od_is_at_least, .func (PySem.W.fnOf "is_at_least" "is_at_least" (defArgs s_is_at_least) (defBody s_is_at_least) (defScope s_is_at_least) .none kV_is_at_least dc_is_at_least pm_is_at_least an_is_at_least cd_is_at_least ct_is_at_least), sl_is_at_least⟩)
    (e_is_at_least : PySem.W.codeIn K cd_is_at_least "is_at_least" = true)
    (k_is_at_least : PySem.W.keepIn K (.ref a_is_at_least) = true)
    (a_is_sequence' : PySem.W.nsIn K mainGlobals "is_sequence" = some (some (.ref a_is_sequence)))
    (l_is_sequence : K.lookup a_is_sequence = some ⟨oc_is_sequence, od_is_sequence, .func (PySem.W.fnOf "is_sequence" "is_sequence" (defArgs s_is_sequence) (defBody s_is_sequence) (defScope s_is_sequence) .none kV_is_sequence dc_is_sequence pm_is_sequence an_is_sequence cd_is_sequence ct_is_sequence), sl_is_sequence⟩)
    (e_is_sequence : PySem.W.codeIn K cd_is_sequence "is_sequence" = true)
    (k_is_sequence : PySem.W.keepIn K (.ref a_is_sequence) = true)
    (a_is_run' : PySem.W.nsIn K mainGlobals "is_run" = some (some (.ref a_is_run)))
    (l_is_run : K.lookup a_is_run = some ⟨oc_is_run, od_is_run, .func (PySem.W.fnOf "is_run" "is_run" (defArgs s_is_run) (defBody s_is_run) (defScope s_is_run) .none kV_is_run dc_is_run pm_is_run an_is_run cd_is_run ct_is_run), sl_is_run⟩)
    (e_is_run : PySem.W.codeIn K cd_is_run "is_run" = true)
    (k_is_run : PySem.W.keepIn K (.ref a_is_run) = true)
    (a_joined' : PySem.W.nsIn K mainGlobals "joined" = some (some (.ref a_joined)))
    (l_joined : K.lookup a_joined = some ⟨oc_joined, od_joined, .func (PySem.W.fnOf "joined" "joined" (defArgs s_joined) (defBody s_joined) (defScope s_joined) .none kV_joined dc_joined pm_joined an_joined cd_joined ct_joined), sl_joined⟩)
    (e_joined : PySem.W.codeIn K cd_joined "joined" = true)
    (k_joined : PySem.W.keepIn K (.ref a_joined) = true)
    (a_missing' : PySem.W.nsIn K mainGlobals "missing" = some (some (.ref a_missing)))
    (l_missing : K.lookup a_missing = some ⟨oc_missing, od_missing, .func (PySem.W.fnOf "missing" "missing" (defArgs s_missing) (defBody s_missing) (defScope s_missing) .none kV_missing dc_missing pm_missing an_missing cd_missing ct_missing), sl_missing⟩)
    (e_missing : PySem.W.codeIn K cd_missing "missing" = true)
    (k_missing : PySem.W.keepIn K (.ref a_missing) = true)
    (a_common' : PySem.W.nsIn K mainGlobals "common" = some (some (.ref a_common)))
    (l_common : K.lookup a_common = some ⟨oc_common, od_common, .func (PySem.W.fnOf "common" "common" (defArgs s_common) (defBody s_common) (defScope s_common) .none kV_common dc_common pm_common an_common cd_common ct_common), sl_common⟩)
    (e_common : PySem.W.codeIn K cd_common "common" = true)
    (k_common : PySem.W.keepIn K (.ref a_common) = true)
    (a_without' : PySem.W.nsIn K mainGlobals "without" = some (some (.ref a_without)))
    (l_without : K.lookup a_without = some ⟨oc_without, od_without, .func (PySem.W.fnOf "without" "without" (defArgs s_without) (defBody s_without) (defScope s_without) .none kV_without dc_without pm_without an_without cd_without ct_without), sl_without⟩)
    (e_without : PySem.W.codeIn K cd_without "without" = true)
    (k_without : PySem.W.keepIn K (.ref a_without) = true)
    (a_Spans_init_' : PySem.W.findIn K (.ref c_Spans) "__init__" = some (some (.ref a_Spans_init_)))
    (i_Spans_init_ : PySem.W.isFn K (.ref a_Spans_init_) = true)
    (l_Spans_init_ : K.lookup a_Spans_init_ = some ⟨oc_Spans_init_, od_Spans_init_, .func (PySem.W.fnOf "__init__" "Spans.__init__" (defArgs s_Spans_init_) (defBody s_Spans_init_) (defScope s_Spans_init_) .none kV_Spans_init_ dc_Spans_init_ pm_Spans_init_ an_Spans_init_ cd_Spans_init_ ct_Spans_init_), sl_Spans_init_⟩)
    (e_Spans_init_ : PySem.W.codeIn K cd_Spans_init_ "Spans.__init__" = true)
    (k_Spans_init_ : PySem.W.keepIn K (.ref a_Spans_init_) = true)
    (a_Spans_or_' : PySem.W.findIn K (.ref c_Spans) "__or__" = some (some (.ref a_Spans_or_)))
    (i_Spans_or_ : PySem.W.isFn K (.ref a_Spans_or_) = true)
    (l_Spans_or_ : K.lookup a_Spans_or_ = some ⟨oc_Spans_or_, od_Spans_or_, .func (PySem.W.fnOf "__or__" "Spans.__or__" (defArgs s_Spans_or_) (defBody s_Spans_or_) (defScope s_Spans_or_) .none kV_Spans_or_ dc_Spans_or_ pm_Spans_or_ an_Spans_or_ cd_Spans_or_ ct_Spans_or_), sl_Spans_or_⟩)
    (e_Spans_or_ : PySem.W.codeIn K cd_Spans_or_ "Spans.__or__" = true)
    (k_Spans_or_ : PySem.W.keepIn K (.ref a_Spans_or_) = true)
    (a_Spans_and_' : PySem.W.findIn K (.ref c_Spans) "__and__" = some (some (.ref a_Spans_and_)))
    (i_Spans_and_ : PySem.W.isFn K (.ref a_Spans_and_) = true)
    (l_Spans_and_ : K.lookup a_Spans_and_ = some ⟨oc_Spans_and_, od_Spans_and_, .func (PySem.W.fnOf "__and__" "Spans.__and__" (defArgs s_Spans_and_) (defBody s_Spans_and_) (defScope s_Spans_and_) .none kV_Spans_and_ dc_Spans_and_ pm_Spans_and_ an_Spans_and_ cd_Spans_and_ ct_Spans_and_), sl_Spans_and_⟩)
    (e_Spans_and_ : PySem.W.codeIn K cd_Spans_and_ "Spans.__and__" = true)
    (k_Spans_and_ : PySem.W.keepIn K (.ref a_Spans_and_) = true)
    (a_Spans_sub_' : PySem.W.findIn K (.ref c_Spans) "__sub__" = some (some (.ref a_Spans_sub_)))
    (i_Spans_sub_ : PySem.W.isFn K (.ref a_Spans_sub_) = true)
    (l_Spans_sub_ : K.lookup a_Spans_sub_ = some ⟨oc_Spans_sub_, od_Spans_sub_, .func (PySem.W.fnOf "__sub__" "Spans.__sub__" (defArgs s_Spans_sub_) (defBody s_Spans_sub_) (defScope s_Spans_sub_) .none kV_Spans_sub_ dc_Spans_sub_ pm_Spans_sub_ an_Spans_sub_ cd_Spans_sub_ ct_Spans_sub_), sl_Spans_sub_⟩)
    (e_Spans_sub_ : PySem.W.codeIn K cd_Spans_sub_ "Spans.__sub__" = true)
    (k_Spans_sub_ : PySem.W.keepIn K (.ref a_Spans_sub_) = true)
    (a_Spans_contains_' : PySem.W.findIn K (.ref c_Spans) "__contains__" = some (some (.ref a_Spans_contains_)))
    (i_Spans_contains_ : PySem.W.isFn K (.ref a_Spans_contains_) = true)
    (l_Spans_contains_ : K.lookup a_Spans_contains_ = some ⟨oc_Spans_contains_, od_Spans_contains_, .func (PySem.W.fnOf "__contains__" "Spans.__contains__" (defArgs s_Spans_contains_) (defBody s_Spans_contains_) (defScope s_Spans_contains_) .none kV_Spans_contains_ dc_Spans_contains_ pm_Spans_contains_ an_Spans_contains_ cd_Spans_contains_ ct_Spans_contains_), sl_Spans_contains_⟩)
    (e_Spans_contains_ : PySem.W.codeIn K cd_Spans_contains_ "Spans.__contains__" = true)
    (k_Spans_contains_ : PySem.W.keepIn K (.ref a_Spans_contains_) = true)
    (a_Spans_eq_' : PySem.W.findIn K (.ref c_Spans) "__eq__" = some (some (.ref a_Spans_eq_)))
    (i_Spans_eq_ : PySem.W.isFn K (.ref a_Spans_eq_) = true)
    (l_Spans_eq_ : K.lookup a_Spans_eq_ = some ⟨oc_Spans_eq_, od_Spans_eq_, .func (PySem.W.fnOf "__eq__" "Spans.__eq__" (defArgs s_Spans_eq_) (defBody s_Spans_eq_) (defScope s_Spans_eq_) .none kV_Spans_eq_ dc_Spans_eq_ pm_Spans_eq_ an_Spans_eq_ cd_Spans_eq_ ct_Spans_eq_), sl_Spans_eq_⟩)
    (e_Spans_eq_ : PySem.W.codeIn K cd_Spans_eq_ "Spans.__eq__" = true)
    (k_Spans_eq_ : PySem.W.keepIn K (.ref a_Spans_eq_) = true)
    (a_Spans_len_' : PySem.W.findIn K (.ref c_Spans) "__len__" = some (some (.ref a_Spans_len_)))
    (i_Spans_len_ : PySem.W.isFn K (.ref a_Spans_len_) = true)
    (l_Spans_len_ : K.lookup a_Spans_len_ = some ⟨oc_Spans_len_, od_Spans_len_, .func (PySem.W.fnOf "__len__" "Spans.__len__" (defArgs s_Spans_len_) (defBody s_Spans_len_) (defScope s_Spans_len_) .none kV_Spans_len_ dc_Spans_len_ pm_Spans_len_ an_Spans_len_ cd_Spans_len_ ct_Spans_len_), sl_Spans_len_⟩)
    (e_Spans_len_ : PySem.W.codeIn K cd_Spans_len_ "Spans.__len__" = true)
    (k_Spans_len_ : PySem.W.keepIn K (.ref a_Spans_len_) = true)
    (a_Spans_rows' : PySem.W.findIn K (.ref c_Spans) "rows" = some (some (.ref a_Spans_rows)))
    (i_Spans_rows : PySem.W.isFn K (.ref a_Spans_rows) = true)
    (l_Spans_rows : K.lookup a_Spans_rows = some ⟨oc_Spans_rows, od_Spans_rows, .func (PySem.W.fnOf "rows" "Spans.rows" (defArgs s_Spans_rows) (defBody s_Spans_rows) (defScope s_Spans_rows) .none kV_Spans_rows dc_Spans_rows pm_Spans_rows an_Spans_rows cd_Spans_rows ct_Spans_rows), sl_Spans_rows⟩)
    (e_Spans_rows : PySem.W.codeIn K cd_Spans_rows "Spans.rows" = true)
    (k_Spans_rows : PySem.W.keepIn K (.ref a_Spans_rows) = true)
    (a_Spans_total' : PySem.W.findIn K (.ref c_Spans) "total" = some (some (.ref a_Spans_total)))
    (i_Spans_total : PySem.W.isFn K (.ref a_Spans_total) = true)
    (l_Spans_total : K.lookup a_Spans_total = some ⟨oc_Spans_total, od_Spans_total, .func (PySem.W.fnOf "total" "Spans.total" (defArgs s_Spans_total) (defBody s_Spans_total) (defScope s_Spans_total) .none kV_Spans_total dc_Spans_total pm_Spans_total an_Spans_total cd_Spans_total ct_Spans_total), sl_Spans_total⟩)
    (e_Spans_total : PySem.W.codeIn K cd_Spans_total "Spans.total" = true)
    (k_Spans_total : PySem.W.keepIn K (.ref a_Spans_total) = true)
    (a_Spans_put' : PySem.W.findIn K (.ref c_Spans) "put" = some (some (.ref a_Spans_put)))
    (i_Spans_put : PySem.W.isFn K (.ref a_Spans_put) = true)
    (l_Spans_put : K.lookup a_Spans_put = some ⟨oc_Spans_put, od_Spans_put, .func (PySem.W.fnOf "put" "Spans.put" (defArgs s_Spans_put) (defBody s_Spans_put) (defScope s_Spans_put) .none kV_Spans_put dc_Spans_put pm_Spans_put an_Spans_put cd_Spans_put ct_Spans_put), sl_Spans_put⟩)
    (e_Spans_put : PySem.W.codeIn K cd_Spans_put "Spans.put" = true)
    (k_Spans_put : PySem.W.keepIn K (.ref a_Spans_put) = true)
    (a_Spans_drop' : PySem.W.findIn K (.ref c_Spans) "drop" = some (some (.ref a_Spans_drop)))
    (i_Spans_drop : PySem.W.isFn K (.ref a_Spans_drop) = true)
    (l_Spans_drop : K.lookup a_Spans_drop = some ⟨oc_Spans_drop, od_Spans_drop, .func (PySem.W.fnOf "drop" "Spans.drop" (defArgs s_Spans_drop) (defBody s_Spans_drop) (defScope s_Spans_drop) .none kV_Spans_drop dc_Spans_drop pm_Spans_drop an_Spans_drop cd_Spans_drop ct_Spans_drop), sl_Spans_drop⟩)
    (e_Spans_drop : PySem.W.codeIn K cd_Spans_drop "Spans.drop" = true)
    (k_Spans_drop : PySem.W.keepIn K (.ref a_Spans_drop) = true)
    (a_Spans_holding' : PySem.W.findIn K (.ref c_Spans) "holding" = some (some (.ref a_Spans_holding)))
    (i_Spans_holding : PySem.W.isFn K (.ref a_Spans_holding) = true)
    (l_Spans_holding : K.lookup a_Spans_holding = some ⟨oc_Spans_holding, od_Spans_holding, .func (PySem.W.fnOf "holding" "Spans.holding" (defArgs s_Spans_holding) (defBody s_Spans_holding) (defScope s_Spans_holding) .none kV_Spans_holding dc_Spans_holding pm_Spans_holding an_Spans_holding cd_Spans_holding ct_Spans_holding), sl_Spans_holding⟩)
    (e_Spans_holding : PySem.W.codeIn K cd_Spans_holding "Spans.holding" = true)
    (k_Spans_holding : PySem.W.keepIn K (.ref a_Spans_holding) = true)
    (a__law_box' : PySem.W.nsIn K mainGlobals "_law_box" = some (some (.ref a__law_box)))
    (l__law_box : K.lookup a__law_box = some ⟨oc__law_box, od__law_box, .func (PySem.W.fnOf "_law_box" "_law_box" (defArgs s__law_box) (defBody s__law_box) (defScope s__law_box) .none kV__law_box dc__law_box pm__law_box an__law_box cd__law_box ct__law_box), sl__law_box⟩)
    (e__law_box : PySem.W.codeIn K cd__law_box "_law_box" = true)
    (k__law_box : PySem.W.keepIn K (.ref a__law_box) = true)
    (a__law_draw' : PySem.W.nsIn K mainGlobals "_law_draw" = some (some (.ref a__law_draw)))
    (l__law_draw : K.lookup a__law_draw = some ⟨oc__law_draw, od__law_draw, .func (PySem.W.fnOf "_law_draw" "_law_draw" (defArgs s__law_draw) (defBody s__law_draw) (defScope s__law_draw) .none kV__law_draw dc__law_draw pm__law_draw an__law_draw cd__law_draw ct__law_draw), sl__law_draw⟩)
    (e__law_draw : PySem.W.codeIn K cd__law_draw "_law_draw" = true)
    (k__law_draw : PySem.W.keepIn K (.ref a__law_draw) = true)
    (a__law_end' : PySem.W.nsIn K mainGlobals "_law_end" = some (some (.ref a__law_end)))
    (l__law_end : K.lookup a__law_end = some ⟨oc__law_end, od__law_end, .func (PySem.W.fnOf "_law_end" "_law_end" (defArgs s__law_end) (defBody s__law_end) (defScope s__law_end) .none kV__law_end dc__law_end pm__law_end an__law_end cd__law_end ct__law_end), sl__law_end⟩)
    (e__law_end : PySem.W.codeIn K cd__law_end "_law_end" = true)
    (k__law_end : PySem.W.keepIn K (.ref a__law_end) = true)
    (a__law_pair' : PySem.W.nsIn K mainGlobals "_law_pair" = some (some (.ref a__law_pair)))
    (l__law_pair : K.lookup a__law_pair = some ⟨oc__law_pair, od__law_pair, .func (PySem.W.fnOf "_law_pair" "_law_pair" (defArgs s__law_pair) (defBody s__law_pair) (defScope s__law_pair) .none kV__law_pair dc__law_pair pm__law_pair an__law_pair cd__law_pair ct__law_pair), sl__law_pair⟩)
    (e__law_pair : PySem.W.codeIn K cd__law_pair "_law_pair" = true)
    (k__law_pair : PySem.W.keepIn K (.ref a__law_pair) = true)
    (a__law_has' : PySem.W.nsIn K mainGlobals "_law_has" = some (some (.ref a__law_has)))
    (l__law_has : K.lookup a__law_has = some ⟨oc__law_has, od__law_has, .func (PySem.W.fnOf "_law_has" "_law_has" (defArgs s__law_has) (defBody s__law_has) (defScope s__law_has) .none kV__law_has dc__law_has pm__law_has an__law_has cd__law_has ct__law_has), sl__law_has⟩)
    (e__law_has : PySem.W.codeIn K cd__law_has "_law_has" = true)
    (k__law_has : PySem.W.keepIn K (.ref a__law_has) = true)
    (a__law_due' : PySem.W.nsIn K mainGlobals "_law_due" = some (some (.ref a__law_due)))
    (l__law_due : K.lookup a__law_due = some ⟨oc__law_due, od__law_due, .func (PySem.W.fnOf "_law_due" "_law_due" (defArgs s__law_due) (defBody s__law_due) (defScope s__law_due) .none kV__law_due dc__law_due pm__law_due an__law_due cd__law_due ct__law_due), sl__law_due⟩)
    (e__law_due : PySem.W.codeIn K cd__law_due "_law_due" = true)
    (k__law_due : PySem.W.keepIn K (.ref a__law_due) = true)
    (a__law_is_whole' : PySem.W.nsIn K mainGlobals "_law_is_whole" = some (some (.ref a__law_is_whole)))
    (l__law_is_whole : K.lookup a__law_is_whole = some ⟨oc__law_is_whole, od__law_is_whole, .func (PySem.W.fnOf "_law_is_whole" "_law_is_whole" (defArgs s__law_is_whole) (defBody s__law_is_whole) (defScope s__law_is_whole) .none kV__law_is_whole dc__law_is_whole pm__law_is_whole an__law_is_whole cd__law_is_whole ct__law_is_whole), sl__law_is_whole⟩)
    (e__law_is_whole : PySem.W.codeIn K cd__law_is_whole "_law_is_whole" = true)
    (k__law_is_whole : PySem.W.keepIn K (.ref a__law_is_whole) = true)
    (a__law_pairs_are' : PySem.W.nsIn K mainGlobals "_law_pairs_are" = some (some (.ref a__law_pairs_are)))
    (l__law_pairs_are : K.lookup a__law_pairs_are = some ⟨oc__law_pairs_are, od__law_pairs_are, .func (PySem.W.fnOf "_law_pairs_are" "_law_pairs_are" (defArgs s__law_pairs_are) (defBody s__law_pairs_are) (defScope s__law_pairs_are) .none kV__law_pairs_are dc__law_pairs_are pm__law_pairs_are an__law_pairs_are cd__law_pairs_are ct__law_pairs_are), sl__law_pairs_are⟩)
    (e__law_pairs_are : PySem.W.codeIn K cd__law_pairs_are "_law_pairs_are" = true)
    (k__law_pairs_are : PySem.W.keepIn K (.ref a__law_pairs_are) = true)
    (a__law_deed' : PySem.W.nsIn K mainGlobals "_law_deed" = some (some (.ref a__law_deed)))
    (l__law_deed : K.lookup a__law_deed = some ⟨oc__law_deed, od__law_deed, .func (PySem.W.fnOf "_law_deed" "_law_deed" (defArgs s__law_deed) (defBody s__law_deed) (defScope s__law_deed) .none kV__law_deed dc__law_deed pm__law_deed an__law_deed cd__law_deed ct__law_deed), sl__law_deed⟩)
    (e__law_deed : PySem.W.codeIn K cd__law_deed "_law_deed" = true)
    (k__law_deed : PySem.W.keepIn K (.ref a__law_deed) = true)
    (a__law_filled' : PySem.W.nsIn K mainGlobals "_law_filled" = some (some (.ref a__law_filled)))
    (l__law_filled : K.lookup a__law_filled = some ⟨oc__law_filled, od__law_filled, .func (PySem.W.fnOf "_law_filled" "_law_filled" (defArgs s__law_filled) (defBody s__law_filled) (defScope s__law_filled) .none kV__law_filled dc__law_filled pm__law_filled an__law_filled cd__law_filled ct__law_filled), sl__law_filled⟩)
    (e__law_filled : PySem.W.codeIn K cd__law_filled "_law_filled" = true)
    (k__law_filled : PySem.W.keepIn K (.ref a__law_filled) = true)
    (a__law_joined_has' : PySem.W.nsIn K mainGlobals "_law_joined_has" = some (some (.ref a__law_joined_has)))
    (l__law_joined_has : K.lookup a__law_joined_has = some ⟨oc__law_joined_has, od__law_joined_has, .func (PySem.W.fnOf "_law_joined_has" "_law_joined_has" (defArgs s__law_joined_has) (defBody s__law_joined_has) (defScope s__law_joined_has) .none kV__law_joined_has dc__law_joined_has pm__law_joined_has an__law_joined_has cd__law_joined_has ct__law_joined_has), sl__law_joined_has⟩)
    (e__law_joined_has : PySem.W.codeIn K cd__law_joined_has "_law_joined_has" = true)
    (k__law_joined_has : PySem.W.keepIn K (.ref a__law_joined_has) = true)
    (a__law_joined_due' : PySem.W.nsIn K mainGlobals "_law_joined_due" = some (some (.ref a__law_joined_due)))
    (l__law_joined_due : K.lookup a__law_joined_due = some ⟨oc__law_joined_due, od__law_joined_due, .func (PySem.W.fnOf "_law_joined_due" "_law_joined_due" (defArgs s__law_joined_due) (defBody s__law_joined_due) (defScope s__law_joined_due) .none kV__law_joined_due dc__law_joined_due pm__law_joined_due an__law_joined_due cd__law_joined_due ct__law_joined_due), sl__law_joined_due⟩)
    (e__law_joined_due : PySem.W.codeIn K cd__law_joined_due "_law_joined_due" = true)
    (k__law_joined_due : PySem.W.keepIn K (.ref a__law_joined_due) = true)
    (a__law_joined' : PySem.W.nsIn K mainGlobals "_law_joined" = some (some (.ref a__law_joined)))
    (l__law_joined : K.lookup a__law_joined = some ⟨oc__law_joined, od__law_joined, .func (PySem.W.fnOf "_law_joined" "_law_joined" (defArgs s__law_joined) (defBody s__law_joined) (defScope s__law_joined) .none kV__law_joined dc__law_joined pm__law_joined an__law_joined cd__law_joined ct__law_joined), sl__law_joined⟩)
    (e__law_joined : PySem.W.codeIn K cd__law_joined "_law_joined" = true)
    (k__law_joined : PySem.W.keepIn K (.ref a__law_joined) = true)
    (a__law_is_set' : PySem.W.nsIn K mainGlobals "_law_is_set" = some (some (.ref a__law_is_set)))
    (l__law_is_set : K.lookup a__law_is_set = some ⟨oc__law_is_set, od__law_is_set, .func (PySem.W.fnOf "_law_is_set" "_law_is_set" (defArgs s__law_is_set) (defBody s__law_is_set) (defScope s__law_is_set) .none kV__law_is_set dc__law_is_set pm__law_is_set an__law_is_set cd__law_is_set ct__law_is_set), sl__law_is_set⟩)
    (e__law_is_set : PySem.W.codeIn K cd__law_is_set "_law_is_set" = true)
    (k__law_is_set : PySem.W.keepIn K (.ref a__law_is_set) = true)
    (a__law_joins' : PySem.W.nsIn K mainGlobals "_law_joins" = some (some (.ref a__law_joins)))
    (l__law_joins : K.lookup a__law_joins = some ⟨oc__law_joins, od__law_joins, .func (PySem.W.fnOf "_law_joins" "_law_joins" (defArgs s__law_joins) (defBody s__law_joins) (defScope s__law_joins) .none kV__law_joins dc__law_joins pm__law_joins an__law_joins cd__law_joins ct__law_joins), sl__law_joins⟩)
    (e__law_joins : PySem.W.codeIn K cd__law_joins "_law_joins" = true)
    (k__law_joins : PySem.W.keepIn K (.ref a__law_joins) = true)
    (a__law_rebuilt' : PySem.W.nsIn K mainGlobals "_law_rebuilt" = some (some (.ref a__law_rebuilt)))
    (l__law_rebuilt : K.lookup a__law_rebuilt = some ⟨oc__law_rebuilt, od__law_rebuilt, .func (PySem.W.fnOf "_law_rebuilt" "_law_rebuilt" (defArgs s__law_rebuilt) (defBody s__law_rebuilt) (defScope s__law_rebuilt) .none kV__law_rebuilt dc__law_rebuilt pm__law_rebuilt an__law_rebuilt cd__law_rebuilt ct__law_rebuilt), sl__law_rebuilt⟩)
    (e__law_rebuilt : PySem.W.codeIn K cd__law_rebuilt "_law_rebuilt" = true)
    (k__law_rebuilt : PySem.W.keepIn K (.ref a__law_rebuilt) = true)
    (a__law_equals' : PySem.W.nsIn K mainGlobals "_law_equals" = some (some (.ref a__law_equals)))
    (l__law_equals : K.lookup a__law_equals = some ⟨oc__law_equals, od__law_equals, .func (PySem.W.fnOf "_law_equals" "_law_equals" (defArgs s__law_equals) (defBody s__law_equals) (defScope s__law_equals) .none kV__law_equals dc__law_equals pm__law_equals an__law_equals cd__law_equals ct__law_equals), sl__law_equals⟩)
    (e__law_equals : PySem.W.codeIn K cd__law_equals "_law_equals" = true)
    (k__law_equals : PySem.W.keepIn K (.ref a__law_equals) = true)
    (a_law' : PySem.W.nsIn K mainGlobals "law" = some (some (.ref a_law)))
    (l_law : K.lookup a_law = some ⟨oc_law, od_law, .func (PySem.W.fnOf "law" "law" (defArgs s_law) (defBody s_law) (defScope s_law) .none kV_law dc_law pm_law an_law cd_law ct_law), sl_law⟩)
    (e_law : PySem.W.codeIn K cd_law "law" = true)
    (k_law : PySem.W.keepIn K (.ref a_law) = true)
    (Kv_InvalidNumber : PySem.W.kitOne K (.ref c_InvalidNumber) (.type "ValueError") = some true)
    (rc_Spans : PySem.W.findIn K (.ref c_Spans) "__class__" = some (some (.builtin "object.__class__")))
    (rm_Spans : PySem.W.mroIn K c_Spans (.type "object") = some true)
    (ri_get : PySem.W.specialIn K (.builtin "object.__class__") "__get__" = some (some (.builtin "getset_descriptor.__get__")))
    (ri_tk : PySem.W.takesIn K (.builtin "object.__class__") = some true)
    (ki_Spans_Spans : PySem.W.kitOne K (.ref c_Spans) (.ref c_Spans) = some true)
    (kb_NoneType : PySem.W.kitOne K (.type "NoneType") (.ref c_Spans) = some false)
    (kb_bool : PySem.W.kitOne K (.type "bool") (.ref c_Spans) = some false)
    (kb_int : PySem.W.kitOne K (.type "int") (.ref c_Spans) = some false)
    (kb_str : PySem.W.kitOne K (.type "str") (.ref c_Spans) = some false)
    (kb_tuple : PySem.W.kitOne K (.type "tuple") (.ref c_Spans) = some false)
    (kb_list : PySem.W.kitOne K (.type "list") (.ref c_Spans) = some false)
    (sf_Spans : PySem.W.selfFirst K c_Spans = true)
    (nf_NoneType : PySem.W.notFirst K c_Spans (.type "NoneType") = true)
    (nf_bool : PySem.W.notFirst K c_Spans (.type "bool") = true)
    (nf_int : PySem.W.notFirst K c_Spans (.type "int") = true)
    (nf_str : PySem.W.notFirst K c_Spans (.type "str") = true)
    (nf_tuple : PySem.W.notFirst K c_Spans (.type "tuple") = true)
    (nf_list : PySem.W.notFirst K c_Spans (.type "list") = true)
    (sb_NoneType : PySem.W.subIn K (.ref c_Spans) (.type "NoneType") = some false)
    (sb_bool : PySem.W.subIn K (.ref c_Spans) (.type "bool") = some false)
    (sb_int : PySem.W.subIn K (.ref c_Spans) (.type "int") = some false)
    (sb_str : PySem.W.subIn K (.ref c_Spans) (.type "str") = some false)
    (sb_tuple : PySem.W.subIn K (.ref c_Spans) (.type "tuple") = some false)
    (sb_list : PySem.W.subIn K (.ref c_Spans) (.type "list") = some false)
    (z_NotImplemented : PySem.W.nsIn K mainGlobals "NotImplemented" = some none)
    (z_abs : PySem.W.nsIn K mainGlobals "abs" = some none)
    (z_bool : PySem.W.nsIn K mainGlobals "bool" = some none)
    (z_int : PySem.W.nsIn K mainGlobals "int" = some none)
    (z_isinstance : PySem.W.nsIn K mainGlobals "isinstance" = some none)
    (z_len : PySem.W.nsIn K mainGlobals "len" = some none)
    (z_list : PySem.W.nsIn K mainGlobals "list" = some none)
    (z_max : PySem.W.nsIn K mainGlobals "max" = some none)
    (z_min : PySem.W.nsIn K mainGlobals "min" = some none)
    (z_range : PySem.W.nsIn K mainGlobals "range" = some none)
    (z_sorted : PySem.W.nsIn K mainGlobals "sorted" = some none)
    (z_sum : PySem.W.nsIn K mainGlobals "sum" = some none)
    (z_tuple : PySem.W.nsIn K mainGlobals "tuple" = some none)
    (xm'_InvalidNumber : PySem.HandSPX.refsVE xm_InvalidNumber = true)
    : ∃ fd : FuncData, (∀ (s : Shared) (v : Value), BindsTo s fd ⟨[v], []⟩ [("script", v)]) ∧ ∀ base : Heap, K.In base → base.Ns mainGlobals mg → FnOk l.prog w K mg base CX0 9 fa fd ["script"] (sp_law K) := by
  have e : fa = a_law := by
    have e0 := hfa.symm.trans (PySem.W.mg_of X G a_law')
    cases e0
    rfl
  rw [e]
  have F_InvalidNumber_init_ := fun_mk (st := s_InvalidNumber_init_) l_InvalidNumber_init_ e_InvalidNumber_init_ k_InvalidNumber_init_
  have F_is_integer := fun_mk (st := s_is_integer) l_is_integer e_is_integer k_is_integer
  have F_is_at_least := fun_mk (st := s_is_at_least) l_is_at_least e_is_at_least k_is_at_least
  have F_is_sequence := fun_mk (st := s_is_sequence) l_is_sequence e_is_sequence k_is_sequence
  have F_is_run := fun_mk (st := s_is_run) l_is_run e_is_run k_is_run
  have F_joined := fun_mk (st := s_joined) l_joined e_joined k_joined
  have F_missing := fun_mk (st := s_missing) l_missing e_missing k_missing
  have F_common := fun_mk (st := s_common) l_common e_common k_common
  have F_without := fun_mk (st := s_without) l_without e_without k_without
  have F_Spans_init_ := fun_mk (st := s_Spans_init_) l_Spans_init_ e_Spans_init_ k_Spans_init_
  have F_Spans_or_ := fun_mk (st := s_Spans_or_) l_Spans_or_ e_Spans_or_ k_Spans_or_
  have F_Spans_and_ := fun_mk (st := s_Spans_and_) l_Spans_and_ e_Spans_and_ k_Spans_and_
  have F_Spans_sub_ := fun_mk (st := s_Spans_sub_) l_Spans_sub_ e_Spans_sub_ k_Spans_sub_
  have F_Spans_contains_ := fun_mk (st := s_Spans_contains_) l_Spans_contains_ e_Spans_contains_ k_Spans_contains_
  have F_Spans_eq_ := fun_mk (st := s_Spans_eq_) l_Spans_eq_ e_Spans_eq_ k_Spans_eq_
  have F_Spans_len_ := fun_mk (st := s_Spans_len_) l_Spans_len_ e_Spans_len_ k_Spans_len_
  have F_Spans_rows := fun_mk (st := s_Spans_rows) l_Spans_rows e_Spans_rows k_Spans_rows
  have F_Spans_total := fun_mk (st := s_Spans_total) l_Spans_total e_Spans_total k_Spans_total
  have F_Spans_put := fun_mk (st := s_Spans_put) l_Spans_put e_Spans_put k_Spans_put
  have F_Spans_drop := fun_mk (st := s_Spans_drop) l_Spans_drop e_Spans_drop k_Spans_drop
  have F_Spans_holding := fun_mk (st := s_Spans_holding) l_Spans_holding e_Spans_holding k_Spans_holding
  have F__law_box := fun_mk (st := s__law_box) l__law_box e__law_box k__law_box
  have F__law_draw := fun_mk (st := s__law_draw) l__law_draw e__law_draw k__law_draw
  have F__law_end := fun_mk (st := s__law_end) l__law_end e__law_end k__law_end
  have F__law_pair := fun_mk (st := s__law_pair) l__law_pair e__law_pair k__law_pair
  have F__law_has := fun_mk (st := s__law_has) l__law_has e__law_has k__law_has
  have F__law_due := fun_mk (st := s__law_due) l__law_due e__law_due k__law_due
  have F__law_is_whole := fun_mk (st := s__law_is_whole) l__law_is_whole e__law_is_whole k__law_is_whole
  have F__law_pairs_are := fun_mk (st := s__law_pairs_are) l__law_pairs_are e__law_pairs_are k__law_pairs_are
  have F__law_deed := fun_mk (st := s__law_deed) l__law_deed e__law_deed k__law_deed
  have F__law_filled := fun_mk (st := s__law_filled) l__law_filled e__law_filled k__law_filled
  have F__law_joined_has := fun_mk (st := s__law_joined_has) l__law_joined_has e__law_joined_has k__law_joined_has
  have F__law_joined_due := fun_mk (st := s__law_joined_due) l__law_joined_due e__law_joined_due k__law_joined_due
  have F__law_joined := fun_mk (st := s__law_joined) l__law_joined e__law_joined k__law_joined
  have F__law_is_set := fun_mk (st := s__law_is_set) l__law_is_set e__law_is_set k__law_is_set
  have F__law_joins := fun_mk (st := s__law_joins) l__law_joins e__law_joins k__law_joins
  have F__law_rebuilt := fun_mk (st := s__law_rebuilt) l__law_rebuilt e__law_rebuilt k__law_rebuilt
  have F__law_equals := fun_mk (st := s__law_equals) l__law_equals e__law_equals k__law_equals
  have F_law := fun_mk (st := s_law) l_law e_law k_law
  let T : Txt K mg := {
    c_Spans := c_Spans,
    g_Spans := PySem.W.mg_of X G aC_Spans,
    cl_Spans := ⟨pg_Spans, hd_Spans, po_Spans, sa_Spans⟩,
    n_Spans__runs := n_Spans__runs,
    c_LossError := c_LossError,
    X_LossError := ⟨PySem.W.mg_of X G aC_LossError⟩,
    c_InvalidNumber := c_InvalidNumber,
    X_InvalidNumber := xcls_mk (PySem.W.mg_of X G aC_InvalidNumber) xl_InvalidNumber xm'_InvalidNumber sa_InvalidNumber xx_InvalidNumber xt_InvalidNumber xk_InvalidNumber xi_InvalidNumber xf_InvalidNumber_init_ xg_InvalidNumber xh_InvalidNumber xy_InvalidNumber xc_InvalidNumber x_get x_tk xr_InvalidNumber,
    nX_InvalidNumber := nX_InvalidNumber,
    Me_InvalidNumber_InvalidNumber := Me_InvalidNumber_InvalidNumber,
    Kt_InvalidNumber_InvalidNumber := Kt_InvalidNumber_InvalidNumber,
    Kt_InvalidNumber_LossError := Kt_InvalidNumber_LossError,
    a_InvalidNumber_init_ := a_InvalidNumber_init_,
    fd_InvalidNumber_init_ := PySem.W.fnOf "__init__" "InvalidNumber.__init__" (defArgs s_InvalidNumber_init_) (defBody s_InvalidNumber_init_) (defScope s_InvalidNumber_init_) .none kV_InvalidNumber_init_ dc_InvalidNumber_init_ pm_InvalidNumber_init_ an_InvalidNumber_init_ cd_InvalidNumber_init_ ct_InvalidNumber_init_,
    F_InvalidNumber_init_ := F_InvalidNumber_init_,
    B_InvalidNumber_init_ := F_InvalidNumber_init_.binds (ps := ["self", "number"]) fun _ _ _ _ _ _ us hl => match us, hl with | [_, _], _ => rfl,
    a_is_integer := a_is_integer,
    fd_is_integer := PySem.W.fnOf "is_integer" "is_integer" (defArgs s_is_integer) (defBody s_is_integer) (defScope s_is_integer) .none kV_is_integer dc_is_integer pm_is_integer an_is_integer cd_is_integer ct_is_integer,
    F_is_integer := F_is_integer,
    B_is_integer := F_is_integer.binds (ps := ["value"]) fun _ _ _ _ _ _ us hl => match us, hl with | [_], _ => rfl,
    g_is_integer := PySem.W.mg_of X G a_is_integer',
    a_is_at_least := a_is_at_least,
    fd_is_at_least := PySem.W.fnOf "is_at_least" "is_at_least" (defArgs s_is_at_least) (defBody s_is_at_least) (defScope s_is_at_least) .none kV_is_at_least dc_is_at_least pm_is_at_least an_is_at_least cd_is_at_least ct_is_at_least,
    F_is_at_least := F_is_at_least,
    B_is_at_least := F_is_at_least.binds (ps := ["value", "low"]) fun _ _ _ _ _ _ us hl => match us, hl with | [_, _], _ => rfl,
    g_is_at_least := PySem.W.mg_of X G a_is_at_least',
    a_is_sequence := a_is_sequence,
    fd_is_sequence := PySem.W.fnOf "is_sequence" "is_sequence" (defArgs s_is_sequence) (defBody s_is_sequence) (defScope s_is_sequence) .none kV_is_sequence dc_is_sequence pm_is_sequence an_is_sequence cd_is_sequence ct_is_sequence,
    F_is_sequence := F_is_sequence,
    B_is_sequence := F_is_sequence.binds (ps := ["value"]) fun _ _ _ _ _ _ us hl => match us, hl with | [_], _ => rfl,
    g_is_sequence := PySem.W.mg_of X G a_is_sequence',
    a_is_run := a_is_run,
    fd_is_run := PySem.W.fnOf "is_run" "is_run" (defArgs s_is_run) (defBody s_is_run) (defScope s_is_run) .none kV_is_run dc_is_run pm_is_run an_is_run cd_is_run ct_is_run,
    F_is_run := F_is_run,
    B_is_run := F_is_run.binds (ps := ["pair"]) fun _ _ _ _ _ _ us hl => match us, hl with | [_], _ => rfl,
    g_is_run := PySem.W.mg_of X G a_is_run',
    a_joined := a_joined,
    fd_joined := PySem.W.fnOf "joined" "joined" (defArgs s_joined) (defBody s_joined) (defScope s_joined) .none kV_joined dc_joined pm_joined an_joined cd_joined ct_joined,
    F_joined := F_joined,
    B_joined := F_joined.binds (ps := ["pairs"]) fun _ _ _ _ _ _ us hl => match us, hl with | [_], _ => rfl,
    g_joined := PySem.W.mg_of X G a_joined',
    a_missing := a_missing,
    fd_missing := PySem.W.fnOf "missing" "missing" (defArgs s_missing) (defBody s_missing) (defScope s_missing) .none kV_missing dc_missing pm_missing an_missing cd_missing ct_missing,
    F_missing := F_missing,
    B_missing := F_missing.binds (ps := ["runs", "low", "high"]) fun _ _ _ _ _ _ us hl => match us, hl with | [_, _, _], _ => rfl,
    g_missing := PySem.W.mg_of X G a_missing',
    a_common := a_common,
    fd_common := PySem.W.fnOf "common" "common" (defArgs s_common) (defBody s_common) (defScope s_common) .none kV_common dc_common pm_common an_common cd_common ct_common,
    F_common := F_common,
    B_common := F_common.binds (ps := ["first", "second"]) fun _ _ _ _ _ _ us hl => match us, hl with | [_, _], _ => rfl,
    g_common := PySem.W.mg_of X G a_common',
    a_without := a_without,
    fd_without := PySem.W.fnOf "without" "without" (defArgs s_without) (defBody s_without) (defScope s_without) .none kV_without dc_without pm_without an_without cd_without ct_without,
    F_without := F_without,
    B_without := F_without.binds (ps := ["first", "second"]) fun _ _ _ _ _ _ us hl => match us, hl with | [_, _], _ => rfl,
    g_without := PySem.W.mg_of X G a_without',
    a_Spans_init_ := a_Spans_init_,
    fd_Spans_init_ := PySem.W.fnOf "__init__" "Spans.__init__" (defArgs s_Spans_init_) (defBody s_Spans_init_) (defScope s_Spans_init_) .none kV_Spans_init_ dc_Spans_init_ pm_Spans_init_ an_Spans_init_ cd_Spans_init_ ct_Spans_init_,
    F_Spans_init_ := F_Spans_init_,
    BS_Spans_init_ := ⟨fun us rest hl => match us, rest, hl with | [_], [], _ => rfl | [_], _ :: _, _ => rfl⟩,
    M_Spans := ⟨mk_Spans, a_Spans_init_', i_Spans_init_, kc_Spans⟩,
    a_Spans_or_ := a_Spans_or_,
    fd_Spans_or_ := PySem.W.fnOf "__or__" "Spans.__or__" (defArgs s_Spans_or_) (defBody s_Spans_or_) (defScope s_Spans_or_) .none kV_Spans_or_ dc_Spans_or_ pm_Spans_or_ an_Spans_or_ cd_Spans_or_ ct_Spans_or_,
    F_Spans_or_ := F_Spans_or_,
    B_Spans_or_ := F_Spans_or_.binds (ps := ["self", "other"]) fun _ _ _ _ _ _ us hl => match us, hl with | [_, _], _ => rfl,
    m_Spans_or_ := ⟨a_Spans_or_', i_Spans_or_, k_Spans_or_⟩,
    a_Spans_and_ := a_Spans_and_,
    fd_Spans_and_ := PySem.W.fnOf "__and__" "Spans.__and__" (defArgs s_Spans_and_) (defBody s_Spans_and_) (defScope s_Spans_and_) .none kV_Spans_and_ dc_Spans_and_ pm_Spans_and_ an_Spans_and_ cd_Spans_and_ ct_Spans_and_,
    F_Spans_and_ := F_Spans_and_,
    B_Spans_and_ := F_Spans_and_.binds (ps := ["self", "other"]) fun _ _ _ _ _ _ us hl => match us, hl with | [_, _], _ => rfl,
    m_Spans_and_ := ⟨a_Spans_and_', i_Spans_and_, k_Spans_and_⟩,
    a_Spans_sub_ := a_Spans_sub_,
    fd_Spans_sub_ := PySem.W.fnOf "__sub__" "Spans.__sub__" (defArgs s_Spans_sub_) (defBody s_Spans_sub_) (defScope s_Spans_sub_) .none kV_Spans_sub_ dc_Spans_sub_ pm_Spans_sub_ an_Spans_sub_ cd_Spans_sub_ ct_Spans_sub_,
    F_Spans_sub_ := F_Spans_sub_,
    B_Spans_sub_ := F_Spans_sub_.binds (ps := ["self", "other"]) fun _ _ _ _ _ _ us hl => match us, hl with | [_, _], _ => rfl,
    m_Spans_sub_ := ⟨a_Spans_sub_', i_Spans_sub_, k_Spans_sub_⟩,
    a_Spans_contains_ := a_Spans_contains_,
    fd_Spans_contains_ := PySem.W.fnOf "__contains__" "Spans.__contains__" (defArgs s_Spans_contains_) (defBody s_Spans_contains_) (defScope s_Spans_contains_) .none kV_Spans_contains_ dc_Spans_contains_ pm_Spans_contains_ an_Spans_contains_ cd_Spans_contains_ ct_Spans_contains_,
    F_Spans_contains_ := F_Spans_contains_,
    B_Spans_contains_ := F_Spans_contains_.binds (ps := ["self", "offset"]) fun _ _ _ _ _ _ us hl => match us, hl with | [_, _], _ => rfl,
    m_Spans_contains_ := ⟨a_Spans_contains_', i_Spans_contains_, k_Spans_contains_⟩,
    a_Spans_eq_ := a_Spans_eq_,
    fd_Spans_eq_ := PySem.W.fnOf "__eq__" "Spans.__eq__" (defArgs s_Spans_eq_) (defBody s_Spans_eq_) (defScope s_Spans_eq_) .none kV_Spans_eq_ dc_Spans_eq_ pm_Spans_eq_ an_Spans_eq_ cd_Spans_eq_ ct_Spans_eq_,
    F_Spans_eq_ := F_Spans_eq_,
    B_Spans_eq_ := F_Spans_eq_.binds (ps := ["self", "other"]) fun _ _ _ _ _ _ us hl => match us, hl with | [_, _], _ => rfl,
    m_Spans_eq_ := ⟨a_Spans_eq_', i_Spans_eq_, k_Spans_eq_⟩,
    a_Spans_len_ := a_Spans_len_,
    fd_Spans_len_ := PySem.W.fnOf "__len__" "Spans.__len__" (defArgs s_Spans_len_) (defBody s_Spans_len_) (defScope s_Spans_len_) .none kV_Spans_len_ dc_Spans_len_ pm_Spans_len_ an_Spans_len_ cd_Spans_len_ ct_Spans_len_,
    F_Spans_len_ := F_Spans_len_,
    B_Spans_len_ := F_Spans_len_.binds (ps := ["self"]) fun _ _ _ _ _ _ us hl => match us, hl with | [_], _ => rfl,
    m_Spans_len_ := ⟨a_Spans_len_', i_Spans_len_, k_Spans_len_⟩,
    a_Spans_rows := a_Spans_rows,
    fd_Spans_rows := PySem.W.fnOf "rows" "Spans.rows" (defArgs s_Spans_rows) (defBody s_Spans_rows) (defScope s_Spans_rows) .none kV_Spans_rows dc_Spans_rows pm_Spans_rows an_Spans_rows cd_Spans_rows ct_Spans_rows,
    F_Spans_rows := F_Spans_rows,
    B_Spans_rows := F_Spans_rows.binds (ps := ["self"]) fun _ _ _ _ _ _ us hl => match us, hl with | [_], _ => rfl,
    m_Spans_rows := ⟨a_Spans_rows', i_Spans_rows, k_Spans_rows⟩,
    a_Spans_total := a_Spans_total,
    fd_Spans_total := PySem.W.fnOf "total" "Spans.total" (defArgs s_Spans_total) (defBody s_Spans_total) (defScope s_Spans_total) .none kV_Spans_total dc_Spans_total pm_Spans_total an_Spans_total cd_Spans_total ct_Spans_total,
    F_Spans_total := F_Spans_total,
    B_Spans_total := F_Spans_total.binds (ps := ["self"]) fun _ _ _ _ _ _ us hl => match us, hl with | [_], _ => rfl,
    m_Spans_total := ⟨a_Spans_total', i_Spans_total, k_Spans_total⟩,
    a_Spans_put := a_Spans_put,
    fd_Spans_put := PySem.W.fnOf "put" "Spans.put" (defArgs s_Spans_put) (defBody s_Spans_put) (defScope s_Spans_put) .none kV_Spans_put dc_Spans_put pm_Spans_put an_Spans_put cd_Spans_put ct_Spans_put,
    F_Spans_put := F_Spans_put,
    B_Spans_put := F_Spans_put.binds (ps := ["self", "low", "high"]) fun _ _ _ _ _ _ us hl => match us, hl with | [_, _, _], _ => rfl,
    m_Spans_put := ⟨a_Spans_put', i_Spans_put, k_Spans_put⟩,
    a_Spans_drop := a_Spans_drop,
    fd_Spans_drop := PySem.W.fnOf "drop" "Spans.drop" (defArgs s_Spans_drop) (defBody s_Spans_drop) (defScope s_Spans_drop) .none kV_Spans_drop dc_Spans_drop pm_Spans_drop an_Spans_drop cd_Spans_drop ct_Spans_drop,
    F_Spans_drop := F_Spans_drop,
    B_Spans_drop := F_Spans_drop.binds (ps := ["self", "low", "high"]) fun _ _ _ _ _ _ us hl => match us, hl with | [_, _, _], _ => rfl,
    m_Spans_drop := ⟨a_Spans_drop', i_Spans_drop, k_Spans_drop⟩,
    a_Spans_holding := a_Spans_holding,
    fd_Spans_holding := PySem.W.fnOf "holding" "Spans.holding" (defArgs s_Spans_holding) (defBody s_Spans_holding) (defScope s_Spans_holding) .none kV_Spans_holding dc_Spans_holding pm_Spans_holding an_Spans_holding cd_Spans_holding ct_Spans_holding,
    F_Spans_holding := F_Spans_holding,
    B_Spans_holding := F_Spans_holding.binds (ps := ["self", "offset"]) fun _ _ _ _ _ _ us hl => match us, hl with | [_, _], _ => rfl,
    m_Spans_holding := ⟨a_Spans_holding', i_Spans_holding, k_Spans_holding⟩,
    a__law_box := a__law_box,
    fd__law_box := PySem.W.fnOf "_law_box" "_law_box" (defArgs s__law_box) (defBody s__law_box) (defScope s__law_box) .none kV__law_box dc__law_box pm__law_box an__law_box cd__law_box ct__law_box,
    F__law_box := F__law_box,
    B__law_box := F__law_box.binds (ps := ["script"]) fun _ _ _ _ _ _ us hl => match us, hl with | [_], _ => rfl,
    g__law_box := PySem.W.mg_of X G a__law_box',
    a__law_draw := a__law_draw,
    fd__law_draw := PySem.W.fnOf "_law_draw" "_law_draw" (defArgs s__law_draw) (defBody s__law_draw) (defScope s__law_draw) .none kV__law_draw dc__law_draw pm__law_draw an__law_draw cd__law_draw ct__law_draw,
    F__law_draw := F__law_draw,
    B__law_draw := F__law_draw.binds (ps := ["box", "size"]) fun _ _ _ _ _ _ us hl => match us, hl with | [_, _], _ => rfl,
    g__law_draw := PySem.W.mg_of X G a__law_draw',
    a__law_end := a__law_end,
    fd__law_end := PySem.W.fnOf "_law_end" "_law_end" (defArgs s__law_end) (defBody s__law_end) (defScope s__law_end) .none kV__law_end dc__law_end pm__law_end an__law_end cd__law_end ct__law_end,
    F__law_end := F__law_end,
    B__law_end := F__law_end.binds (ps := ["box", "ends"]) fun _ _ _ _ _ _ us hl => match us, hl with | [_, _], _ => rfl,
    g__law_end := PySem.W.mg_of X G a__law_end',
    a__law_pair := a__law_pair,
    fd__law_pair := PySem.W.fnOf "_law_pair" "_law_pair" (defArgs s__law_pair) (defBody s__law_pair) (defScope s__law_pair) .none kV__law_pair dc__law_pair pm__law_pair an__law_pair cd__law_pair ct__law_pair,
    F__law_pair := F__law_pair,
    B__law_pair := F__law_pair.binds (ps := ["box", "ends"]) fun _ _ _ _ _ _ us hl => match us, hl with | [_, _], _ => rfl,
    g__law_pair := PySem.W.mg_of X G a__law_pair',
    a__law_has := a__law_has,
    fd__law_has := PySem.W.fnOf "_law_has" "_law_has" (defArgs s__law_has) (defBody s__law_has) (defScope s__law_has) .none kV__law_has dc__law_has pm__law_has an__law_has cd__law_has ct__law_has,
    F__law_has := F__law_has,
    B__law_has := F__law_has.binds (ps := ["history", "offset"]) fun _ _ _ _ _ _ us hl => match us, hl with | [_, _], _ => rfl,
    g__law_has := PySem.W.mg_of X G a__law_has',
    a__law_due := a__law_due,
    fd__law_due := PySem.W.fnOf "_law_due" "_law_due" (defArgs s__law_due) (defBody s__law_due) (defScope s__law_due) .none kV__law_due dc__law_due pm__law_due an__law_due cd__law_due ct__law_due,
    F__law_due := F__law_due,
    B__law_due := F__law_due.binds (ps := ["history"]) fun _ _ _ _ _ _ us hl => match us, hl with | [_], _ => rfl,
    g__law_due := PySem.W.mg_of X G a__law_due',
    a__law_is_whole := a__law_is_whole,
    fd__law_is_whole := PySem.W.fnOf "_law_is_whole" "_law_is_whole" (defArgs s__law_is_whole) (defBody s__law_is_whole) (defScope s__law_is_whole) .none kV__law_is_whole dc__law_is_whole pm__law_is_whole an__law_is_whole cd__law_is_whole ct__law_is_whole,
    F__law_is_whole := F__law_is_whole,
    B__law_is_whole := F__law_is_whole.binds (ps := ["value"]) fun _ _ _ _ _ _ us hl => match us, hl with | [_], _ => rfl,
    g__law_is_whole := PySem.W.mg_of X G a__law_is_whole',
    a__law_pairs_are := a__law_pairs_are,
    fd__law_pairs_are := PySem.W.fnOf "_law_pairs_are" "_law_pairs_are" (defArgs s__law_pairs_are) (defBody s__law_pairs_are) (defScope s__law_pairs_are) .none kV__law_pairs_are dc__law_pairs_are pm__law_pairs_are an__law_pairs_are cd__law_pairs_are ct__law_pairs_are,
    F__law_pairs_are := F__law_pairs_are,
    B__law_pairs_are := F__law_pairs_are.binds (ps := ["told", "due"]) fun _ _ _ _ _ _ us hl => match us, hl with | [_, _], _ => rfl,
    g__law_pairs_are := PySem.W.mg_of X G a__law_pairs_are',
    a__law_deed := a__law_deed,
    fd__law_deed := PySem.W.fnOf "_law_deed" "_law_deed" (defArgs s__law_deed) (defBody s__law_deed) (defScope s__law_deed) .none kV__law_deed dc__law_deed pm__law_deed an__law_deed cd__law_deed ct__law_deed,
    F__law_deed := F__law_deed,
    B__law_deed := F__law_deed.binds (ps := ["box", "spans", "history", "ends"]) fun _ _ _ _ _ _ us hl => match us, hl with | [_, _, _, _], _ => rfl,
    g__law_deed := PySem.W.mg_of X G a__law_deed',
    a__law_filled := a__law_filled,
    fd__law_filled := PySem.W.fnOf "_law_filled" "_law_filled" (defArgs s__law_filled) (defBody s__law_filled) (defScope s__law_filled) .none kV__law_filled dc__law_filled pm__law_filled an__law_filled cd__law_filled ct__law_filled,
    F__law_filled := F__law_filled,
    B__law_filled := F__law_filled.binds (ps := ["box", "history", "ends"]) fun _ _ _ _ _ _ us hl => match us, hl with | [_, _, _], _ => rfl,
    g__law_filled := PySem.W.mg_of X G a__law_filled',
    a__law_joined_has := a__law_joined_has,
    fd__law_joined_has := PySem.W.fnOf "_law_joined_has" "_law_joined_has" (defArgs s__law_joined_has) (defBody s__law_joined_has) (defScope s__law_joined_has) .none kV__law_joined_has dc__law_joined_has pm__law_joined_has an__law_joined_has cd__law_joined_has ct__law_joined_has,
    F__law_joined_has := F__law_joined_has,
    B__law_joined_has := F__law_joined_has.binds (ps := ["one", "two", "way", "offset"]) fun _ _ _ _ _ _ us hl => match us, hl with | [_, _, _, _], _ => rfl,
    g__law_joined_has := PySem.W.mg_of X G a__law_joined_has',
    a__law_joined_due := a__law_joined_due,
    fd__law_joined_due := PySem.W.fnOf "_law_joined_due" "_law_joined_due" (defArgs s__law_joined_due) (defBody s__law_joined_due) (defScope s__law_joined_due) .none kV__law_joined_due dc__law_joined_due pm__law_joined_due an__law_joined_due cd__law_joined_due ct__law_joined_due,
    F__law_joined_due := F__law_joined_due,
    B__law_joined_due := F__law_joined_due.binds (ps := ["one", "two", "way"]) fun _ _ _ _ _ _ us hl => match us, hl with | [_, _, _], _ => rfl,
    g__law_joined_due := PySem.W.mg_of X G a__law_joined_due',
    a__law_joined := a__law_joined,
    fd__law_joined := PySem.W.fnOf "_law_joined" "_law_joined" (defArgs s__law_joined) (defBody s__law_joined) (defScope s__law_joined) .none kV__law_joined dc__law_joined pm__law_joined an__law_joined cd__law_joined ct__law_joined,
    F__law_joined := F__law_joined,
    B__law_joined := F__law_joined.binds (ps := ["left", "right", "way"]) fun _ _ _ _ _ _ us hl => match us, hl with | [_, _, _], _ => rfl,
    g__law_joined := PySem.W.mg_of X G a__law_joined',
    a__law_is_set := a__law_is_set,
    fd__law_is_set := PySem.W.fnOf "_law_is_set" "_law_is_set" (defArgs s__law_is_set) (defBody s__law_is_set) (defScope s__law_is_set) .none kV__law_is_set dc__law_is_set pm__law_is_set an__law_is_set cd__law_is_set ct__law_is_set,
    F__law_is_set := F__law_is_set,
    B__law_is_set := F__law_is_set.binds (ps := ["spans", "due"]) fun _ _ _ _ _ _ us hl => match us, hl with | [_, _], _ => rfl,
    g__law_is_set := PySem.W.mg_of X G a__law_is_set',
    a__law_joins := a__law_joins,
    fd__law_joins := PySem.W.fnOf "_law_joins" "_law_joins" (defArgs s__law_joins) (defBody s__law_joins) (defScope s__law_joins) .none kV__law_joins dc__law_joins pm__law_joins an__law_joins cd__law_joins ct__law_joins,
    F__law_joins := F__law_joins,
    B__law_joins := F__law_joins.binds (ps := ["box", "sets", "histories", "ends", "left", "right", "way"]) fun _ _ _ _ _ _ us hl => match us, hl with | [_, _, _, _, _, _, _], _ => rfl,
    g__law_joins := PySem.W.mg_of X G a__law_joins',
    a__law_rebuilt := a__law_rebuilt,
    fd__law_rebuilt := PySem.W.fnOf "_law_rebuilt" "_law_rebuilt" (defArgs s__law_rebuilt) (defBody s__law_rebuilt) (defScope s__law_rebuilt) .none kV__law_rebuilt dc__law_rebuilt pm__law_rebuilt an__law_rebuilt cd__law_rebuilt ct__law_rebuilt,
    F__law_rebuilt := F__law_rebuilt,
    B__law_rebuilt := F__law_rebuilt.binds (ps := ["due"]) fun _ _ _ _ _ _ us hl => match us, hl with | [_], _ => rfl,
    g__law_rebuilt := PySem.W.mg_of X G a__law_rebuilt',
    a__law_equals := a__law_equals,
    fd__law_equals := PySem.W.fnOf "_law_equals" "_law_equals" (defArgs s__law_equals) (defBody s__law_equals) (defScope s__law_equals) .none kV__law_equals dc__law_equals pm__law_equals an__law_equals cd__law_equals ct__law_equals,
    F__law_equals := F__law_equals,
    B__law_equals := F__law_equals.binds (ps := ["sets", "histories"]) fun _ _ _ _ _ _ us hl => match us, hl with | [_, _], _ => rfl,
    g__law_equals := PySem.W.mg_of X G a__law_equals',
    a_law := a_law,
    fd_law := PySem.W.fnOf "law" "law" (defArgs s_law) (defBody s_law) (defScope s_law) .none kV_law dc_law pm_law an_law cd_law ct_law,
    F_law := F_law,
    B_law := F_law.binds (ps := ["script"]) fun _ _ _ _ _ _ us hl => match us, hl with | [_], _ => rfl,
    g_law := PySem.W.mg_of X G a_law',
    Kv_InvalidNumber := Kv_InvalidNumber,
    rc_Spans := rc_Spans,
    rm_Spans := rm_Spans,
    ri_get := ri_get,
    ri_tk := ri_tk,
    ki_Spans_Spans := ki_Spans_Spans,
    kb_NoneType := kb_NoneType,
    kb_bool := kb_bool,
    kb_int := kb_int,
    kb_str := kb_str,
    kb_tuple := kb_tuple,
    kb_list := kb_list,
    sf_Spans := sf_Spans,
    nf_NoneType := nf_NoneType,
    nf_bool := nf_bool,
    nf_int := nf_int,
    nf_str := nf_str,
    nf_tuple := nf_tuple,
    nf_list := nf_list,
    sb_NoneType := sb_NoneType,
    sb_bool := sb_bool,
    sb_int := sb_int,
    sb_str := sb_str,
    sb_tuple := sb_tuple,
    sb_list := sb_list,
    b_NotImplemented := PySem.W.mg_none_of X G z_NotImplemented,
    b_abs := PySem.W.mg_none_of X G z_abs,
    b_bool := PySem.W.mg_none_of X G z_bool,
    b_int := PySem.W.mg_none_of X G z_int,
    b_isinstance := PySem.W.mg_none_of X G z_isinstance,
    b_len := PySem.W.mg_none_of X G z_len,
    b_list := PySem.W.mg_none_of X G z_list,
    b_max := PySem.W.mg_none_of X G z_max,
    b_min := PySem.W.mg_none_of X G z_min,
    b_range := PySem.W.mg_none_of X G z_range,
    b_sorted := PySem.W.mg_none_of X G z_sorted,
    b_sum := PySem.W.mg_none_of X G z_sum,
    b_tuple := PySem.W.mg_none_of X G z_tuple }
  exact ⟨T.fd_law, fun s v => .of_eq rfl, fun base _ _ => ok_law (P := l.prog) (w := w) (base := base) T⟩
theorem walk {l : PySem.W.OpenLaw} {q : Program} {loose : List Str} {XP : (Str → Option Value) → Heap → Prop} {YP : World → Heap → Prop} {d : DefRec} {K : Params → PySem.W.Frag} (hn : l.most = some 63) (hdf : d.params.defaults = [])
    (hY : ∀ (w : World) (h : Heap), YP w h → (K w.params).In h)
    (F : ∀ (w : World) (mg : Str → Option Value) (fa : Addr) (h : Heap), (K w.params).In h → h.Ns mainGlobals mg → mg d.name = some (.ref fa) →
      ∃ fd : FuncData, (∀ (s : Shared) (u : Value), BindsTo s fd ⟨[u], []⟩ [("script", u)]) ∧ ∀ base : Heap, (K w.params).In base → base.Ns mainGlobals mg → FnOk l.prog w (K w.params) mg base CX0 9 fa fd ["script"] (sp_law (K w.params))) :
    PySem.W.WalkO q loose XP YP l.row.toRowW d [] (fun f vs => PySem.call f vs) :=
  L2.walk_of (CX := fun _ => CX0) (n := 63) (k := 9) (x := "script") (sp := fun w => sp_law (K w.params)) hn (by decide) hdf ⟨rfl, by decide, by decide⟩ hY F (fun _ _ a ns hl _ hS => ⟨a, ns, rfl, hS, hl, fun _ => rfl⟩) fun _ _ _ _ _ z => z
end My

open PySem PySem.W PyProof.Rows in
set_option maxRecDepth 100000 in
set_option maxHeartbeats 0 in
theorem PySem.Challenge.cw_lossway_k09_spans_operators_holds : PySem.Challenge.rw_lossway_k09_spans_operators.Holds := by
  w_on; o_law; k_head; (case hw => w_witness2)
  k_fill
  refine My.walk (l := PySem.Challenge.rw_lossway_k09_spans_operators) rfl rfl (fun w h Y => PySem.W.kIn_of Y) ?F
  case F =>
    intro w mg fa h KX G hmg
    refine' My.all_mk KX G hmg ?aC_Spans ?pg_Spans ?hd_Spans ?po_Spans ?sa_Spans ?mk_Spans ?kc_Spans ?n_Spans__runs ?aC_LossError ?aC_InvalidNumber ?xl_InvalidNumber ?sa_InvalidNumber ?xx_InvalidNumber ?xt_InvalidNumber ?xk_InvalidNumber ?xi_InvalidNumber ?xg_InvalidNumber ?xh_InvalidNumber ?xy_InvalidNumber ?xc_InvalidNumber ?xr_InvalidNumber ?nX_InvalidNumber ?x_get ?x_tk ?Me_InvalidNumber_InvalidNumber ?Kt_InvalidNumber_InvalidNumber ?Kt_InvalidNumber_LossError ?xf_InvalidNumber_init_ ?l_InvalidNumber_init_ ?e_InvalidNumber_init_ ?k_InvalidNumber_init_ ?a_is_integer_ ?l_is_integer ?e_is_integer ?k_is_integer ?a_is_at_least_ ?l_is_at_least ?e_is_at_least ?k_is_at_least ?a_is_sequence_ ?l_is_sequence ?e_is_sequence ?k_is_sequence ?a_is_run_ ?l_is_run ?e_is_run ?k_is_run ?a_joined_ ?l_joined ?e_joined ?k_joined ?a_missing_ ?l_missing ?e_missing ?k_missing ?a_common_ ?l_common ?e_common ?k_common ?a_without_ ?l_without ?e_without ?k_without ?a_Spans_init__ ?i_Spans_init_ ?l_Spans_init_ ?e_Spans_init_ ?k_Spans_init_ ?a_Spans_or__ ?i_Spans_or_ ?l_Spans_or_ ?e_Spans_or_ ?k_Spans_or_ ?a_Spans_and__ ?i_Spans_and_ ?l_Spans_and_ ?e_Spans_and_ ?k_Spans_and_ ?a_Spans_sub__ ?i_Spans_sub_ ?l_Spans_sub_ ?e_Spans_sub_ ?k_Spans_sub_ ?a_Spans_contains__ ?i_Spans_contains_ ?l_Spans_contains_ ?e_Spans_contains_ ?k_Spans_contains_ ?a_Spans_eq__ ?i_Spans_eq_ ?l_Spans_eq_ ?e_Spans_eq_ ?k_Spans_eq_ ?a_Spans_len__ ?i_Spans_len_ ?l_Spans_len_ ?e_Spans_len_ ?k_Spans_len_ ?a_Spans_rows_ ?i_Spans_rows ?l_Spans_rows ?e_Spans_rows ?k_Spans_rows ?a_Spans_total_ ?i_Spans_total ?l_Spans_total ?e_Spans_total ?k_Spans_total ?a_Spans_put_ ?i_Spans_put ?l_Spans_put ?e_Spans_put ?k_Spans_put ?a_Spans_drop_ ?i_Spans_drop ?l_Spans_drop ?e_Spans_drop ?k_Spans_drop ?a_Spans_holding_ ?i_Spans_holding ?l_Spans_holding ?e_Spans_holding ?k_Spans_holding ?a__law_box_ ?l__law_box ?e__law_box ?k__law_box ?a__law_draw_ ?l__law_draw ?e__law_draw ?k__law_draw ?a__law_end_ ?l__law_end ?e__law_end ?k__law_end ?a__law_pair_ ?l__law_pair ?e__law_pair ?k__law_pair ?a__law_has_ ?l__law_has ?e__law_has ?k__law_has ?a__law_due_ ?l__law_due ?e__law_due ?k__law_due ?a__law_is_whole_ ?l__law_is_whole ?e__law_is_whole ?k__law_is_whole ?a__law_pairs_are_ ?l__law_pairs_are ?e__law_pairs_are ?k__law_pairs_are ?a__law_deed_ ?l__law_deed ?e__law_deed ?k__law_deed ?a__law_filled_ ?l__law_filled ?e__law_filled ?k__law_filled ?a__law_joined_has_ ?l__law_joined_has ?e__law_joined_has ?k__law_joined_has ?a__law_joined_due_ ?l__law_joined_due ?e__law_joined_due ?k__law_joined_due ?a__law_joined_ ?l__law_joined ?e__law_joined ?k__law_joined ?a__law_is_set_ ?l__law_is_set ?e__law_is_set ?k__law_is_set ?a__law_joins_ ?l__law_joins ?e__law_joins ?k__law_joins ?a__law_rebuilt_ ?l__law_rebuilt ?e__law_rebuilt ?k__law_rebuilt ?a__law_equals_ ?l__law_equals ?e__law_equals ?k__law_equals ?a_law_ ?l_law ?e_law ?k_law ?Kv_InvalidNumber ?rc_Spans ?rm_Spans ?ri_get ?ri_tk ?ki_Spans_Spans ?kb_NoneType ?kb_bool ?kb_int ?kb_str ?kb_tuple ?kb_list ?sf_Spans ?nf_NoneType ?nf_bool ?nf_int ?nf_str ?nf_tuple ?nf_list ?sb_NoneType ?sb_bool ?sb_int ?sb_str ?sb_tuple ?sb_list ?z_NotImplemented ?z_abs ?z_bool ?z_int ?z_isinstance ?z_len ?z_list ?z_max ?z_min ?z_range ?z_sorted ?z_sum ?z_tuple ?xm__InvalidNumber
    (case aC_Spans => k_is)
    (case pg_Spans => k_is)
    (case hd_Spans => k_is)
    (case po_Spans => k_is)
    (case sa_Spans => k_is)
    (case mk_Spans => k_is)
    (case kc_Spans => k_is)
    (case n_Spans__runs => k_is)
    (case aC_LossError => k_is)
    (case aC_InvalidNumber => k_is)
    (case xl_InvalidNumber => k_is)
    (case sa_InvalidNumber => k_is)
    (case xx_InvalidNumber => k_is)
    (case xt_InvalidNumber => k_is)
    (case xk_InvalidNumber => k_is)
    (case xi_InvalidNumber => k_is)
    (case xg_InvalidNumber => k_is)
    (case xh_InvalidNumber => k_is)
    (case xy_InvalidNumber => k_is)
    (case xc_InvalidNumber => k_is)
    (case xr_InvalidNumber => k_is)
    (case nX_InvalidNumber => k_is)
    (case x_get => k_is)
    (case x_tk => k_is)
    (case Me_InvalidNumber_InvalidNumber => kts_exm)
    (case Kt_InvalidNumber_InvalidNumber => kit_is)
    (case Kt_InvalidNumber_LossError => kit_is)
    (case xf_InvalidNumber_init_ => k_is)
    (case l_InvalidNumber_init_ => k_is)
    (case e_InvalidNumber_init_ => k_is)
    (case k_InvalidNumber_init_ => k_is)
    (case a_is_integer_ => k_is)
    (case l_is_integer => k_is)
    (case e_is_integer => k_is)
    (case k_is_integer => k_is)
    (case a_is_at_least_ => k_is)
    (case l_is_at_least => k_is)
    (case e_is_at_least => k_is)
    (case k_is_at_least => k_is)
    (case a_is_sequence_ => k_is)
    (case l_is_sequence => k_is)
    (case e_is_sequence => k_is)
    (case k_is_sequence => k_is)
    (case a_is_run_ => k_is)
    (case l_is_run => k_is)
    (case e_is_run => k_is)
    (case k_is_run => k_is)
    (case a_joined_ => k_is)
    (case l_joined => k_is)
    (case e_joined => k_is)
    (case k_joined => k_is)
    (case a_missing_ => k_is)
    (case l_missing => k_is)
    (case e_missing => k_is)
    (case k_missing => k_is)
    (case a_common_ => k_is)
    (case l_common => k_is)
    (case e_common => k_is)
    (case k_common => k_is)
    (case a_without_ => k_is)
    (case l_without => k_is)
    (case e_without => k_is)
    (case k_without => k_is)
    (case a_Spans_init__ => k_is)
    (case i_Spans_init_ => k_is)
    (case l_Spans_init_ => k_is)
    (case e_Spans_init_ => k_is)
    (case k_Spans_init_ => k_is)
    (case a_Spans_or__ => k_is)
    (case i_Spans_or_ => k_is)
    (case l_Spans_or_ => k_is)
    (case e_Spans_or_ => k_is)
    (case k_Spans_or_ => k_is)
    (case a_Spans_and__ => k_is)
    (case i_Spans_and_ => k_is)
    (case l_Spans_and_ => k_is)
    (case e_Spans_and_ => k_is)
    (case k_Spans_and_ => k_is)
    (case a_Spans_sub__ => k_is)
    (case i_Spans_sub_ => k_is)
    (case l_Spans_sub_ => k_is)
    (case e_Spans_sub_ => k_is)
    (case k_Spans_sub_ => k_is)
    (case a_Spans_contains__ => k_is)
    (case i_Spans_contains_ => k_is)
    (case l_Spans_contains_ => k_is)
    (case e_Spans_contains_ => k_is)
    (case k_Spans_contains_ => k_is)
    (case a_Spans_eq__ => k_is)
    (case i_Spans_eq_ => k_is)
    (case l_Spans_eq_ => k_is)
    (case e_Spans_eq_ => k_is)
    (case k_Spans_eq_ => k_is)
    (case a_Spans_len__ => k_is)
    (case i_Spans_len_ => k_is)
    (case l_Spans_len_ => k_is)
    (case e_Spans_len_ => k_is)
    (case k_Spans_len_ => k_is)
    (case a_Spans_rows_ => k_is)
    (case i_Spans_rows => k_is)
    (case l_Spans_rows => k_is)
    (case e_Spans_rows => k_is)
    (case k_Spans_rows => k_is)
    (case a_Spans_total_ => k_is)
    (case i_Spans_total => k_is)
    (case l_Spans_total => k_is)
    (case e_Spans_total => k_is)
    (case k_Spans_total => k_is)
    (case a_Spans_put_ => k_is)
    (case i_Spans_put => k_is)
    (case l_Spans_put => k_is)
    (case e_Spans_put => k_is)
    (case k_Spans_put => k_is)
    (case a_Spans_drop_ => k_is)
    (case i_Spans_drop => k_is)
    (case l_Spans_drop => k_is)
    (case e_Spans_drop => k_is)
    (case k_Spans_drop => k_is)
    (case a_Spans_holding_ => k_is)
    (case i_Spans_holding => k_is)
    (case l_Spans_holding => k_is)
    (case e_Spans_holding => k_is)
    (case k_Spans_holding => k_is)
    (case a__law_box_ => k_is)
    (case l__law_box => k_is)
    (case e__law_box => k_is)
    (case k__law_box => k_is)
    (case a__law_draw_ => k_is)
    (case l__law_draw => k_is)
    (case e__law_draw => k_is)
    (case k__law_draw => k_is)
    (case a__law_end_ => k_is)
    (case l__law_end => k_is)
    (case e__law_end => k_is)
    (case k__law_end => k_is)
    (case a__law_pair_ => k_is)
    (case l__law_pair => k_is)
    (case e__law_pair => k_is)
    (case k__law_pair => k_is)
    (case a__law_has_ => k_is)
    (case l__law_has => k_is)
    (case e__law_has => k_is)
    (case k__law_has => k_is)
    (case a__law_due_ => k_is)
    (case l__law_due => k_is)
    (case e__law_due => k_is)
    (case k__law_due => k_is)
    (case a__law_is_whole_ => k_is)
    (case l__law_is_whole => k_is)
    (case e__law_is_whole => k_is)
    (case k__law_is_whole => k_is)
    (case a__law_pairs_are_ => k_is)
    (case l__law_pairs_are => k_is)
    (case e__law_pairs_are => k_is)
    (case k__law_pairs_are => k_is)
    (case a__law_deed_ => k_is)
    (case l__law_deed => k_is)
    (case e__law_deed => k_is)
    (case k__law_deed => k_is)
    (case a__law_filled_ => k_is)
    (case l__law_filled => k_is)
    (case e__law_filled => k_is)
    (case k__law_filled => k_is)
    (case a__law_joined_has_ => k_is)
    (case l__law_joined_has => k_is)
    (case e__law_joined_has => k_is)
    (case k__law_joined_has => k_is)
    (case a__law_joined_due_ => k_is)
    (case l__law_joined_due => k_is)
    (case e__law_joined_due => k_is)
    (case k__law_joined_due => k_is)
    (case a__law_joined_ => k_is)
    (case l__law_joined => k_is)
    (case e__law_joined => k_is)
    (case k__law_joined => k_is)
    (case a__law_is_set_ => k_is)
    (case l__law_is_set => k_is)
    (case e__law_is_set => k_is)
    (case k__law_is_set => k_is)
    (case a__law_joins_ => k_is)
    (case l__law_joins => k_is)
    (case e__law_joins => k_is)
    (case k__law_joins => k_is)
    (case a__law_rebuilt_ => k_is)
    (case l__law_rebuilt => k_is)
    (case e__law_rebuilt => k_is)
    (case k__law_rebuilt => k_is)
    (case a__law_equals_ => k_is)
    (case l__law_equals => k_is)
    (case e__law_equals => k_is)
    (case k__law_equals => k_is)
    (case a_law_ => k_is)
    (case l_law => k_is)
    (case e_law => k_is)
    (case k_law => k_is)
    (case Kv_InvalidNumber => kit_is)
    (case rc_Spans => k_is)
    (case rm_Spans => k_is)
    (case ri_get => k_is)
    (case ri_tk => k_is)
    (case ki_Spans_Spans => kit_is)
    (case kb_NoneType => kit_is)
    (case kb_bool => kit_is)
    (case kb_int => kit_is)
    (case kb_str => kit_is)
    (case kb_tuple => kit_is)
    (case kb_list => kit_is)
    (case sf_Spans => k_is)
    (case nf_NoneType => k_is)
    (case nf_bool => k_is)
    (case nf_int => k_is)
    (case nf_str => k_is)
    (case nf_tuple => k_is)
    (case nf_list => k_is)
    (case sb_NoneType => k_is)
    (case sb_bool => k_is)
    (case sb_int => k_is)
    (case sb_str => k_is)
    (case sb_tuple => k_is)
    (case sb_list => k_is)
    (case z_NotImplemented => k_is)
    (case z_abs => k_is)
    (case z_bool => k_is)
    (case z_int => k_is)
    (case z_isinstance => k_is)
    (case z_len => k_is)
    (case z_list => k_is)
    (case z_max => k_is)
    (case z_min => k_is)
    (case z_range => k_is)
    (case z_sorted => k_is)
    (case z_sum => k_is)
    (case z_tuple => k_is)
    (case xm__InvalidNumber => decide +kernel)
