import PyProof.Rows.All
import Wide.All
import OpenK.AllK
import Wide.FinOn
import HandS.ForMost
import HandS.IsInst
import HandS.ClsMeth
import HandS.Codes
import HandS.Exc
import HandS.ExcOwn
import HandS.ExcInit
import HandS.ExcField
import HandS.ExcIs
import HandS.TryMany
import HandS.WordsExc
import HandS.CallSlots
import HandS.More
import KE.KExcIs
import KE.GoesEnum
import KE.GoesMore
import HandS.Defaults
import HandS.Property
import HandS.Zip
import HandS.Text
import HandS.Wide
import HandS.Star
import HandS.SortRule
import HandS.SortInts
import HandS.Flow
import HandS.More
import PySem.Challenge.RW_lossway_k08_spans_normal
set_option Elab.async false
set_option maxRecDepth 100000
namespace My
open PySem L2
set_option linter.all false

/-! ### an own `in` -/
section
variable {X : Cx} {CX : CXT} {k : Nat} {C g : Addr} {fd : FuncData} {ps : List Str} {sp : Sp} {E : XK}
def rOwnIn (C : Addr) (m : Bool → Bool) (sp : Sp) (E : XK) : R2 := fun x y H Q => ∃ a dx fs, y = .ref a ∧ H a = some (.ins C dx fs) ∧ sp [.ref a, x] H (fun v H' => ∃ b, v = .bl b ∧ Q (.bl (m b)) H') E
theorem op_notInOwn (mm : Meth X.K C "__contains__" g) (F : FnOk X.prog X.w X.K X.mg X.base CX k g fd ps sp) (hr : Room k X.A) (hb : Binds X.K fd ps []) (hx : Passes CX X E) : OpR X (compareOp .NotIn) (rOwnIn C not sp E) := by
  intro pins s σ H x y v u Q I rx ry h
  obtain ⟨a, dx, fs, rfl, ha, q⟩ := h
  cases (show u = Value.ref a from ry)
  obtain ⟨mA, O, _⟩ := ins_get I.hok ha
  obtain ⟨od, J, _⟩ := O.look
  obtain ⟨m, hF⟩ := I.fr
  refine PySem.W.notIn_K hF I.ok.mod.kin J mm.at_ mm.fn ?_
  refine wpAny_mono (run_fn (us := [.ref a, v]) (vs := [.ref a, x]) (ds := []) (dvs := []) F hr hb .nil hx I (.cons rfl (.cons rx .nil)) q) (fun w s' z => ?_) fun _ _ x => x
  obtain ⟨z', H', I', rz, b, eb, qz⟩ := z
  subst eb
  cases (show w = Value.bool b from rz)
  exact wpAny_truthy_bool ⟨.bl (!b), H', I', rfl, qz⟩
theorem op_inOwn (mm : Meth X.K C "__contains__" g) (F : FnOk X.prog X.w X.K X.mg X.base CX k g fd ps sp) (hr : Room k X.A) (hb : Binds X.K fd ps []) (hx : Passes CX X E) : OpR X (compareOp .In) (rOwnIn C id sp E) := by
  intro pins s σ H x y v u Q I rx ry h
  obtain ⟨a, dx, fs, rfl, ha, q⟩ := h
  cases (show u = Value.ref a from ry)
  obtain ⟨mA, O, _⟩ := ins_get I.hok ha
  obtain ⟨od, J, _⟩ := O.look
  obtain ⟨m, hF⟩ := I.fr
  refine PySem.W.in_K hF I.ok.mod.kin J mm.at_ mm.fn ?_
  refine wpAny_mono (run_fn (us := [.ref a, v]) (vs := [.ref a, x]) (ds := []) (dvs := []) F hr hb .nil hx I (.cons rfl (.cons rx .nil)) q) (fun w s' z => ?_) fun _ _ x => x
  obtain ⟨z', H', I', rz, b, eb, qz⟩ := z
  subst eb
  cases (show w = Value.bool b from rz)
  exact wpAny_truthy_bool ⟨.bl b, H', I', rfl, qz⟩
end

/-! ### heaps -/
/-- all that was tracked stands, but what is at a -/
def SameX (a : Addr) (H H' : Hp) : Prop := ∀ b o, b ≠ a → H b = some o → H' b = some o
theorem SameX.refl {a : Addr} {H : Hp} : SameX a H H := fun _ _ _ h => h
theorem SameX.trans {a : Addr} {H H1 H2 : Hp} (x : SameX a H H1) (y : SameX a H1 H2) : SameX a H H2 := fun b o n h => y b o n (x b o n h)
theorem SameX.upd {a : Addr} {H : Hp} {o : HO} : SameX a H (L2.upd H a o) := fun b _ n h => by
  rw [upd_ne n]
  exact h
theorem SameX.upd' {a : Addr} {H H1 : Hp} {o : HO} (x : SameX a H H1) : SameX a H (L2.upd H1 a o) := x.trans .upd
theorem SameX.of {a : Addr} {H H1 : Hp} (x : Same H H1) : SameX a H H1 := fun b o _ h => x b o h
theorem Same.new {H : Hp} {p : Addr} {o : HO} (h : H p = none) : Same H (upd H p o) := fun b u e => by
  rw [upd_ne (ne_of_none e h)]
  exact e
theorem SqL.now {K : PySem.W.Frag} {H : Hp} {a : Addr} {xs : List V} (h : H a = some (.lst xs)) : SqL K H a xs := SqL.of h

/-! ### the purse -/
/-- a purse's rows -/
def pur (c : Addr) (p r n s : Int) : List V := [.ref c, .int p, .int r, .int n, .int s]
structure Purse (a c : Addr) (H : Hp) : Prop where
  ex : ∃ (cs : List Int) (p : Nat) (r n s : Int), H a = some (.lst (pur c p r n s)) ∧ H c = some (.lst (cs.map V.int)) ∧ (∀ x ∈ cs, 0 ≤ x) ∧ p ≤ cs.length ∧ cs.length ≤ 63 ∧ 0 ≤ r ∧ 0 ≤ s ∧ s < 2147483647
theorem pur_ne {H : Hp} {a c c' : Addr} {p r n s : Int} {cs : List Int} (h : H a = some (.lst (pur c p r n s))) (h' : H c' = some (.lst (cs.map V.int))) : c' ≠ a := ne_of h' h (by
  intro e
  injection e with e
  cases cs with
  | nil => cases e
  | cons x r => injection e with e1 _; cases e1)
theorem lk1 {m f : Str} {v : V} (h : (m == f) = false) : List.lookup m [(f, v)] = none := by
  simp only [List.lookup, h]
theorem bl_t {p : Prop} [Decidable p] (h : p) : V.bl (decide p) = V.bl true := congrArg V.bl (decide_eq_true h)
theorem bl_f {p : Prop} [Decidable p] (h : ¬ p) : V.bl (decide p) = V.bl false := congrArg V.bl (decide_eq_false h)
theorem bln_t {p : Prop} [Decidable p] (h : p) : V.bl (!decide p) = V.bl false := by rw [decide_eq_true h]; rfl
theorem bln_f {p : Prop} [Decidable p] (h : ¬ p) : V.bl (!decide p) = V.bl true := by rw [decide_eq_false h]; rfl
theorem int_ne {a b : Int} (h : ¬ a = b) : ¬ V.int a = V.int b := fun e => h (V.int.inj e)
theorem int_eq {a b : Int} (h : a = b) : V.int a = V.int b := congrArg V.int h

theorem Purse.there {a c : Addr} {H : Hp} (P : Purse a c H) : (∃ xs, H a = some (.lst xs)) ∧ ∃ ys, H c = some (.lst ys) := by
  obtain ⟨cs, p, r, n, s, h1, h2, _⟩ := P.ex
  exact ⟨⟨_, h1⟩, _, h2⟩
/-- a purse stands where both of its lists stand -/
theorem Purse.keep {a c : Addr} {H H' : Hp} (P : Purse a c H) (h : H' a = H a) (h' : H' c = H c) : Purse a c H' := by
  obtain ⟨cs, p, r, n, s, h1, h2, q⟩ := P.ex
  exact ⟨cs, p, r, n, s, h.trans h1, h'.trans h2, q⟩
theorem Purse.same {a c : Addr} {H H' : Hp} (P : Purse a c H) (s : Same H H') : Purse a c H' := by
  obtain ⟨cs, p, r, n, z, h1, h2, q⟩ := P.ex
  exact ⟨cs, p, r, n, z, s _ _ h1, s _ _ h2, q⟩
theorem Purse.on {a c b : Addr} {H H' : Hp} (P : Purse a c H) (s : SameX b H H') (na : a ≠ b) (nc : c ≠ b) : Purse a c H' := by
  obtain ⟨cs, p, r, n, z, h1, h2, q⟩ := P.ex
  exact ⟨cs, p, r, n, z, s _ _ na h1, s _ _ nc h2, q⟩
theorem small1000' {n : Nat} (h : n < 100000) : n < sizeLine := Nat.lt_of_lt_of_le h (by decide)
theorem sqT_sm {K : PySem.W.Frag} {H H' : Hp} {a : Addr} {xs : List V} (h : SqT K H a xs) (s : Same H H') : SqT K H' a xs := by
  rcases h with (h | ⟨o, h⟩) | h
  · exact .inl (.inl (s _ _ h))
  · exact .inl (.inr ⟨o, s _ _ h⟩)
  · exact .inr h
/-! ### several except clauses, each with or without a name -/
section
open PySem.Spec PyProof.Rows
variable {X : Cx}
/-- a clause: its class, the slot of its name, its suite -/
abbrev Cl := Value × Option Nat × (Addr → Value → Option Addr → TS)
def unN (D : Ends) (i : Nat) : Ends := { nx := fun σ H => D.nx (σ.set i none) H, rt := D.rt, bk := fun σ H => D.bk (σ.set i none) H, ct := fun σ H => D.ct (σ.set i none) H }
def clGo (D : Ends) (o : Option Nat) (t : TS) (a : Addr) (σ : L2.St) (H : Hp) : Prop := match o with
  | none => t D σ H
  | some i => t (unN D i) (σ.set i (some (.ref a))) H
def wCl (K : PySem.W.Frag) (Wout : WX) (D : Ends) : List Cl → WX
  | [] => Wout
  | (c, o, ts) :: r => fun cls d σ H => ∃ b, PySem.W.exmOne K cls c = some b ∧ (b = true → ∀ a, H a = none → clGo D o (ts a cls d) a σ H) ∧ (b = false → wCl K Wout D r cls d σ H)
inductive ClOk (X : Cx) : List ExceptHandler → List Cl → Prop
  | nil : ClOk X [] []
  | bare {x : Str} {c : Value} {ts : Addr → Value → Option Addr → TS} {b0 : Stmt} {su : List Stmt} {np ps : Pos} {hs : List ExceptHandler} {l : List Cl} (nm : Names X x c)
      (ok : ∀ (a : Addr) (oe : Obj) (cls : Value) (d : Option Addr) (pn : List (Addr × Obj)), Zc cls d oe → (∃ vs, oe.data = .fields vs) → PSs (X.suite a ((a, oe) :: pn)) (b0 :: su) (ts a cls d)) (rest : ClOk X hs l) :
      ClOk X (.ExceptHandler (some (.Name x np)) none (b0 :: su) ps :: hs) ((c, none, ts) :: l)
  | named {x n : Str} {i : Nat} {c : Value} {ts : Addr → Value → Option Addr → TS} {b0 : Stmt} {su : List Stmt} {np ps : Pos} {hs : List ExceptHandler} {l : List Cl} (nd : X.N.Nodup) (hi : X.N[i]? = some n) (lc : X.env.kindOf n = some .local) (nm : Names X x c)
      (ok : ∀ (a : Addr) (oe : Obj) (cls : Value) (d : Option Addr) (pn : List (Addr × Obj)), Zc cls d oe → (∃ vs, oe.data = .fields vs) → PSs (X.suite a ((a, oe) :: pn)) (b0 :: su) (ts a cls d)) (rest : ClOk X hs l) :
      ClOk X (.ExceptHandler (some (.Name x np)) (some n) (b0 :: su) ps :: hs) ((c, some i, ts) :: l)
theorem ps_try_cl {body : List Stmt} {h0 : ExceptHandler} {hs : List ExceptHandler} {l : List Cl} {pos : Pos} {tb : WX → TS} {Wout : WX} (st : X.stack = X.env :: X.outer) (fr : X.env.frame = some X.env.locals) (tk : Takes X Wout)
    (hb : ∀ (W : WX) (pn : List (Addr × Obj)) (xe : Value → Shared → Prop), Takes (X.tr pn xe) W → PassesOwn (model X.prog X.w) X.A X.env xe → PSs (X.tr pn xe) body (tb W))
    (hh : ClOk X (h0 :: hs) l) : PS X (.Try body (h0 :: hs) [] [] pos) (fun D σ H => tb (wCl X.K Wout D l) D σ H) := by
  refine ⟨fun pins s σ H D I h => ?_⟩
  have ok := I.ok
  have frs0 : X.A.frames = some (X.env :: X.outer) := by
    rw [ok.frames, st]
  refine wpAny_Try_except (wpAny_mono ((hb (wCl X.K Wout D l) (X.pn ++ pins) (fun e t1 => wpAny (model X.prog X.w) X.A (noteFrame e X.env) (fun _ t2 =>
    wpAny (model X.prog X.w) X.A (setFlight e none) (fun _ t3 => wpAny (model X.prog X.w) X.A (handleBy e X.env (h0 :: hs)) (SP X pins D) X.xe t3) X.xe t2) X.xe t1)
      (fun u s' xx => ?_) PassesOwn.looking).run [] s σ H D (I.toTry _) h) (fun f s1 hsp => ?_) (fun _ _ z => z))
  · obtain ⟨a, B, sI, pins', σ', H', cls, d, rfl, J', nb, up, sky, na, os, ag, w⟩ := xx
    have J := J'.ofTry ok
    have sky2 : Sky B (X.env :: X.outer) a (Zc cls d) X.env.locals s'.heap := by
      rw [← st]
      exact sky
    refine Sky.land Zc.steady frs0 fr sky2 fun g1 fl1 up1 => ?_
    have J1 : Inv X pins σ' H' { s' with heap := g1 } := J.landed nb fl1.1 (up.trans up1) os ag
    obtain ⟨o1, vs1, at1, z1, dt1⟩ := fl1.there
    have off : a ∉ frs (X.env :: X.outer) := fun hm => by
      obtain ⟨_, o', e', hnf⟩ := fl1.2.2.1.mem hm
      rw [at1] at e'
      cases e'
      exact hnf _ dt1
    have offL : a ≠ X.env.locals := fun z => off (List.mem_filterMap.mpr ⟨X.env, List.mem_cons_self, by rw [fr, z]⟩)
    have offF : a ∉ X.fs := fun hm => by
      obtain ⟨e, he, q⟩ := List.mem_filterMap.mp hm
      exact off (List.mem_filterMap.mpr ⟨e, List.mem_cons_of_mem _ he, q⟩)
    have S1 := J1.suite at1 dt1 na offL offF
    have LT : PySem.W.Looks (model X.prog X.w) g1 (typeOf (.ref a)) cls := fun A Q E s k q => wpAny_typeOf_ref (k _ _ at1) (by rw [z1.1]; exact q)
    have ask : ∀ {x : Str} {np : Pos} {c : Value}, Names X x c → ∀ {Q : Value → Shared → Prop} {E : Value → Shared → Prop}, Q c { s' with heap := g1 } →
        wpAny (model X.prog X.w) (X.A.mark (some (.ref a))) (eval (.Name x np) X.env) Q E { s' with heap := g1 } := fun {x np c} nm {Q E} q => by
      obtain ⟨hg, hdb, h1 | ⟨h1, h2, h3⟩⟩ := nm
      · exact ld_glob (X := X.suite a ((a, o1) :: (X.pn ++ pins))) S1 hg h1 q hdb
      · exact ld_blt (X := X.suite a ((a, o1) :: (X.pn ++ pins))) S1 hg h1 h2 q h3 hdb
    have go : ∀ {hs' : List ExceptHandler} {l' : List Cl}, ClOk X hs' l' → wCl X.K Wout D l' cls d σ' H' → wpAny (model X.prog X.w) X.A (handleBy (.ref a) X.env hs') (SP X pins D) X.xe { s' with heap := g1 } := by
      intro hs' l' hk
      induction hk with
      | nil =>
        intro w
        refine wpAny_handleBy_nil ?_
        obtain ⟨_, _, _, oe, vs, Tr, _, _, he, hz, hd, h1, _⟩ := id fl1
        unfold PySem.passOn
        refine wpAny_bind (wpAny_field he hd h1 ?_)
        rw [if_neg (show ¬ ((Value.ref Tr == Value.none) = true) from by simp)]
        have last : wpAny (model X.prog X.w) X.A (setFlight (.ref a) X.env.frame) (fun _ t => wpAny (model X.prog X.w) X.A (throw (.ref a) : Sem Flow) (SP X pins D) X.xe t) X.xe { s' with heap := g1 } := by
          rw [fr]
          refine HandSPX.setFlight_upZ fl1 fun g2 hh2 up2 => wpAny_throw (tk _ _ ?_)
          exact ⟨a, B, sI, pins, σ', H', cls, d, rfl, J, nb, (up.trans up1).trans up2, .inr (.inr (by rw [st]; exact hh2)), na, os, ag, w⟩
        first
          | exact wpAny_bind (wpAny_pure (wpAny_bind last))
          | exact wpAny_bind last
      | bare nm su rest ih =>
        intro w
        obtain ⟨b, hb1, yes, no⟩ := w
        have LM := PySem.W.exm_one (M := model X.prog X.w) J1.kIn LT hb1
        refine wpAny_handleBy_cons (codeAny_handlers_test (ask nm (LM.here ?_))) (fun q => by cases q)
        cases b with
        | false => exact ih (no rfl)
        | true =>
          refine codeAny_handlers_suite (HandSPX.lands_againZ fl1 fun g2 fl2 up2 => ?_)
          have J2 : Inv X pins σ' H' { s' with heap := g2 } := J.landed nb fl2.1 ((up.trans up1).trans up2) os ag
          obtain ⟨o2, vs2, at2, z2, dt2⟩ := fl2.there
          refine wpAny_mono ((su a o2 cls d (X.pn ++ pins) z2 ⟨_, dt2⟩).run [] _ _ H' _ (J2.suite at2 dt2 na offL offF) (yes rfl a na)) (fun f t hsp => ?_) (fun _ _ z => z.elim)
          cases f with
          | ret u =>
            obtain ⟨v6, σ6, H6, S6, r6, q6⟩ := hsp
            exact ⟨_, _, _, S6.unsuite ok, r6, q6⟩
          | next => exact let ⟨_, _, S6, q6⟩ := hsp; ⟨_, _, S6.unsuite ok, q6⟩
          | brk => exact let ⟨_, _, S6, q6⟩ := hsp; ⟨_, _, S6.unsuite ok, q6⟩
          | cont => exact let ⟨_, _, S6, q6⟩ := hsp; ⟨_, _, S6.unsuite ok, q6⟩
      | named nd hi lc nm su rest ih =>
        intro w
        obtain ⟨b, hb1, yes, no⟩ := w
        have LM := PySem.W.exm_one (M := model X.prog X.w) J1.kIn LT hb1
        refine wpAny_handleBy_cons (codeAny_handlers_test (ask nm (LM.here ?_))) (fun q => by cases q)
        cases b with
        | false => exact ih (no rfl)
        | true =>
          refine codeAny_handlers_suite_as (HandSPX.lands_againZ fl1 fun g2 fl2 up2 => ?_)
          have J2 : Inv X pins σ' H' { s' with heap := g2 } := J.landed nb fl2.1 ((up.trans up1).trans up2) os ag
          obtain ⟨o2, vs2, at2, z2, dt2⟩ := fl2.there
          refine store_ok (X := X.suite a ((a, o2) :: (X.pn ++ pins))) (v := .ref a) (J2.suite at2 dt2 na offL offF) nd hi (.inl lc) rfl (fun t S5 => ?_) (.inr lc)
          refine wpAny_mono ((su a o2 cls d (X.pn ++ pins) z2 ⟨_, dt2⟩).run [] t _ H' _ S5 (yes rfl a na)) (fun f t6 hsp => ?_) (fun _ _ z => z.elim)
          cases f with
          | next =>
            obtain ⟨σ6, H6, S6, q6⟩ := hsp
            exact gone_ok (S6.unsuite ok) nd hi lc fun s7 J7 => ⟨_, _, J7, q6⟩
          | brk =>
            obtain ⟨σ6, H6, S6, q6⟩ := hsp
            exact gone_ok (S6.unsuite ok) nd hi lc fun s7 J7 => ⟨_, _, J7, q6⟩
          | cont =>
            obtain ⟨σ6, H6, S6, q6⟩ := hsp
            exact gone_ok (S6.unsuite ok) nd hi lc fun s7 J7 => ⟨_, _, J7, q6⟩
          | ret u =>
            obtain ⟨v6, σ6, H6, S6, r6, q6⟩ := hsp
            exact gone_ok (S6.unsuite ok) nd hi lc fun s7 J7 => ⟨_, _, _, J7, r6, q6⟩
    exact go hh w
  · cases f with
    | ret u => exact let ⟨v, σ', H', J', r, q⟩ := hsp; ⟨v, σ', H', J'.ofTry ok, r, q⟩
    | next =>
      obtain ⟨σ', H', J', q⟩ := hsp
      exact wpAny_execs_nil ⟨σ', H', J'.ofTry ok, q⟩
    | brk => exact let ⟨σ', H', J', q⟩ := hsp; ⟨σ', H', J'.ofTry ok, q⟩
    | cont => exact let ⟨σ', H', J', q⟩ := hsp; ⟨σ', H', J'.ofTry ok, q⟩
end
/-! ### own exceptions -/
/-- what the written part says of an own exception class: the class at C, its __init__ at f -/
structure XCls (K : PySem.W.Frag) (mg : Str → Option Value) (nm : Str) (C f : Addr) : Prop where
  g : mg nm = some (.ref C)
  o : OexC K C
  i : PySem.W.findIn K (.ref C) "__init__" = some (some (.ref f))
  t : PySem.W.typeIn K (.ref f) = some (.type "function")
  x : XfC K C
  e : ExcC K C
theorem xcls_mk {K : PySem.W.Frag} {mg : Str → Option Value} {nm : Str} {C f : Addr} {n q : Str} {N : Addr} {bs bm : List Value} {sn : List Str} {sub : List Value} {ab : Bool} {col : _} {dd : Option Addr} {k0 k1 k2 k3 k5 : Option Value}
    (g : mg nm = some (.ref C)) (l : K.lookup C = some (excClassObj n q C N bs bm true sn sub ab col dd k0 k1 k2 k3 k5 "ValueError.__new__")) (bm' : PySem.HandSPX.refsVE bm = true) (sa : PySem.W.findIn K (.ref C) "__setattr__" = some (some (.builtin "object.__setattr__")))
    (ex : PySem.W.subIn K (.ref C) (.type "BaseException") = some true) (ty : PySem.W.typeIn K (.ref C) = some (.type "type")) (kp : PySem.W.keepIn K (.ref C) = true) (i : PySem.W.findIn K (.ref C) "__init__" = some (some (.ref f)))
    (t : PySem.W.typeIn K (.ref f) = some (.type "function")) (ga : PySem.W.findIn K (.ref C) "__getattribute__" = some (some (.builtin "BaseException.__getattribute__"))) (gg : PySem.W.findIn K (.ref C) "__getattr__" = some none) (hd : PySem.W.hasDictIn K C = true)
    (ha : PySem.W.findIn K (.ref C) "__class__" = some (some (.builtin "object.__class__"))) (hn : PySem.W.specialIn K (.builtin "object.__class__") "__get__" = some (some (.builtin "getset_descriptor.__get__")))
    (ht : PySem.W.takesIn K (.builtin "object.__class__") = some true) (hm : PySem.W.mroIn K C (.type "object") = some true) : XCls K mg nm C f :=
  ⟨g, ⟨⟨n, q, N, bs, bm, sn, sub, ab, col, dd, k0, k1, k2, k3, k5, l, bm'⟩, sa, ex, ty, kp⟩, i, t, ⟨ga, gg, ex, hd⟩, ⟨ga, gg, ex, hd, ha, hn, ht, hm⟩⟩
/-- __init__ of such a class: one field is stored -/
def sp_xinit (K : PySem.W.Frag) (f : Str) : Sp := fun vs H Q _ => ∃ (a C : Addr) (v : V), vs = [.ref a, v] ∧ OexC K C ∧ PySem.W.findIn K (.ref C) f = some none ∧ H a = some (exo a C none) ∧
  ∀ dx, H dx = none → dx ≠ a → Q .non (upd (upd H dx (exd dx [(f, v)])) a (exo a C (some dx)))
/-- raise C(v): what follows holds wherever the new error's dict is told, all else standing -/
theorem mkO_of {K : PySem.W.Frag} {f : Str} {C : Addr} {v : V} {H : Hp} {E : XK} (O : OexC K C) (hn : PySem.W.findIn K (.ref C) f = some none) (k : ∀ d H', H d = none → Same H H' → H' d = some (.xd [(f, v)]) → E (.ref C) (some d) H') :
    [v].length ≤ 1000 ∧ ∀ a, H a = none → sp_xinit K f (.ref a :: ([v] ++ [])) (upd H a (exo a C none))
      (fun w H2 => w = .non ∧ ∃ (d : Addr) (fs : List (Str × V)), H2 a = some (exo a C (some d)) ∧ H2 d = some (exd d fs) ∧ H d = none ∧ E (.ref C) (some d) (upd (del H2 a) d (.xd fs))) (fun _ _ _ => False) := by
  refine ⟨Nat.succ_le_succ (Nat.zero_le _), fun a ha => ⟨a, C, v, rfl, O, hn, upd_same, fun dx hdx ne => ⟨rfl, dx, [(f, v)], upd_same, ?_, ?_, ?_⟩⟩⟩
  · rw [upd_ne ne]
    exact upd_same
  · rw [upd_ne ne] at hdx
    exact hdx
  · have hdx0 : H dx = none := by
      rw [upd_ne ne] at hdx
      exact hdx
    refine k dx _ hdx0 (fun b o e => ?_) upd_same
    have nb : b ≠ dx := ne_of_none e hdx0
    have na : b ≠ a := ne_of_none e ha
    rw [upd_ne nb, del_ne na, upd_ne na, upd_ne nb, upd_ne na]
    exact e
section
variable {X : Cx} {a : Addr} {oe : Obj} {cls : Value} {d : Option Addr} {pn : List (Addr × Obj)} {n : Str}
/-- e.n in a suite, e of whichever class it is -/
def tXg (K : PySem.W.Frag) (a : Addr) (cls : Value) (d : Option Addr) (f : Str) (te : TE) : TE := fun σ H Q => te σ H fun x H1 => x = .ref a ∧ ∃ (C dd : Addr) (fs : List (Str × V)) (v : V), cls = .ref C ∧ XfC K C ∧ PySem.W.findIn K (.ref C) f = some none ∧ d = some dd ∧ H1 dd = some (.xd fs) ∧ fs.lookup f = some v ∧ Q v H1
theorem pe_xg {e : Expr} {te : TE} {pos : Pos} (hz : Zc cls d oe) (hf : ∃ vs, oe.data = .fields vs) (he : PE (X.suite a ((a, oe) :: pn)) e te)
    (hb : attributeBase e n X.env (eval e X.env) = eval e X.env := by rfl) : PE (X.suite a ((a, oe) :: pn)) (.Attribute e n pos) (tXg X.K a cls d n te) := by
  refine ⟨fun pins s σ H Q I h => ?_⟩
  refine attr_of hb (thn (he.run pins s σ H _ I h) fun u s1 hh => ?_)
  obtain ⟨x, H1, I1, rx, ex, C, dd, fs, v, ec, T, hno, ed, ea, l, q⟩ := hh
  subst ex ec ed
  obtain rfl : u = Value.ref a := rx
  obtain ⟨mA, hns, hr⟩ := (show ObjOk X.prog X.w H1 s1.heap dd (.xd fs) from I1.hok dd _ ea)
  obtain ⟨od, ho, hl⟩ := lookIn_ns hns
  obtain ⟨u, hu, ru⟩ := RelO.some_of (v := v) (o := mA n) (by rw [← l]; exact hr n)
  obtain ⟨vs, hv⟩ := hf
  have J : PySem.W.InstAt s1.heap a oe C (some od) := ⟨(I1.pin (a, oe) (List.mem_append_left _ List.mem_cons_self)).1, hz.1, by unfold PySem.W.notCls; rw [hv] <;> rfl, by rw [hz.2]; exact ho⟩
  exact PySem.HandSPX.exc_get I1.kIn J T.ga T.gg T.exC (PySem.W.findObj_own T.hdC hno rfl (by rw [hl, hu])) (handed_of ru) ⟨v, H1, I1.tok _, ru, q⟩
/-- isinstance(e, c) in a suite -/
def rIsX (K : PySem.W.Frag) (a : Addr) (cls : Value) (d : Option Addr) : List V → Hp → VK → Prop := fun xs H Q => ∃ (c : V) (cv : Value) (b : Bool) (D dd : Addr) (fs : List (Str × V)), xs = [.ref a, c] ∧ (∀ u, RelV c u → u = cv) ∧ cls = .ref D ∧ ExcC K D ∧ d = some dd ∧ H dd = some (.xd fs) ∧
  PySem.W.kitOne K (.ref D) cv = some b ∧ Q (.bl b) H
theorem call_isX (hz : Zc cls d oe) (hf : ∃ vs, oe.data = .fields vs) : CallR (X.suite a ((a, oe) :: pn)) (.builtin "isinstance") (rIsX X.K a cls d) := by
  intro pins s σ H xs us Q I r h
  obtain ⟨c, cv, b, D, dd, fs, rfl, hcv, ec, C, ed, ea, e, q⟩ := h
  subst ec ed
  obtain ⟨u1, u2, rfl, r1, r2⟩ := vals2 r
  cases (show u1 = Value.ref a from r1)
  cases (hcv _ r2)
  obtain ⟨mA, hns, hr⟩ := (show ObjOk X.prog X.w H s.heap dd (.xd fs) from I.hok dd _ ea)
  obtain ⟨od, ho, hl⟩ := lookIn_ns hns
  obtain ⟨vs, hv⟩ := hf
  have J : PySem.W.InstAt s.heap a oe D (some od) := ⟨(I.pin (a, oe) (List.mem_append_left _ List.mem_cons_self)).1, hz.1, by unfold PySem.W.notCls; rw [hv] <;> rfl, by rw [hz.2]; exact ho⟩
  obtain ⟨cd, hc, _⟩ := PySem.W.any_some C.hd
  exact PySem.W.kia_one (PySem.W.kitx_exc (by rw [hc]; rfl) C.hg C.hk C.hs C.ha C.hn C.ht C.hm) I.kIn J e (fun z => nomatch z) fun tk => ⟨.bl b, H, I.tok tk, rfl, q⟩
end
section
variable {X : Cx} {CX' : CXT} {k : Nat} {f C : Addr} {fd : FuncData} {ps : List Str} {sp : Sp} {E : St → XK} {x m : Str} {p pos apos : Pos} {e o : Expr} {es : List Expr} {ta : TE} {t : TA}
/-- o.m(..), what it lets out wished for at the caller's slots -/
def tMethX (C : Addr) (m : Str) (sp : Sp) (E : St → XK) (ta : TE) (t : TA) : TE := fun σ H Q => ta σ H fun x H1 => ∃ a dx fs, x = .ref a ∧ H1 a = some (.ins C dx fs) ∧ fs.lookup m = none ∧ t σ H1 fun vs H2 => sp (x :: vs) H2 Q (E σ)
theorem pe_methX {pl : Sem Bool} (he : PE X o ta) (c : Cls X.K C) (hm : Meth X.K C m f) (F : FnOk X.prog X.w X.K X.mg X.base CX' k f fd ps sp) (hr : Room k X.A) (hb : Binds X.K fd ps []) (hx : ∀ σ, PassesAt CX' X σ (E σ)) (ha : PA X (e :: es) t)
    (hst : starEach (e :: es) X.env = (false, eval e X.env) :: starEach es X.env := by rfl) (hpl : (PySem.backTo pos (starEach es X.env)).any (·.1) = false := by rfl)
    (ht : eval (.Call (.Attribute o m apos) (e :: es) [] pos) X.env = (eval o X.env >>= fun ov => standAt apos.atName >>= fun _ => holding [ov] (getMethod ov m pl) >>= fun fr => callWith pos fr.1 fr.2 (PySem.backTo pos (starEach (e :: es) X.env)) (backToKw pos (keywordEach [] X.env))) := by rfl) :
    PE X (.Call (.Attribute o m apos) (e :: es) [] pos) (tMethX C m sp E ta t) := by
  refine ⟨fun pins s σ H Q I h => ?_⟩
  refine PySem.W.methodCall_KW (pl := pl) (thn (he.run pins s σ H _ I h) fun u s1 ⟨x, H1, I1, rx, a, dx, fs, ex, ea, l, q⟩ => ?_) ht
  subst ex
  obtain rfl : u = Value.ref a := rx
  refine getmeth_ok I1 ea c hm l ?_
  refine PySem.W.callWith_K (h₀ := X.base) I1.ok.mod.kin hm.kp (thn (ha.run pos pins s1 σ H1 _ I1 q) fun us s2 ⟨vs, H2, I2, r, q2⟩ => ⟨I2.kIn, ?_⟩) hst hpl
  exact run_fnS (us := .ref a :: us) (vs := .ref a :: vs) F hr hb (hx σ) I2 (.cons rfl r) q2
end
/-- a class that is only named -/
structure GCls (mg : Str → Option Value) (nm : Str) (C : Addr) : Prop where
  g : mg nm = some (.ref C)
/-- what a callee lets out, whatever the slots hold -/
def anyW (n : Nat) (W : WX) : XK := fun cls d H => ∀ σ : L2.St, σ.length = n → W cls d σ H
theorem passes_any {X : Cx} {W : WX} (n : Nat) (tk : Takes X W) (hn : X.N.length = n := by rfl) : Passes (L2.CX X.prog X.w) X (anyW n W) :=
  fun _ σ _ _ e s' I c => tk e s' (XE.of_call I (fun cls d H' h => h σ (I.len.trans hn)) c)
/-! ### defs that ask for a text of data: nothing is being shown meanwhile -/
section
open PySem.Spec PyProof.Rows
section
variable {P : Program} {w : World} {K : PySem.W.Frag} {mg : Str → Option Value} {base : Heap}
/-- a def's promise, wanted only while no repr is under way -/
structure FnStill (P : Program) (w : World) (K : PySem.W.Frag) (mg : Str → Option Value) (base : Heap) (k : Nat) (f : Addr) (fd : FuncData) (ps : List Str) (sp : Sp) : Prop where
  count : ∀ vs H Q E, sp vs H Q E → vs.length = ps.length
  go : ∀ (A : Around) (outer : List Env) (s : Shared) (H : Hp) (args : Args) (us : List Value) (vs : List V) (Q : VK) (E : XK), A.guards = some [] → Room k A → Env0 P w K mg base A outer s H →
    BindsTo s fd args (ps.zip us) → Vals vs us → sp vs H Q E → codeAny (model P w) A (.call (.ref f) args) (CR CX0 outer P w H s Q E) s
theorem still_fn {x qual : Str} {st : Stmt} {f : Addr} {fd : FuncData} {N ps : List Str} {k : Nat} {sp : Sp} (F : Fun K x qual st f fd) (S : FnScope N ps (defScope st)) (cnt : ∀ vs H Q E, sp vs H Q E → vs.length = ps.length)
    (bod : ∀ (cdv : Value) (A : Around) (outer : List Env) (s : Shared) (H : Hp) (vs : List V) (Q : VK) (E : XK), A.guards = some [] → Room k (A.deeper (envOfC qual (defScope st) s.heap.objs.size f cdv)) → sp vs H Q E →
      ∃ t, PSs (cxOf CX0 P w K mg base N qual (defScope st) f cdv A outer s H E).nox (defBody st) t ∧ t { nx := fun _ H' => Q .non H', rt := Q } (start N vs) H) : FnStill P w K mg base (k + 1) f fd ps sp := by
  obtain ⟨oc, od, kV, doc, pm, an, cdv, ct, osl, rfl, lk, hcd⟩ := F.ex
  refine ⟨cnt, fun A outer s H args us vs Q E still room e0 bnd rv want => ?_⟩
  have kin : K.In s.heap := e0.mod.kin.keeps fun b o hb => (e0.bs b o hb).1
  have limit : s.heap.NoLimit := e0.mod.nolimit.keeps fun b o hb => (e0.bs b o hb).1
  have param : ∀ y ∈ ps.zip us, (defScope st).names.lookup y.1 = some .local ∨ ((defScope st).names.lookup y.1 = some .cell ∧ ((cellsFrom (s.heap.objs.size + 1) (defScope st).names []).lookup y.1).isSome = true) := by
    rintro ⟨n, v⟩ hy
    refine (S.par n (List.of_mem_zip hy).1).imp id fun c => ⟨c, PySem.W.cellsFrom_some _ _ _ (.inl c)⟩
  refine codeAny_call_function room.depth (kin _ _ lk) rfl S.co S.gen rfl (PySem.W.codeRec_of kin hcd) (bnd _ _ _ _ (wpAny_newFunctionEnv_cells S.kind param fun env he s1 x => ?_))
  subst he
  refine ⟨limit.keeps x.toInCall.keep, codeAny_func ?_⟩
  obtain ⟨t, ht, hq⟩ := bod cdv A outer s H vs Q E still (room.deeper _) want
  refine wpAny_mono (ht.nox.run [] s1 (start N vs) H _ (inv_start S room.hd e0 (cnt _ _ _ _ want) rv x) hq) (fun fl s' hs => ?_) fun _ _ z => z
  cases fl with
  | ret u => exact let ⟨v, _, H', J, rr, q⟩ := hs; ⟨v, H', J.os, J.bare, J.base, J.hok, rr, q⟩
  | next => exact let ⟨_, H', J, q⟩ := hs; ⟨V.non, H', J.os, J.bare, J.base, J.hok, rfl, q⟩
  | brk => exact let ⟨_, _, _, q⟩ := hs; False.elim q
  | cont => exact let ⟨_, _, _, q⟩ := hs; False.elim q
end
section
variable {X : Cx} {k : Nat} {f : Addr} {fd : FuncData} {ps : List Str} {sp : Sp} {dvs : List V} {ds : List Value} {E : XK} {x : Str} {p pos : Pos} {e : Expr} {es : List Expr} {t : TA}
/-- f(e, ..) of such a def -/
theorem pe_still (still : X.A.guards = some []) (F : FnStill X.prog X.w X.K X.mg X.base k f fd ps sp) (hr : Room k X.A) (hg : Gl X x) (hm : X.mg x = some (.ref f)) (hk : PySem.W.keepIn X.K (.ref f) = true) (hb : Binds X.K fd ps ds) (hd : Vals dvs ds) (hx : Passes CX0 X E)
    (ha : PA X (e :: es) t) (hdb : (x == ("__debug__" : Str)) = false := by decide) (he : starEach (e :: es) X.env = (false, eval e X.env) :: starEach es X.env := by rfl) (hpl : (backTo pos (starEach es X.env)).any (·.1) = false := by rfl) :
    PE X (.Call (.Name x p) (e :: es) [] pos) (tCall sp dvs E t) := by
  refine ⟨fun pins s σ H Q I h => wpAny_Call_Name_kw (ld_glob I hg hm ?_ hdb)⟩
  refine PySem.W.callWith_K (h₀ := X.base) I.ok.mod.kin hk (thn (ha.run pos pins s σ H _ I h) fun us s1 ⟨vs, H1, I1, rv, q⟩ => ⟨I1.kIn, ?_⟩) he hpl
  have both : Vals (vs ++ dvs) (us ++ ds) := rv.append hd
  have many : (us ++ ds).length = ps.length := both.length ▸ F.count _ _ _ _ q
  refine wpAny_call (codeAny_mono (F.go X.A X.stack s1 H1 ⟨us, []⟩ (us ++ ds) (vs ++ dvs) Q E still hr I1.env0 (hb s1 us I1.kIn many) both q) fun r s' hq => ?_)
  rcases r with er | fl
  · exact hx pins σ H1 s1 _ s' I1 hq
  · cases fl with
    | ret u => exact I1.after hq
    | next => exact hq.elim
    | brk => exact hq.elim
    | cont => exact hq.elim
end
/-- the law's def from the claim's caller: nothing is being shown there -/
theorem still_core {P : Program} {w : World} {K : PySem.W.Frag} {mg mb : Str → Option Value} {k : Nat} {fa a : Addr} {fd : FuncData} {x : Str} {sp : Sp} {s₁ : Shared} {vs : List Value} {H : Hp}
    (KX : K.In s₁.heap) (hns : s₁.heap.Ns mainGlobals mg) (hb : s₁.heap.Ns builtinsNs mb) (hbb : ∀ x : Str, x ≠ "__name__" → mb x = bootBuiltins x) (hlim : s₁.heap.NoLimit) (hg : s₁.gens = #[]) (ha : s₁.heap.get? a = some { cls := .type "list", data := .seq vs.toArray }) (hr : Room k callerA)
    (F : ∀ base : Heap, K.In base → base.Ns mainGlobals mg → FnStill P w K mg base k fa fd [x] sp) (hbind : ∀ (s : Shared) (u : Value), BindsTo s fd ⟨[u], []⟩ [(x, u)]) (hO : Only H) (hok : HOk P w H s₁.heap) (hA : ∀ b, b ≠ a → H b = none) (hK : H a ≠ none → K.lookup a = none)
    (hsp : sp [.ref a] H (fun v _ => v = .bl true) fun _ _ _ => False) (hCX : ∀ e s', CX0 [] H s₁ (fun _ _ _ => False) e s' → False) :
    codeAny (model P w) callerA (.call (.ref fa) ⟨[.ref a], []⟩) (fun r s' => r = .ok (.ret (.bool true)) ∧ OldK s₁.heap s'.heap ∧ s'.os = s₁.os ∧ AllBare s'.gens) s₁ := by
  have free : ∀ {b : Addr} {o : Obj}, s₁.heap.get? b = some o → (b = a → H a = none) → (hidT s₁.heap H).get? b = some o := fun {b o} hb z => hidT_get hb (by
    by_cases q : b = a
    · rw [q]
      exact z q
    · exact hA b q)
  have nm : ∀ {b : Addr} {m : Str → Option Value}, s₁.heap.Ns b m → (hidT s₁.heap H).Ns b m := by
    rintro b m ⟨o, es, ep, hb, d, rr⟩
    refine ⟨o, es, ep, free hb fun q => ?_, d, rr⟩
    subst q
    rw [ha] at hb
    cases hb
    cases (show Data.seq vs.toArray _ = Data.dict es ep from d)
  have kb : K.In (hidT s₁.heap H) := fun b o hb => free (KX b o hb) fun q => by
    subst q
    refine Classical.byContradiction fun z => ?_
    rw [hK z] at hb
    cases hb
  obtain ⟨mc, c1, c2⟩ := hlim
  have e0 : Env0 P w K mg (hidT s₁.heap H) callerA [] s₁ H := ⟨rfl, ⟨kb, nm hns, ⟨mb, nm hb, hbb⟩, ⟨mc, nm c1, c2⟩⟩, fun b o hb => of_hidT hb, Nat.le_of_eq (hidT_size _ _), trivial, fun b z => (List.not_mem_nil z).elim, hok, .of_eq hg⟩
  refine codeAny_mono ((F _ kb (nm hns)).go callerA [] s₁ H ⟨[.ref a], []⟩ [.ref a] [.ref a] _ _ rfl hr e0 (hbind s₁ (.ref a)) (.cons rfl .nil) hsp) fun r s' h => ?_
  rcases r with er | fl
  · exact (hCX er s' h).elim
  cases fl with
  | next => exact h.elim
  | brk => exact h.elim
  | cont => exact h.elim
  | ret u =>
    obtain ⟨v, H', os, bare, un, hok', rr, q⟩ := h
    obtain rfl : v = .bl true := q
    cases (show u = Value.bool true from rr)
    refine ⟨rfl, OldK.of_keep fun b o hb => ?_, os, bare⟩
    rcases hO b with z | ⟨ob, xs, z⟩
    · exact un.keep b o hb z (fun y => (List.not_mem_nil y).elim) List.not_mem_nil
    · have was := (hok b _ z).1
      rw [hb] at was
      cases was
      exact (hok' b _ (un.frzs b _ _ z)).1
theorem still_law {P : Program} {w : World} {K : PySem.W.Frag} {mg mb : Str → Option Value} {k : Nat} {fa a : Addr} {fd : FuncData} {x : Str} {sp : Sp} {s₁ : Shared} {vs : List Value} {ns : List Int}
    (KX : K.In s₁.heap) (hns : s₁.heap.Ns mainGlobals mg) (hb : s₁.heap.Ns builtinsNs mb) (hbb : ∀ x : Str, x ≠ "__name__" → mb x = bootBuiltins x) (hlim : s₁.heap.NoLimit) (hg : s₁.gens = #[]) (ha : s₁.heap.get? a = some { cls := .type "list", data := .seq vs.toArray }) (hi : IntsAre vs ns) (hl : ns.length ≤ sizeLine) (hr : Room k callerA)
    (F : ∀ base : Heap, K.In base → base.Ns mainGlobals mg → FnStill P w K mg base k fa fd [x] sp) (hbind : ∀ (s : Shared) (u : Value), BindsTo s fd ⟨[u], []⟩ [(x, u)])
    (hsp : ∀ H : Hp, Only H → SqL K H a (ns.map V.int) → sp [.ref a] H (fun v _ => v = .bl true) fun _ _ _ => False) (hCX : ∀ H e s', CX0 [] H s₁ (fun _ _ _ => False) e s' → False) :
    codeAny (model P w) callerA (.call (.ref fa) ⟨[.ref a], []⟩) (fun r s' => r = .ok (.ret (.bool true)) ∧ OldK s₁.heap s'.heap ∧ s'.os = s₁.os ∧ AllBare s'.gens) s₁ := by
  rcases hk : K.lookup a with _ | o
  · have now : ∀ b u, (fun b => if b = a then some (HO.frz { cls := .type "list", data := .seq vs.toArray } (.lst (ns.map V.int))) else none) b = some u → b = a ∧ u = HO.frz { cls := .type "list", data := .seq vs.toArray } (.lst (ns.map V.int)) := fun b u z => by
      dsimp only at z
      split at z
      · rename_i q
        exact ⟨q, (Option.some.inj z).symm⟩
      · cases z
    refine still_core (H := fun b => if b = a then some (.frz { cls := .type "list", data := .seq vs.toArray } (.lst (ns.map V.int))) else none) KX hns hb hbb hlim hg ha hr F hbind (fun b => ?_) (fun b u z => ?_) (fun b z => if_neg z) (fun _ => hk) (hsp _ (fun b => ?_) (.inl (.inr ⟨_, if_pos rfl⟩))) (hCX _)
    · exact (Classical.em (b = a)).elim (fun q => .inr ⟨_, _, if_pos q⟩) fun q => .inl (if_neg q)
    · obtain ⟨rfl, rfl⟩ := now b u z
      exact ⟨ha, by rw [List.length_map]; exact hl, vs, _, vals_ints hi, ha⟩
    · exact (Classical.em (b = a)).elim (fun q => .inr ⟨_, _, if_pos q⟩) fun q => .inl (if_neg q)
  · have at_ := KX a o hk
    rw [ha] at at_
    cases at_
    refine still_core (H := fun _ => none) KX hns hb hbb hlim hg ha hr F hbind (fun _ => .inl rfl) (fun b u z => nomatch z) (fun _ _ => rfl) (fun z => (z rfl).elim) (hsp _ (fun _ => .inl rfl) (.inr ⟨_, vs.toArray, _, hk, rfl, rfl, rfl, ?_, ?_⟩)) (hCX _)
    · rw [List.size_toArray, hi.length]
      exact hl
    · simpa using vals_ints hi
theorem still_walk {l : PySem.W.OpenLaw} {n k : Nat} {q : Program} {loose : List Str} {XP : (Str → Option Value) → Heap → Prop} {YP : World → Heap → Prop} {d : DefRec} {K : Params → PySem.W.Frag} {sp : World → Sp} {x : Str}
    (hn : l.most = some n) (hn2 : n ≤ sizeLine) (hdf : d.params.defaults = []) (hr : Room k callerA) (hY : ∀ (w : World) (h : Heap), YP w h → (K w.params).In h)
    (F : ∀ (w : World) (mg : Str → Option Value) (fa : Addr) (h : Heap), (K w.params).In h → h.Ns mainGlobals mg → mg d.name = some (.ref fa) → ∃ fd : FuncData, (∀ (s : Shared) (u : Value), BindsTo s fd ⟨[u], []⟩ [(x, u)]) ∧
      ∀ base : Heap, (K w.params).In base → base.Ns mainGlobals mg → FnStill l.prog w (K w.params) mg base k fa fd [x] (sp w))
    (hsp : ∀ (w : World) (H : Hp) (a : Addr) (ns : List Int), ns.length ≤ n → Only H → SqL (K w.params) H a (ns.map V.int) → sp w [.ref a] H (fun v _ => v = .bl true) fun _ _ _ => False)
    (hCX : ∀ (H : Hp) (s : Shared) (e : Value) (s' : Shared), CX0 [] H s (fun _ _ _ => False) e s' → False) : PySem.W.WalkO q loose XP YP l.row.toRowW d [] (fun f vs => PySem.call f vs) := by
  refine Att.attach_call hn hdf fun w s₀ s₁ mg mb fa o pm cd doc a vs ns G Y ho hd hcd hmg hobj hints many gs => ?_
  obtain ⟨fd, bnd, hF⟩ := F w mg fa _ (hY w _ Y) G.T.g hmg
  exact still_law (hY w _ Y) G.T.g G.T.b G.T.builtins G.T.nolimit gs hobj hints (Nat.le_trans many hn2) hr hF bnd (fun H hO hS => hsp w H a ns many hO hS) fun H e s' => hCX H s₁ e s'
/-! ### the text of data -/
section
variable {X : Cx}
/-- repr(x) of data: its own text, nothing changed -/
def rRepr (K : PySem.W.Frag) : List V → Hp → VK → Prop := fun xs H Q => ∃ (a : Addr) (d : PyData), xs = [.ref a] ∧ Dp K H (.ref a) d ∧ d.showable = true ∧ d.hasDict = false ∧ d.depth ≤ 100 ∧ d.shown.length ≤ sizeLine ∧ Q (.str d.shown) H
theorem call_repr (still : X.A.guards = some []) (un : X.A.units + 150 < cLine) : CallR X (.builtin "repr") (rRepr X.K) := by
  intro pins s σ H xs us Q I rv h
  obtain ⟨a, d, rfl, hd, sh, nd, dp, sz, q⟩ := h
  rcases rv with _ | ⟨r1, r2⟩
  cases r2
  cases r1
  obtain ⟨as, hr⟩ := Dp.reads I d _ _ hd rfl
  exact repr_of_reads' hr sh (fun z => by rw [nd] at z; cases z) still (by omega) (fun _ _ z => z) (fun h' u tk keep => ⟨.str d.shown, H, I.kept keep, ⟨u, rfl⟩, q⟩) sz
end
end
/-! ### defs with a star parameter -/
section
open PySem.Spec PyProof.Rows
structure StarB (fd : FuncData) (ps : List Str) (pv : Str) : Prop where
  b : ∀ us rest : List Value, us.length = ps.length → bindArgs fd ⟨us ++ rest, []⟩ = (newTuple rest >>= fun t => pure (ps.zip us ++ [(pv, t)]))
def starSp (n : Nat) (sp : Sp) : Sp := fun vs H Q E => ∃ ws rest, vs = ws ++ rest ∧ ws.length = n ∧ rest.length ≤ sizeLine ∧ ∀ p, H p = none → sp (ws ++ [V.ref p]) (upd H p (.tup rest)) Q E
variable {P : Program} {w : World} {K : PySem.W.Frag} {mg : Str → Option Value} {base : Heap} {x qual : Str} {st : Stmt} {f : Addr} {fd : FuncData} {N ps : List Str} {pv : Str} {k : Nat} {sp : Sp}
theorem okStar (F : Fun K x qual st f fd) (B : StarB fd ps pv) (S : FnScope N (ps ++ [pv]) (defScope st))
    (hbody : ∀ (cdv : Value) (A : Around) (outer : List Env) (s : Shared) (H : Hp) (vs : List V) (Q : VK) (E : XK), Room k (A.deeper (envOfC qual (defScope st) s.heap.objs.size f cdv)) → sp vs H Q E →
      ∃ t, PSs (cxOf CX0 P w K mg base N qual (defScope st) f cdv A outer s H E).nox (defBody st) t ∧ t { nx := fun _ H' => Q .non H', rt := Q } (start N vs) H) : FnR P w K mg base CX0 (k + 1) f (starSp ps.length sp) := by
  obtain ⟨oc, od, kV, doc, pm, an, cdv, ct, osl, rfl, lk, hcd⟩ := F.ex
  refine StX.fn_star lk hcd S StX.cxUp_none B.b fun A outer s H vs Q E hr hsp => ?_
  obtain ⟨t, h, q⟩ := hbody cdv A outer s H vs Q E hr hsp
  exact ⟨t, h.nox, q⟩
theorem okStarX (F : Fun K x qual st f fd) (B : StarB fd ps pv) (S : FnScope N (ps ++ [pv]) (defScope st))
    (hbody : ∀ (cdv : Value) (A : Around) (outer : List Env) (s : Shared) (H : Hp) (vs : List V) (Q : VK) (E : XK), Room k (A.deeper (envOfC qual (defScope st) s.heap.objs.size f cdv)) → sp vs H Q E →
      ∃ t, PSs (cxOf (L2.CX P w) P w K mg base N qual (defScope st) f cdv A outer s H E) (defBody st) t ∧ t { nx := fun _ H' => Q .non H', rt := Q } (start N vs) H) : FnR P w K mg base (L2.CX P w) (k + 1) f (starSp ps.length sp) := by
  obtain ⟨oc, od, kV, doc, pm, an, cdv, ct, osl, rfl, lk, hcd⟩ := F.ex
  exact StX.fn_star lk hcd S StX.cxUp B.b fun A outer s H vs Q E hr hsp => hbody cdv A outer s H vs Q E hr hsp
end
section
variable {X : Cx} {CX : CXT} {k : Nat} {f C : Addr} {sp : Sp} {E : XK} {x : Str} {p pos : Pos}
/-- C(), C's __init__ with a star parameter -/
theorem pe_makeR0 (M : Mk X.K C f) (F : FnR X.prog X.w X.K X.mg X.base CX k f sp) (hr : Room (k + 1) X.A) (hg : Gl X x) (hm : X.mg x = some (.ref C)) (hx : Passes CX X E) (hdb : (x == ("__debug__" : Str)) = false := by decide) :
    PE X (.Call (.Name x p) [] [] pos) (StX.tMakeR C sp E tNil) := by
  refine ⟨fun pins s σ H Q I h => ?_⟩
  refine wpAny_Call_Name_kw (ld_glob I hg hm ?_ hdb)
  exact PySem.W.callWith_K0 I.kIn M.kp (StX.run_makeR (us := []) M F hr hx I .nil h)
theorem x_makeR {σ : L2.St} {H : Hp} {Q : VK} {t : TA} (q : t σ H fun vs H1 => ∀ x dx, H1 x = none → H1 dx = none → dx ≠ x → sp (.ref x :: vs) (upd (upd H1 dx (.own x)) x (.ins C dx [])) (fun v H2 => v = .non ∧ Q (.ref x) H2) E) : StX.tMakeR C sp E t σ H Q := q
theorem x_star {K : PySem.W.Frag} {σ : L2.St} {H : Hp} {te : TE} {t : TA} {QL : List V → Hp → Prop} (q : te σ H fun x H1 => ∃ p xs, x = V.ref p ∧ (SqT K H1 p xs ∨ SqL K H1 p xs) ∧ t σ H1 fun ys H2 => QL (xs ++ ys) H2) : StX.tStar K te t σ H QL := q
end
/-! ### len of an object with __len__ -/
section
open PySem.Spec PyProof.Rows
variable {X : Cx} {CX : CXT} {k : Nat} {C g : Addr} {fd : FuncData} {ps : List Str} {sp : Sp} {E : XK}
def rLenOwn (C : Addr) (sp : Sp) (E : XK) : List V → Hp → VK → Prop := fun xs H Q => ∃ a dx fs, xs = [.ref a] ∧ H a = some (.ins C dx fs) ∧ sp [.ref a] H (fun v H' => ∃ n : Int, v = .int n ∧ 0 ≤ n ∧ n < 2 ^ 63 ∧ Q (.int n) H') E
theorem call_lenOwn (mm : Meth X.K C "__len__" g) (F : FnOk X.prog X.w X.K X.mg X.base CX k g fd ps sp) (hr : Room (k + 1) X.A) (hb : Binds X.K fd ps []) (hx : Passes CX X E) : CallR X (.builtin "len") (rLenOwn C sp E) := by
  intro pins s σ H xs us Q I rx h
  obtain ⟨a, dx, fs, rfl, ha, q⟩ := h
  obtain ⟨u, rfl, ru⟩ := vals1 rx
  cases (show u = Value.ref a from ru)
  obtain ⟨mA, O, _⟩ := ins_get I.hok ha
  obtain ⟨od, J, _⟩ := O.look
  refine PySem.Calls.call_function_entry PySem.kind_len PySem.plain_len PySem.entry_len (PySem.args_len1 _) ?_
  unfold PySem.Builtin.«len»
  refine wpAny_bind (m := PySem.oneArg "len" _) (wpAny_pure ?_)
  refine wpAny_bind (m := PySem.callSpecial? (.ref a) (Str.ofString "__len__")) (PySem.W.special_fn I.kIn J mm.at_ (beq_iff_eq.mp mm.fn) ?_)
  have r2 : Vals [V.ref a] [Value.ref a] := .cons rfl .nil
  have hl : ([Value.ref a] : List Value).length = ps.length := by rw [← r2.length]; exact F.len _ _ _ _ q
  have hbb := hb s [Value.ref a] I.kIn (by rw [List.append_nil]; exact hl)
  rw [List.append_nil] at hbb
  refine wpAny_call (codeAny_mono (F.run X.A.in1 X.stack s H ⟨[Value.ref a], []⟩ [Value.ref a] [V.ref a] _ E hr.in1 I.env0.in1 hbb r2 q) fun r s' hq => ?_)
  cases r with
  | error e => exact hx pins σ H s e s' I hq
  | ok fl =>
    cases fl with
    | next => exact False.elim hq
    | brk => exact False.elim hq
    | cont => exact False.elim hq
    | ret u =>
      obtain ⟨v, H', I', rv, n, rfl, n0, n1, qn⟩ := I.after hq
      obtain ⟨t, rfl⟩ := rv
      refine wpAny_bind (wpAny_holding (wpAny_pure ?_))
      refine wpAny_bind (wpAny_letGo ?_)
      show wpAny _ _ (if n < 0 then _ else _) _ _ _
      rw [if_neg (by omega)]
      show wpAny _ _ (if n ≥ 2 ^ 63 then _ else _) _ _ _
      rw [if_neg (by omega)]
      exact wpAny_bind (wpAny_mkInt (wpAny_pure ⟨_, rfl, .int n, H', I'.tok _, ⟨_, rfl⟩, qn⟩))
end
/-! ### C(..) with a star parameter in a try -/
section
open PySem.Spec PyProof.Rows
variable {X : Cx} {CX' : CXT} {k : Nat} {f C : Addr} {sp : Sp} {E : L2.St → XK} {x : Str} {e : Expr} {es : List Expr} {t : TA} {p pos : Pos}
/-- C(e, ..), what it lets out wished for at the caller's slots -/
def tMakeRX (C : Addr) (sp : Sp) (E : L2.St → XK) (t : TA) : TE := fun σ H Q => t σ H fun vs H1 => ∀ x dx, H1 x = none → H1 dx = none → dx ≠ x → sp (.ref x :: vs) (upd (upd H1 dx (.own x)) x (.ins C dx [])) (fun v H2 => v = .non ∧ Q (.ref x) H2) (E σ)
theorem pe_makeRX (M : Mk X.K C f) (F : FnR X.prog X.w X.K X.mg X.base CX' k f sp) (hr : Room (k + 1) X.A) (hg : Gl X x) (hm : X.mg x = some (.ref C)) (hx : ∀ σ, PassesAt CX' X σ (E σ)) (ha : PA X (e :: es) t) (hdb : (x == ("__debug__" : Str)) = false := by decide)
    (he : starEach (e :: es) X.env = (false, eval e X.env) :: starEach es X.env := by rfl) (hpl : (PySem.backTo pos (starEach es X.env)).any (·.1) = false := by rfl) : PE X (.Call (.Name x p) (e :: es) [] pos) (tMakeRX C sp E t) := by
  refine ⟨fun pins s σ H Q I h => wpAny_Call_Name_kw (ld_glob I hg hm ?_ hdb)⟩
  refine PySem.W.callWith_K (h₀ := X.base) I.ok.mod.kin M.kp (thn (ha.run pos pins s σ H _ I h) fun us s1 ⟨vs, H1, I1, r, q⟩ => ⟨I1.kIn, ?_⟩) he hpl
  have q1 := q (s1.heap.objs.size + 1) s1.heap.objs.size (I1.hok.fresh (Nat.le_succ _)) (I1.hok.fresh (Nat.le_refl _)) (Nat.ne_of_lt (Nat.lt_succ_self _))
  have I2 := Inv.made (C := C) I1
  have r2 : Vals (V.ref (s1.heap.objs.size + 1) :: vs) (Value.ref (s1.heap.objs.size + 1) :: us) := .cons rfl r
  refine wpAny_call (make_map (f := f) I1.kIn M.makes M.init (beq_iff_eq.mp M.fn) (codeAny_mono (F _ X.stack _ _ (Value.ref (s1.heap.objs.size + 1) :: us) _ _ (E σ) (hr.make C us []) (I2.env0.make C us []) r2 q1) fun z s' hz => ?_))
  match z, hz with
  | .error e, hz => exact hx σ pins _ _ e s' I2 hz
  | .ok (.ret u), hz =>
    obtain ⟨v, H', I3, rv, ev, q3⟩ := I2.after hz
    subst ev
    exact ⟨rv, ⟨V.ref (s1.heap.objs.size + 1), H', I3, rfl, q3⟩⟩
theorem x_makeRX {σ : L2.St} {H : Hp} {Q : VK} (q : t σ H fun vs H1 => ∀ x dx, H1 x = none → H1 dx = none → dx ≠ x → sp (.ref x :: vs) (upd (upd H1 dx (.own x)) x (.ins C dx [])) (fun v H2 => v = .non ∧ Q (.ref x) H2) (E σ)) : tMakeRX C sp E t σ H Q := q
end
def top (i : Nat) : Stmt := PySem.Challenge.pw_lossway_k08_spans_normal.main.body.getD i (.Pass ⟨0, 0, 0, 0⟩)
abbrev s_InvalidNumber_init_ : Stmt := inClass (top 3) 0
theorem st_InvalidNumber_init_ {t : TS} {D : Ends} {H : Hp} {v0 v1 : V} (h : t D [some v0, some v1] H) : t D (L2.start ["self", "number"] [v0, v1]) H := h
theorem sc_InvalidNumber_init_ : FnScope ["self", "number"] ["self", "number"] (defScope s_InvalidNumber_init_) := ⟨rfl, rfl, rfl, by decide +kernel, rfl, by decide +kernel, by decide +kernel⟩
abbrev s_InvalidSetting_init_ : Stmt := inClass (top 4) 0
theorem st_InvalidSetting_init_ {t : TS} {D : Ends} {H : Hp} {v0 v1 : V} (h : t D [some v0, some v1] H) : t D (L2.start ["self", "setting"] [v0, v1]) H := h
theorem sc_InvalidSetting_init_ : FnScope ["self", "setting"] ["self", "setting"] (defScope s_InvalidSetting_init_) := ⟨rfl, rfl, rfl, by decide +kernel, rfl, by decide +kernel, by decide +kernel⟩
abbrev s_is_integer : Stmt := top 6
theorem st_is_integer {t : TS} {D : Ends} {H : Hp} {v0 : V} (h : t D [some v0] H) : t D (L2.start ["value"] [v0]) H := h
theorem sc_is_integer : FnScope ["value"] ["value"] (defScope s_is_integer) := ⟨rfl, rfl, rfl, by decide +kernel, rfl, by decide +kernel, by decide +kernel⟩
abbrev s_is_at_least : Stmt := top 7
theorem st_is_at_least {t : TS} {D : Ends} {H : Hp} {v0 v1 : V} (h : t D [some v0, some v1] H) : t D (L2.start ["value", "low"] [v0, v1]) H := h
theorem sc_is_at_least : FnScope ["value", "low"] ["value", "low"] (defScope s_is_at_least) := ⟨rfl, rfl, rfl, by decide +kernel, rfl, by decide +kernel, by decide +kernel⟩
abbrev s_is_sequence : Stmt := top 8
theorem st_is_sequence {t : TS} {D : Ends} {H : Hp} {v0 : V} (h : t D [some v0] H) : t D (L2.start ["value"] [v0]) H := h
theorem sc_is_sequence : FnScope ["value"] ["value"] (defScope s_is_sequence) := ⟨rfl, rfl, rfl, by decide +kernel, rfl, by decide +kernel, by decide +kernel⟩
abbrev s_is_run : Stmt := top 10
theorem st_is_run {t : TS} {D : Ends} {H : Hp} {v0 : V} (h : t D [some v0] H) : t D (L2.start ["pair"] [v0]) H := h
theorem sc_is_run : FnScope ["pair"] ["pair"] (defScope s_is_run) := ⟨rfl, rfl, rfl, by decide +kernel, rfl, by decide +kernel, by decide +kernel⟩
abbrev s_joined : Stmt := top 11
theorem st_joined {t : TS} {D : Ends} {H : Hp} {v0 : V} (h : t D [some v0, none, none, none, none] H) : t D (L2.start ["pairs", "runs", "low", "high", "pair"] [v0]) H := h
theorem sc_joined : FnScope ["pairs", "runs", "low", "high", "pair"] ["pairs"] (defScope s_joined) := ⟨rfl, rfl, rfl, by decide +kernel, rfl, by decide +kernel, by decide +kernel⟩
abbrev s_missing : Stmt := top 12
theorem st_missing {t : TS} {D : Ends} {H : Hp} {v0 v1 v2 : V} (h : t D [some v0, some v1, some v2, none, none, none, none] H) : t D (L2.start ["runs", "low", "high", "found", "at", "start", "end"] [v0, v1, v2]) H := h
theorem sc_missing : FnScope ["runs", "low", "high", "found", "at", "start", "end"] ["runs", "low", "high"] (defScope s_missing) := ⟨rfl, rfl, rfl, by decide +kernel, rfl, by decide +kernel, by decide +kernel⟩
abbrev s_common : Stmt := top 13
theorem st_common {t : TS} {D : Ends} {H : Hp} {v0 v1 : V} (h : t D [some v0, some v1, none, none, none, none, none] H) : t D (L2.start ["first", "second", "found", "one", "two", "low", "high"] [v0, v1]) H := h
theorem sc_common : FnScope ["first", "second", "found", "one", "two", "low", "high"] ["first", "second"] (defScope s_common) := ⟨rfl, rfl, rfl, by decide +kernel, rfl, by decide +kernel, by decide +kernel⟩
abbrev s_without : Stmt := top 14
theorem st_without {t : TS} {D : Ends} {H : Hp} {v0 v1 : V} (h : t D [some v0, some v1, none] H) : t D (L2.start ["first", "second", "end"] [v0, v1]) H := h
theorem sc_without : FnScope ["first", "second", "end"] ["first", "second"] (defScope s_without) := ⟨rfl, rfl, rfl, by decide +kernel, rfl, by decide +kernel, by decide +kernel⟩
abbrev s_Spans_init_ : Stmt := inClass (top 15) 0
theorem st_Spans_init_ {t : TS} {D : Ends} {H : Hp} {v0 v1 : V} (h : t D [some v0, some v1, none] H) : t D (L2.start ["self", "pairs", "pair"] [v0, v1]) H := h
theorem sc_Spans_init_ : FnScope ["self", "pairs", "pair"] ["self", "pairs"] (defScope s_Spans_init_) := ⟨rfl, rfl, rfl, by decide +kernel, rfl, by decide +kernel, by decide +kernel⟩
abbrev s_Spans_contains_ : Stmt := inClass (top 15) 4
theorem st_Spans_contains_ {t : TS} {D : Ends} {H : Hp} {v0 v1 : V} (h : t D [some v0, some v1] H) : t D (L2.start ["self", "offset"] [v0, v1]) H := h
theorem sc_Spans_contains_ : FnScope ["self", "offset"] ["self", "offset"] (defScope s_Spans_contains_) := ⟨rfl, rfl, rfl, by decide +kernel, rfl, by decide +kernel, by decide +kernel⟩
abbrev s_Spans_len_ : Stmt := inClass (top 15) 6
theorem st_Spans_len_ {t : TS} {D : Ends} {H : Hp} {v0 : V} (h : t D [some v0] H) : t D (L2.start ["self"] [v0]) H := h
theorem sc_Spans_len_ : FnScope ["self"] ["self"] (defScope s_Spans_len_) := ⟨rfl, rfl, rfl, by decide +kernel, rfl, by decide +kernel, by decide +kernel⟩
abbrev s_Spans_rows : Stmt := inClass (top 15) 7
theorem st_Spans_rows {t : TS} {D : Ends} {H : Hp} {v0 : V} (h : t D [some v0] H) : t D (L2.start ["self"] [v0]) H := h
theorem sc_Spans_rows : FnScope ["self"] ["self"] (defScope s_Spans_rows) := ⟨rfl, rfl, rfl, by decide +kernel, rfl, by decide +kernel, by decide +kernel⟩
abbrev s_Spans_total : Stmt := inClass (top 15) 9
theorem st_Spans_total {t : TS} {D : Ends} {H : Hp} {v0 : V} (h : t D [some v0, none, none] H) : t D (L2.start ["self", "low", "high"] [v0]) H := h
theorem sc_Spans_total : FnScope ["self", "low", "high"] ["self"] (defScope s_Spans_total) := ⟨rfl, rfl, rfl, by decide +kernel, rfl, by decide +kernel, by decide +kernel⟩
abbrev s_Spans_put : Stmt := inClass (top 15) 10
theorem st_Spans_put {t : TS} {D : Ends} {H : Hp} {v0 v1 v2 : V} (h : t D [some v0, some v1, some v2] H) : t D (L2.start ["self", "low", "high"] [v0, v1, v2]) H := h
theorem sc_Spans_put : FnScope ["self", "low", "high"] ["self", "low", "high"] (defScope s_Spans_put) := ⟨rfl, rfl, rfl, by decide +kernel, rfl, by decide +kernel, by decide +kernel⟩
abbrev s_Spans_drop : Stmt := inClass (top 15) 11
theorem st_Spans_drop {t : TS} {D : Ends} {H : Hp} {v0 v1 v2 : V} (h : t D [some v0, some v1, some v2] H) : t D (L2.start ["self", "low", "high"] [v0, v1, v2]) H := h
theorem sc_Spans_drop : FnScope ["self", "low", "high"] ["self", "low", "high"] (defScope s_Spans_drop) := ⟨rfl, rfl, rfl, by decide +kernel, rfl, by decide +kernel, by decide +kernel⟩
abbrev s_Spans_holding : Stmt := inClass (top 15) 12
theorem st_Spans_holding {t : TS} {D : Ends} {H : Hp} {v0 v1 : V} (h : t D [some v0, some v1, none, none] H) : t D (L2.start ["self", "offset", "low", "high"] [v0, v1]) H := h
theorem sc_Spans_holding : FnScope ["self", "offset", "low", "high"] ["self", "offset"] (defScope s_Spans_holding) := ⟨rfl, rfl, rfl, by decide +kernel, rfl, by decide +kernel, by decide +kernel⟩
abbrev s__law_box : Stmt := top 17
theorem st__law_box {t : TS} {D : Ends} {H : Hp} {v0 : V} (h : t D [some v0] H) : t D (L2.start ["script"] [v0]) H := h
theorem sc__law_box : FnScope ["script"] ["script"] (defScope s__law_box) := ⟨rfl, rfl, rfl, by decide +kernel, rfl, by decide +kernel, by decide +kernel⟩
abbrev s__law_draw : Stmt := top 18
theorem st__law_draw {t : TS} {D : Ends} {H : Hp} {v0 v1 : V} (h : t D [some v0, some v1, none, none, none] H) : t D (L2.start ["box", "size", "cell", "digit", "mixed"] [v0, v1]) H := h
theorem sc__law_draw : FnScope ["box", "size", "cell", "digit", "mixed"] ["box", "size"] (defScope s__law_draw) := ⟨rfl, rfl, rfl, by decide +kernel, rfl, by decide +kernel, by decide +kernel⟩
abbrev s__law_end : Stmt := top 19
theorem st__law_end {t : TS} {D : Ends} {H : Hp} {v0 v1 : V} (h : t D [some v0, some v1, none, none, none] H) : t D (L2.start ["box", "ends", "way", "near", "upper"] [v0, v1]) H := h
theorem sc__law_end : FnScope ["box", "ends", "way", "near", "upper"] ["box", "ends"] (defScope s__law_end) := ⟨rfl, rfl, rfl, by decide +kernel, rfl, by decide +kernel, by decide +kernel⟩
abbrev s__law_pair : Stmt := top 20
theorem st__law_pair {t : TS} {D : Ends} {H : Hp} {v0 v1 : V} (h : t D [some v0, some v1, none, none] H) : t D (L2.start ["box", "ends", "one", "two"] [v0, v1]) H := h
theorem sc__law_pair : FnScope ["box", "ends", "one", "two"] ["box", "ends"] (defScope s__law_pair) := ⟨rfl, rfl, rfl, by decide +kernel, rfl, by decide +kernel, by decide +kernel⟩
abbrev s__law_spans : Stmt := top 21
theorem st__law_spans {t : TS} {D : Ends} {H : Hp} {v0 : V} (h : t D [some v0, none] H) : t D (L2.start ["pairs", "many"] [v0]) H := h
theorem sc__law_spans : FnScope ["pairs", "many"] ["pairs"] (defScope s__law_spans) := ⟨rfl, rfl, rfl, by decide +kernel, rfl, by decide +kernel, by decide +kernel⟩
abbrev s__law_has : Stmt := top 22
theorem st__law_has {t : TS} {D : Ends} {H : Hp} {v0 v1 : V} (h : t D [some v0, some v1, none, none] H) : t D (L2.start ["history", "offset", "has", "deed"] [v0, v1]) H := h
theorem sc__law_has : FnScope ["history", "offset", "has", "deed"] ["history", "offset"] (defScope s__law_has) := ⟨rfl, rfl, rfl, by decide +kernel, rfl, by decide +kernel, by decide +kernel⟩
abbrev s__law_due : Stmt := top 23
theorem st__law_due {t : TS} {D : Ends} {H : Hp} {v0 : V} (h : t D [some v0, none, none, none, none, none, none] H) : t D (L2.start ["history", "ends", "due", "k", "low", "high", "deed"] [v0]) H := h
theorem sc__law_due : FnScope ["history", "ends", "due", "k", "low", "high", "deed"] ["history"] (defScope s__law_due) := ⟨rfl, rfl, rfl, by decide +kernel, rfl, by decide +kernel, by decide +kernel⟩
abbrev s__law_is_whole : Stmt := top 24
theorem st__law_is_whole {t : TS} {D : Ends} {H : Hp} {v0 : V} (h : t D [some v0] H) : t D (L2.start ["value"] [v0]) H := h
theorem sc__law_is_whole : FnScope ["value"] ["value"] (defScope s__law_is_whole) := ⟨rfl, rfl, rfl, by decide +kernel, rfl, by decide +kernel, by decide +kernel⟩
abbrev s__law_pairs_are : Stmt := top 25
theorem st__law_pairs_are {t : TS} {D : Ends} {H : Hp} {v0 v1 : V} (h : t D [some v0, some v1, none] H) : t D (L2.start ["told", "due", "k"] [v0, v1]) H := h
theorem sc__law_pairs_are : FnScope ["told", "due", "k"] ["told", "due"] (defScope s__law_pairs_are) := ⟨rfl, rfl, rfl, by decide +kernel, rfl, by decide +kernel, by decide +kernel⟩
abbrev s__law_agrees : Stmt := top 26
theorem st__law_agrees {t : TS} {D : Ends} {H : Hp} {v0 v1 : V} (h : t D [some v0, some v1, none, none, none, none, none, none, none, none] H) : t D (L2.start ["spans", "history", "due", "told", "many", "value", "deed", "end", "offset", "pair"] [v0, v1]) H := h
theorem sc__law_agrees : FnScope ["spans", "history", "due", "told", "many", "value", "deed", "end", "offset", "pair"] ["spans", "history"] (defScope s__law_agrees) := ⟨rfl, rfl, rfl, by decide +kernel, rfl, by decide +kernel, by decide +kernel⟩
abbrev s__law_bad_pair : Stmt := top 27
theorem st__law_bad_pair {t : TS} {D : Ends} {H : Hp} {v0 : V} (h : t D [some v0, none, none, none] H) : t D (L2.start ["box", "low", "more", "way"] [v0]) H := h
theorem sc__law_bad_pair : FnScope ["box", "low", "more", "way"] ["box"] (defScope s__law_bad_pair) := ⟨rfl, rfl, rfl, by decide +kernel, rfl, by decide +kernel, by decide +kernel⟩
abbrev s__law_new_refuses : Stmt := top 28
theorem st__law_new_refuses {t : TS} {D : Ends} {H : Hp} {v0 v1 : V} (h : t D [some v0, some v1, none, none, none, none, none, none] H) : t D (L2.start ["box", "ends", "good", "also", "bad", "worse", "place", "e"] [v0, v1]) H := h
theorem sc__law_new_refuses : FnScope ["box", "ends", "good", "also", "bad", "worse", "place", "e"] ["box", "ends"] (defScope s__law_new_refuses) := ⟨rfl, rfl, rfl, by decide +kernel, rfl, by decide +kernel, by decide +kernel⟩
abbrev s__law_bad_ends : Stmt := top 29
theorem st__law_bad_ends {t : TS} {D : Ends} {H : Hp} {v0 : V} (h : t D [some v0, none, none, none] H) : t D (L2.start ["box", "low", "more", "menu"] [v0]) H := h
theorem sc__law_bad_ends : FnScope ["box", "low", "more", "menu"] ["box"] (defScope s__law_bad_ends) := ⟨rfl, rfl, rfl, by decide +kernel, rfl, by decide +kernel, by decide +kernel⟩
abbrev s__law_call_refuses : Stmt := top 30
theorem st__law_call_refuses {t : TS} {D : Ends} {H : Hp} {v0 v1 v2 : V} (h : t D [some v0, some v1, some v2, none] H) : t D (L2.start ["spans", "bad", "adds", "e"] [v0, v1, v2]) H := h
theorem sc__law_call_refuses : FnScope ["spans", "bad", "adds", "e"] ["spans", "bad", "adds"] (defScope s__law_call_refuses) := ⟨rfl, rfl, rfl, by decide +kernel, rfl, by decide +kernel, by decide +kernel⟩
abbrev s__law_plays : Stmt := top 31
theorem st__law_plays {t : TS} {D : Ends} {H : Hp} {v0 v1 v2 v3 v4 : V} (h : t D [some v0, some v1, some v2, some v3, some v4, none, none, none] H) : t D (L2.start ["box", "spans", "history", "ends", "rounds", "k", "way", "pair"] [v0, v1, v2, v3, v4]) H := h
theorem sc__law_plays : FnScope ["box", "spans", "history", "ends", "rounds", "k", "way", "pair"] ["box", "spans", "history", "ends", "rounds"] (defScope s__law_plays) := ⟨rfl, rfl, rfl, by decide +kernel, rfl, by decide +kernel, by decide +kernel⟩
abbrev s__law_comb_agrees : Stmt := top 32
theorem st__law_comb_agrees {t : TS} {D : Ends} {H : Hp} {v0 : V} (h : t D [some v0, none, none, none, none, none, none, none, none, none, none, none, none, none] H) : t D (L2.start ["box", "low", "width", "step", "many", "turned", "history", "spans", "k", "place", "pair", "one", "two", "adds"] [v0]) H := h
theorem sc__law_comb_agrees : FnScope ["box", "low", "width", "step", "many", "turned", "history", "spans", "k", "place", "pair", "one", "two", "adds"] ["box"] (defScope s__law_comb_agrees) := ⟨rfl, rfl, rfl, by decide +kernel, rfl, by decide +kernel, by decide +kernel⟩
abbrev s_law : Stmt := top 33
theorem st_law {t : TS} {D : Ends} {H : Hp} {v0 : V} (h : t D [some v0, none, none, none, none, none, none, none, none, none, none, none, none] H) : t D (L2.start ["script", "box", "ends", "rounds", "many", "pairs", "spans", "pair", "listed", "other", "history", "before", "k"] [v0]) H := h
theorem sc_law : FnScope ["script", "box", "ends", "rounds", "many", "pairs", "spans", "pair", "listed", "other", "history", "before", "k"] ["script"] (defScope s_law) := ⟨rfl, rfl, rfl, by decide +kernel, rfl, by decide +kernel, by decide +kernel⟩

set_option maxHeartbeats 0 in
structure Txt (K : PySem.W.Frag) (mg : Str → Option Value) where
  c_Spans : Addr
  g_Spans : mg "Spans" = some (.ref c_Spans)
  cl_Spans : Cls K c_Spans
  n_Spans__runs : NoAttr K c_Spans "_runs"
  c_LossError : Addr
  c_InvalidNumber : Addr
  c_InvalidSetting : Addr
  a_InvalidNumber_init_ : Addr
  fd_InvalidNumber_init_ : FuncData
  F_InvalidNumber_init_ : Fun K "__init__" "InvalidNumber.__init__" s_InvalidNumber_init_ a_InvalidNumber_init_ fd_InvalidNumber_init_
  B_InvalidNumber_init_ : Binds K fd_InvalidNumber_init_ ["self", "number"] []
  a_InvalidSetting_init_ : Addr
  fd_InvalidSetting_init_ : FuncData
  F_InvalidSetting_init_ : Fun K "__init__" "InvalidSetting.__init__" s_InvalidSetting_init_ a_InvalidSetting_init_ fd_InvalidSetting_init_
  B_InvalidSetting_init_ : Binds K fd_InvalidSetting_init_ ["self", "setting"] []
  a_is_integer : Addr
  fd_is_integer : FuncData
  F_is_integer : Fun K "is_integer" "is_integer" s_is_integer a_is_integer fd_is_integer
  B_is_integer : Binds K fd_is_integer ["value"] []
  g_is_integer : mg "is_integer" = some (.ref a_is_integer)
  a_is_at_least : Addr
  fd_is_at_least : FuncData
  F_is_at_least : Fun K "is_at_least" "is_at_least" s_is_at_least a_is_at_least fd_is_at_least
  B_is_at_least : Binds K fd_is_at_least ["value", "low"] []
  g_is_at_least : mg "is_at_least" = some (.ref a_is_at_least)
  a_is_sequence : Addr
  fd_is_sequence : FuncData
  F_is_sequence : Fun K "is_sequence" "is_sequence" s_is_sequence a_is_sequence fd_is_sequence
  B_is_sequence : Binds K fd_is_sequence ["value"] []
  g_is_sequence : mg "is_sequence" = some (.ref a_is_sequence)
  a_is_run : Addr
  fd_is_run : FuncData
  F_is_run : Fun K "is_run" "is_run" s_is_run a_is_run fd_is_run
  B_is_run : Binds K fd_is_run ["pair"] []
  g_is_run : mg "is_run" = some (.ref a_is_run)
  a_joined : Addr
  fd_joined : FuncData
  F_joined : Fun K "joined" "joined" s_joined a_joined fd_joined
  B_joined : Binds K fd_joined ["pairs"] []
  g_joined : mg "joined" = some (.ref a_joined)
  a_missing : Addr
  fd_missing : FuncData
  F_missing : Fun K "missing" "missing" s_missing a_missing fd_missing
  B_missing : Binds K fd_missing ["runs", "low", "high"] []
  g_missing : mg "missing" = some (.ref a_missing)
  a_common : Addr
  fd_common : FuncData
  F_common : Fun K "common" "common" s_common a_common fd_common
  B_common : Binds K fd_common ["first", "second"] []
  g_common : mg "common" = some (.ref a_common)
  a_without : Addr
  fd_without : FuncData
  F_without : Fun K "without" "without" s_without a_without fd_without
  B_without : Binds K fd_without ["first", "second"] []
  g_without : mg "without" = some (.ref a_without)
  a_Spans_init_ : Addr
  fd_Spans_init_ : FuncData
  F_Spans_init_ : Fun K "__init__" "Spans.__init__" s_Spans_init_ a_Spans_init_ fd_Spans_init_
  BS_Spans_init_ : StarB fd_Spans_init_ ["self"] "pairs"
  M_Spans : Mk K c_Spans a_Spans_init_
  a_Spans_contains_ : Addr
  fd_Spans_contains_ : FuncData
  F_Spans_contains_ : Fun K "__contains__" "Spans.__contains__" s_Spans_contains_ a_Spans_contains_ fd_Spans_contains_
  B_Spans_contains_ : Binds K fd_Spans_contains_ ["self", "offset"] []
  m_Spans_contains_ : Meth K c_Spans "__contains__" a_Spans_contains_
  a_Spans_len_ : Addr
  fd_Spans_len_ : FuncData
  F_Spans_len_ : Fun K "__len__" "Spans.__len__" s_Spans_len_ a_Spans_len_ fd_Spans_len_
  B_Spans_len_ : Binds K fd_Spans_len_ ["self"] []
  m_Spans_len_ : Meth K c_Spans "__len__" a_Spans_len_
  a_Spans_rows : Addr
  fd_Spans_rows : FuncData
  F_Spans_rows : Fun K "rows" "Spans.rows" s_Spans_rows a_Spans_rows fd_Spans_rows
  B_Spans_rows : Binds K fd_Spans_rows ["self"] []
  m_Spans_rows : Meth K c_Spans "rows" a_Spans_rows
  a_Spans_total : Addr
  fd_Spans_total : FuncData
  F_Spans_total : Fun K "total" "Spans.total" s_Spans_total a_Spans_total fd_Spans_total
  B_Spans_total : Binds K fd_Spans_total ["self"] []
  m_Spans_total : Meth K c_Spans "total" a_Spans_total
  a_Spans_put : Addr
  fd_Spans_put : FuncData
  F_Spans_put : Fun K "put" "Spans.put" s_Spans_put a_Spans_put fd_Spans_put
  B_Spans_put : Binds K fd_Spans_put ["self", "low", "high"] []
  m_Spans_put : Meth K c_Spans "put" a_Spans_put
  a_Spans_drop : Addr
  fd_Spans_drop : FuncData
  F_Spans_drop : Fun K "drop" "Spans.drop" s_Spans_drop a_Spans_drop fd_Spans_drop
  B_Spans_drop : Binds K fd_Spans_drop ["self", "low", "high"] []
  m_Spans_drop : Meth K c_Spans "drop" a_Spans_drop
  a_Spans_holding : Addr
  fd_Spans_holding : FuncData
  F_Spans_holding : Fun K "holding" "Spans.holding" s_Spans_holding a_Spans_holding fd_Spans_holding
  B_Spans_holding : Binds K fd_Spans_holding ["self", "offset"] []
  m_Spans_holding : Meth K c_Spans "holding" a_Spans_holding
  a__law_box : Addr
  fd__law_box : FuncData
  F__law_box : Fun K "_law_box" "_law_box" s__law_box a__law_box fd__law_box
  B__law_box : Binds K fd__law_box ["script"] []
  g__law_box : mg "_law_box" = some (.ref a__law_box)
  a__law_draw : Addr
  fd__law_draw : FuncData
  F__law_draw : Fun K "_law_draw" "_law_draw" s__law_draw a__law_draw fd__law_draw
  B__law_draw : Binds K fd__law_draw ["box", "size"] []
  g__law_draw : mg "_law_draw" = some (.ref a__law_draw)
  a__law_end : Addr
  fd__law_end : FuncData
  F__law_end : Fun K "_law_end" "_law_end" s__law_end a__law_end fd__law_end
  B__law_end : Binds K fd__law_end ["box", "ends"] []
  g__law_end : mg "_law_end" = some (.ref a__law_end)
  a__law_pair : Addr
  fd__law_pair : FuncData
  F__law_pair : Fun K "_law_pair" "_law_pair" s__law_pair a__law_pair fd__law_pair
  B__law_pair : Binds K fd__law_pair ["box", "ends"] []
  g__law_pair : mg "_law_pair" = some (.ref a__law_pair)
  a__law_spans : Addr
  fd__law_spans : FuncData
  F__law_spans : Fun K "_law_spans" "_law_spans" s__law_spans a__law_spans fd__law_spans
  B__law_spans : Binds K fd__law_spans ["pairs"] []
  g__law_spans : mg "_law_spans" = some (.ref a__law_spans)
  a__law_has : Addr
  fd__law_has : FuncData
  F__law_has : Fun K "_law_has" "_law_has" s__law_has a__law_has fd__law_has
  B__law_has : Binds K fd__law_has ["history", "offset"] []
  g__law_has : mg "_law_has" = some (.ref a__law_has)
  a__law_due : Addr
  fd__law_due : FuncData
  F__law_due : Fun K "_law_due" "_law_due" s__law_due a__law_due fd__law_due
  B__law_due : Binds K fd__law_due ["history"] []
  g__law_due : mg "_law_due" = some (.ref a__law_due)
  a__law_is_whole : Addr
  fd__law_is_whole : FuncData
  F__law_is_whole : Fun K "_law_is_whole" "_law_is_whole" s__law_is_whole a__law_is_whole fd__law_is_whole
  B__law_is_whole : Binds K fd__law_is_whole ["value"] []
  g__law_is_whole : mg "_law_is_whole" = some (.ref a__law_is_whole)
  a__law_pairs_are : Addr
  fd__law_pairs_are : FuncData
  F__law_pairs_are : Fun K "_law_pairs_are" "_law_pairs_are" s__law_pairs_are a__law_pairs_are fd__law_pairs_are
  B__law_pairs_are : Binds K fd__law_pairs_are ["told", "due"] []
  g__law_pairs_are : mg "_law_pairs_are" = some (.ref a__law_pairs_are)
  a__law_agrees : Addr
  fd__law_agrees : FuncData
  F__law_agrees : Fun K "_law_agrees" "_law_agrees" s__law_agrees a__law_agrees fd__law_agrees
  B__law_agrees : Binds K fd__law_agrees ["spans", "history"] []
  g__law_agrees : mg "_law_agrees" = some (.ref a__law_agrees)
  a__law_bad_pair : Addr
  fd__law_bad_pair : FuncData
  F__law_bad_pair : Fun K "_law_bad_pair" "_law_bad_pair" s__law_bad_pair a__law_bad_pair fd__law_bad_pair
  B__law_bad_pair : Binds K fd__law_bad_pair ["box"] []
  g__law_bad_pair : mg "_law_bad_pair" = some (.ref a__law_bad_pair)
  a__law_new_refuses : Addr
  fd__law_new_refuses : FuncData
  F__law_new_refuses : Fun K "_law_new_refuses" "_law_new_refuses" s__law_new_refuses a__law_new_refuses fd__law_new_refuses
  B__law_new_refuses : Binds K fd__law_new_refuses ["box", "ends"] []
  g__law_new_refuses : mg "_law_new_refuses" = some (.ref a__law_new_refuses)
  a__law_bad_ends : Addr
  fd__law_bad_ends : FuncData
  F__law_bad_ends : Fun K "_law_bad_ends" "_law_bad_ends" s__law_bad_ends a__law_bad_ends fd__law_bad_ends
  B__law_bad_ends : Binds K fd__law_bad_ends ["box"] []
  g__law_bad_ends : mg "_law_bad_ends" = some (.ref a__law_bad_ends)
  a__law_call_refuses : Addr
  fd__law_call_refuses : FuncData
  F__law_call_refuses : Fun K "_law_call_refuses" "_law_call_refuses" s__law_call_refuses a__law_call_refuses fd__law_call_refuses
  B__law_call_refuses : Binds K fd__law_call_refuses ["spans", "bad", "adds"] []
  g__law_call_refuses : mg "_law_call_refuses" = some (.ref a__law_call_refuses)
  a__law_plays : Addr
  fd__law_plays : FuncData
  F__law_plays : Fun K "_law_plays" "_law_plays" s__law_plays a__law_plays fd__law_plays
  B__law_plays : Binds K fd__law_plays ["box", "spans", "history", "ends", "rounds"] []
  g__law_plays : mg "_law_plays" = some (.ref a__law_plays)
  a__law_comb_agrees : Addr
  fd__law_comb_agrees : FuncData
  F__law_comb_agrees : Fun K "_law_comb_agrees" "_law_comb_agrees" s__law_comb_agrees a__law_comb_agrees fd__law_comb_agrees
  B__law_comb_agrees : Binds K fd__law_comb_agrees ["box"] []
  g__law_comb_agrees : mg "_law_comb_agrees" = some (.ref a__law_comb_agrees)
  a_law : Addr
  fd_law : FuncData
  F_law : Fun K "law" "law" s_law a_law fd_law
  B_law : Binds K fd_law ["script"] []
  g_law : mg "law" = some (.ref a_law)
  X_LossError : GCls mg "LossError" c_LossError
  X_InvalidNumber : XCls K mg "InvalidNumber" c_InvalidNumber a_InvalidNumber_init_
  nX_InvalidNumber : PySem.W.findIn K (.ref c_InvalidNumber) "number" = some none
  X_InvalidSetting : XCls K mg "InvalidSetting" c_InvalidSetting a_InvalidSetting_init_
  nX_InvalidSetting : PySem.W.findIn K (.ref c_InvalidSetting) "setting" = some none
  Me_InvalidNumber_InvalidNumber : PySem.W.exmOne K (.ref c_InvalidNumber) (.ref c_InvalidNumber) = some true
  Kt_InvalidNumber_InvalidNumber : PySem.W.kitOne K (.ref c_InvalidNumber) (.ref c_InvalidNumber) = some true
  Kt_InvalidNumber_InvalidSetting : PySem.W.kitOne K (.ref c_InvalidNumber) (.ref c_InvalidSetting) = some false
  Kt_InvalidSetting_InvalidNumber : PySem.W.kitOne K (.ref c_InvalidSetting) (.ref c_InvalidNumber) = some false
  Kt_InvalidSetting_InvalidSetting : PySem.W.kitOne K (.ref c_InvalidSetting) (.ref c_InvalidSetting) = some true
  Kt_InvalidNumber_LossError : PySem.W.kitOne K (.ref c_InvalidNumber) (.ref c_LossError) = some true
  Kv_InvalidNumber : PySem.W.kitOne K (.ref c_InvalidNumber) (.type "ValueError") = some true
  Kv_InvalidSetting : PySem.W.kitOne K (.ref c_InvalidSetting) (.type "ValueError") = some true
  b_NotImplemented : mg "NotImplemented" = none
  b_ValueError : mg "ValueError" = none
  b_abs : mg "abs" = none
  b_bool : mg "bool" = none
  b_int : mg "int" = none
  b_isinstance : mg "isinstance" = none
  b_len : mg "len" = none
  b_list : mg "list" = none
  b_max : mg "max" = none
  b_min : mg "min" = none
  b_range : mg "range" = none
  b_repr : mg "repr" = none
  b_sorted : mg "sorted" = none
  b_sum : mg "sum" = none
  b_tuple : mg "tuple" = none

section
variable {P : Program} {w : World} {K : PySem.W.Frag} {mg : Str → Option Value} {base : Heap}
/-! ### kinds of values -/
/-- whether x is an int and no bool, by its kind -/
def IntK (K : PySem.W.Frag) (H : Hp) (x : V) (r : Bool) : Prop := ∃ (t : Value) (i b : Bool), TyX K H x t ∧ PySem.W.kitOne K t (.type "int") = some i ∧ PySem.W.kitOne K t (.type "bool") = some b ∧ r = (i && !b)
theorem intK_int {K : PySem.W.Frag} {H : Hp} (n : Int) : IntK K H (.int n) true := ⟨.type "int", true, false, .base (.int n), kit_ty (by decide +kernel), kit_ty (by decide +kernel), rfl⟩
/-- isinstance(x, int) and not isinstance(x, bool) -/
def sp_is_integer (K : PySem.W.Frag) : Sp := fun vs H Q _ => ∃ (x : V) (r : Bool), vs = [x] ∧ IntK K H x r ∧ Q (.bl r) H
theorem ok_is_integer (T : Txt K mg) : FnOk P w K mg base CX0 1 T.a_is_integer T.fd_is_integer ["value"] (sp_is_integer K) := by
  have S := sc_is_integer
  refine T.F_is_integer.ok S (fun vs H Q E h => ?_) (fun cdv A outer s H vs Q E hr h => ?_)
  · obtain ⟨x, r, rfl, _⟩ := h
    rfl
  · obtain ⟨x, r, rfl, ⟨t, i, b, ty, hi, hb, rfl⟩, k⟩ := h
    refine ⟨_, (pss_one (ps_ret (pe_and (pe_callB (id := "isinstance") call_isi (by rfl) T.b_isinstance (by decide +kernel) (pa_cons (pv 0) (pa_cons (pe_bltn (v := .ty "int") (u := .type "int") (by rfl) T.b_int (by decide +kernel) rfl) pa_nil))) (pe_one (pe_not (pe_callB (id := "isinstance") call_isi (by rfl) T.b_isinstance (by decide +kernel) (pa_cons (pv 0) (pa_cons (pe_bltn (v := .ty "bool") (u := .type "bool") (by rfl) T.b_bool (by decide +kernel) rfl) pa_nil)))))))), ?_⟩
    refine ⟨_, rfl, _, _, _, _, i, rfl, .ty _, ty, hi, i, rfl, ?_⟩
    cases i with
    | false => exact iteF k
    | true => exact iteT ⟨_, rfl, _, _, _, _, b, rfl, .ty _, ty, hb, b, rfl, k⟩
/-! ### sequences, items by their kinds -/
theorem tyX_same {K : PySem.W.Frag} {H H' : Hp} {x : V} {t : Value} (h : TyX K H x t) (s : Same H H') : TyX K H' x t := by
  cases h with
  | base b =>
    refine .base ?_
    cases b with
    | non => exact .non
    | bl y => exact .bl y
    | int i => exact .int i
    | str y => exact .str y
    | flt y => exact .flt y
    | lst e => exact .lst (s _ _ e)
    | frz e => exact .frz (s _ _ e)
    | tup e => exact .tup (s _ _ e)
    | dK e => exact .dK (s _ _ e)
    | dT e => exact .dT (s _ _ e)
    | ins e cl ha hn ht hm => exact .ins (s _ _ e) cl ha hn ht hm
  | byt b => exact .byt b
  | set e => exact .set (s _ _ e)
  | kList e c => exact .kList e c
  | kTuple e c => exact .kTuple e c
  | kDict e c => exact .kDict e c
  | fTuple e => exact .fTuple (s _ _ e)
  | fDict e => exact .fDict (s _ _ e)
theorem IntK.same {K : PySem.W.Frag} {H H' : Hp} {x : V} {r : Bool} (h : IntK K H x r) (s : Same H H') : IntK K H' x r := by
  obtain ⟨t, i, b, ty, h1, h2, h3⟩ := h
  exact ⟨t, i, b, tyX_same ty s, h1, h2, h3⟩
/-- x is the int n, or no int at all -/
def Kd (K : PySem.W.Frag) (H : Hp) (x : V) : Option Int → Prop
  | some n => x = .int n
  | none => IntK K H x false
theorem Kd.same {K : PySem.W.Frag} {H H' : Hp} {x : V} {o : Option Int} (h : Kd K H x o) (s : Same H H') : Kd K H' x o := by
  cases o with
  | some n => exact h
  | none => exact IntK.same h s
/-- what lies in lo .. hi -/
def inR (lo hi : Int) : Option Int → Bool
  | some n => decide (lo ≤ n) && decide (n ≤ hi)
  | none => false
/-- a list or a tuple -/
def SeqA (K : PySem.W.Frag) (H : Hp) (a : Addr) (xs : List V) : Prop := SqL K H a xs ∨ SqT K H a xs
theorem SeqA.lst {K : PySem.W.Frag} {H : Hp} {a : Addr} {xs : List V} (h : H a = some (.lst xs)) : SeqA K H a xs := .inl (SqL.of h)
theorem SeqA.tup {K : PySem.W.Frag} {H : Hp} {a : Addr} {xs : List V} (h : H a = some (.tup xs)) : SeqA K H a xs := .inr (SqT.of h)
theorem SeqA.sm {K : PySem.W.Frag} {H H' : Hp} {a : Addr} {xs : List V} (h : SeqA K H a xs) (s : Same H H') : SeqA K H' a xs := h.elim (fun h => .inl (s.seq h)) fun h => .inr (sqT_sm h s)
/-- whether x is a sequence, by its kind -/
def SeqK (K : PySem.W.Frag) (H : Hp) (x : V) (r : Bool) : Prop := ∃ t, TyX K H x t ∧ PySem.W.kitAny K t [.type "list", .type "tuple"] = some r
theorem kit2 {K : PySem.W.Frag} {t : Value} {a b : Bool} (h1 : PySem.W.kitOne K t (.type "list") = some a) (h2 : PySem.W.kitOne K t (.type "tuple") = some b) : PySem.W.kitAny K t [.type "list", .type "tuple"] = some (a || b) := by
  unfold PySem.W.kitAny
  rw [h1]
  cases a with
  | true => rfl
  | false =>
    show PySem.W.kitAny K t [.type "tuple"] = some b
    unfold PySem.W.kitAny
    rw [h2]
    cases b <;> rfl
theorem seqK_ty {K : PySem.W.Frag} {H : Hp} {x : V} {n : String} {a b : Bool} (t : TyX K H x (.type n)) (h1 : kitB n "list" = some a) (h2 : kitB n "tuple" = some b) : SeqK K H x (a || b) := ⟨_, t, kit2 (kit_ty h1) (kit_ty h2)⟩
theorem seqK_of {K : PySem.W.Frag} {H : Hp} {a : Addr} {xs : List V} (h : SeqA K H a xs) : SeqK K H (.ref a) true := by
  rcases h with h | h
  · rcases h with (h | ⟨o, h⟩) | ⟨o, its, n, hk, hc, _⟩
    · exact seqK_ty (a := true) (b := false) (.base (.lst h)) (by decide +kernel) (by decide +kernel)
    · exact seqK_ty (a := true) (b := false) (.base (.frz h)) (by decide +kernel) (by decide +kernel)
    · exact seqK_ty (a := true) (b := false) (.kList hk hc) (by decide +kernel) (by decide +kernel)
  · rcases h with (h | ⟨o, h⟩) | ⟨o, its, n, hk, hc, _⟩
    · exact seqK_ty (a := false) (b := true) (.base (.tup h)) (by decide +kernel) (by decide +kernel)
    · exact seqK_ty (a := false) (b := true) (.fTuple h) (by decide +kernel) (by decide +kernel)
    · exact seqK_ty (a := false) (b := true) (.kTuple hk hc) (by decide +kernel) (by decide +kernel)
/-! ### lists stay lists -/
def Typ (H H' : Hp) : Prop := ∀ a o, H a = some o → H' a = some o ∨ ((∃ xs, o = .lst xs) ∧ ∃ ys, H' a = some (.lst ys))
theorem Typ.refl (H : Hp) : Typ H H := fun _ _ h => .inl h
theorem Typ.of {H H' : Hp} (s : Same H H') : Typ H H' := fun _ _ h => .inl (s _ _ h)
theorem Typ.trans {H H1 H2 : Hp} (x : Typ H H1) (y : Typ H1 H2) : Typ H H2 := fun a o h => by
  rcases x a o h with h1 | ⟨hx, ys, h1⟩
  · exact y a o h1
  · rcases y a _ h1 with h2 | ⟨_, zs, h2⟩
    · exact .inr ⟨hx, ys, h2⟩
    · exact .inr ⟨hx, zs, h2⟩
theorem Typ.upd {H : Hp} {a : Addr} {xs ys : List V} (h : H a = some (.lst xs)) : Typ H (L2.upd H a (.lst ys)) := fun b o hb => by
  by_cases q : b = a
  · subst q
    rw [h] at hb
    cases hb
    exact .inr ⟨⟨_, rfl⟩, ys, upd_same⟩
  · exact .inl (by rw [upd_ne q]; exact hb)
theorem Typ.purse {H H' : Hp} {p c : Addr} (P : Purse p c H) (P' : Purse p c H') (s : SameX p H H') : Typ H H' := fun b o hb => by
  by_cases q : b = p
  · subst q
    obtain ⟨⟨xs, h⟩, _⟩ := P.there
    obtain ⟨⟨ys, h'⟩, _⟩ := P'.there
    rw [h] at hb
    cases hb
    exact .inr ⟨⟨_, rfl⟩, ys, h'⟩
  · exact .inl (s b o q hb)
theorem tyX_typ {K : PySem.W.Frag} {H H' : Hp} {x : V} {t : Value} (h : TyX K H x t) (s : Typ H H') : TyX K H' x t := by
  cases h with
  | base b =>
    refine .base ?_
    cases b with
    | non => exact .non
    | bl y => exact .bl y
    | int i => exact .int i
    | str y => exact .str y
    | flt y => exact .flt y
    | lst e => exact (s _ _ e).elim (fun h => .lst h) fun ⟨_, ys, h⟩ => .lst h
    | frz e => exact (s _ _ e).elim (fun h => .frz h) fun ⟨⟨_, z⟩, _⟩ => nomatch z
    | tup e => exact (s _ _ e).elim (fun h => .tup h) fun ⟨⟨_, z⟩, _⟩ => nomatch z
    | dK e => exact (s _ _ e).elim (fun h => .dK h) fun ⟨⟨_, z⟩, _⟩ => nomatch z
    | dT e => exact (s _ _ e).elim (fun h => .dT h) fun ⟨⟨_, z⟩, _⟩ => nomatch z
    | ins e cl ha hn ht hm => exact (s _ _ e).elim (fun h => .ins h cl ha hn ht hm) fun ⟨⟨_, z⟩, _⟩ => nomatch z
  | byt b => exact .byt b
  | set e => exact (s _ _ e).elim (fun h => .set h) fun ⟨⟨_, z⟩, _⟩ => nomatch z
  | kList e c => exact .kList e c
  | kTuple e c => exact .kTuple e c
  | kDict e c => exact .kDict e c
  | fTuple e => exact (s _ _ e).elim (fun h => .fTuple h) fun ⟨⟨_, z⟩, _⟩ => nomatch z
  | fDict e => exact (s _ _ e).elim (fun h => .fDict h) fun ⟨⟨_, z⟩, _⟩ => nomatch z
theorem Kd.typ {K : PySem.W.Frag} {H H' : Hp} {x : V} {o : Option Int} (h : Kd K H x o) (s : Typ H H') : Kd K H' x o := by
  cases o with
  | some n => exact h
  | none =>
    obtain ⟨t, i, b, ty, h1, h2, h3⟩ := (show IntK K H x false from h)
    exact ⟨t, i, b, tyX_typ ty s, h1, h2, h3⟩
theorem intK_no {K : PySem.W.Frag} {H : Hp} {x : V} {n : String} {i b : Bool} (t : TyX K H x (.type n)) (h1 : kitB n "int" = some i) (h2 : kitB n "bool" = some b) (h : (i && !b) = false) : IntK K H x false := ⟨_, i, b, t, kit_ty h1, kit_ty h2, h.symm⟩
theorem ixN_nat {n j : Nat} {z : Int} (e : z = (j : Int)) (h : j < n) : ixN n z = some j := by
  subst e
  unfold ixN
  rw [if_pos (by omega), if_pos (by omega)]
  rfl
/-! ### equality of words -/
theorem dec_int (a b : Int) : decide (V.int a = V.int b) = decide (a = b) := by
  by_cases e : a = b
  · rw [decide_eq_true e, decide_eq_true (congrArg V.int e)]
  · rw [decide_eq_false e, decide_eq_false (fun q => e (V.int.inj q))]
theorem dec_bl (a b : Bool) : decide (V.bl a = V.bl b) = (a == b) := by
  cases a <;> cases b <;> rfl
/-! ### steps: readings by their form -/
section
variable {K : PySem.W.Frag} {σ : L2.St} {H : Hp} {Q : VK} {QL : List V → Hp → Prop} {QB : Bool → Hp → Prop} {QO : Option Int → Hp → Prop} {QS : L2.St → Hp → Prop} {v w : V} {a0 a1 a2 a3 a4 a5 a6 a7 a8 a9 a10 a11 a12 a13 a14 a15 a16 a17 a18 a19 : Option V} {te tb tc : TE} {ta : TA} {t u : TT} {ts us : TS} {D : Ends} {g : TG}
def rTupOf (K : PySem.W.Frag) : List V → Hp → VK → Prop := fun xs H Q => ∃ p ys, xs = [.ref p] ∧ ((SqL K H p ys ∧ ∀ l, H l = none → Q (.ref l) (L2.upd H l (.tup ys))) ∨ SqT K H p ys ∧ Q (.ref p) H)
theorem call_tupK {X : Cx} {K : PySem.W.Frag} (e : X.K = K) : CallR X (.type "tuple") (rTupOf K) := e ▸ call_tuple_of
def rLstOf (K : PySem.W.Frag) : List V → Hp → VK → Prop := fun xs H Q => ∃ p ys, xs = [.ref p] ∧ (SqL K H p ys ∨ SqT K H p ys) ∧ ∀ l, H l = none → Q (.ref l) (L2.upd H l (.lst ys))
theorem call_listK {X : Cx} {K : PySem.W.Frag} (e : X.K = K) : CallR X (.type "list") (rLstOf K) := e ▸ call_list_of
def rLenOf (K : PySem.W.Frag) : List V → Hp → VK → Prop := fun xs H Q => ∃ p ys, xs = [.ref p] ∧ (SqL K H p ys ∨ SqT K H p ys) ∧ Q (.int (ys.length : Int)) H
theorem call_lenK {X : Cx} {K : PySem.W.Frag} (e : X.K = K) : CallR X (.builtin "len") (rLenOf K) := e ▸ call_len_seq
theorem all_cons {α : Type} {p : α → Prop} {a : α} {l : List α} (h : p a) (r : ∀ q ∈ l, p q) : ∀ q ∈ a :: l, p q := fun q hq => by
  rcases List.mem_cons.mp hq with e | e
  · rw [e]; exact h
  · exact r q e
theorem x_v0 (q : Q v H) : tVar 0 (some v :: σ) H Q := ⟨_, rfl, q⟩
theorem x_g0 (q : QS (some v :: σ) H) : gName 0 v (a0 :: σ) H QS := q
theorem x_v1 (q : Q v H) : tVar 1 (a0 :: some v :: σ) H Q := ⟨_, rfl, q⟩
theorem x_g1 (q : QS (a0 :: some v :: σ) H) : gName 1 v (a0 :: a1 :: σ) H QS := q
theorem x_v2 (q : Q v H) : tVar 2 (a0 :: a1 :: some v :: σ) H Q := ⟨_, rfl, q⟩
theorem x_g2 (q : QS (a0 :: a1 :: some v :: σ) H) : gName 2 v (a0 :: a1 :: a2 :: σ) H QS := q
theorem x_v3 (q : Q v H) : tVar 3 (a0 :: a1 :: a2 :: some v :: σ) H Q := ⟨_, rfl, q⟩
theorem x_g3 (q : QS (a0 :: a1 :: a2 :: some v :: σ) H) : gName 3 v (a0 :: a1 :: a2 :: a3 :: σ) H QS := q
theorem x_v4 (q : Q v H) : tVar 4 (a0 :: a1 :: a2 :: a3 :: some v :: σ) H Q := ⟨_, rfl, q⟩
theorem x_g4 (q : QS (a0 :: a1 :: a2 :: a3 :: some v :: σ) H) : gName 4 v (a0 :: a1 :: a2 :: a3 :: a4 :: σ) H QS := q
theorem x_v5 (q : Q v H) : tVar 5 (a0 :: a1 :: a2 :: a3 :: a4 :: some v :: σ) H Q := ⟨_, rfl, q⟩
theorem x_g5 (q : QS (a0 :: a1 :: a2 :: a3 :: a4 :: some v :: σ) H) : gName 5 v (a0 :: a1 :: a2 :: a3 :: a4 :: a5 :: σ) H QS := q
theorem x_v6 (q : Q v H) : tVar 6 (a0 :: a1 :: a2 :: a3 :: a4 :: a5 :: some v :: σ) H Q := ⟨_, rfl, q⟩
theorem x_g6 (q : QS (a0 :: a1 :: a2 :: a3 :: a4 :: a5 :: some v :: σ) H) : gName 6 v (a0 :: a1 :: a2 :: a3 :: a4 :: a5 :: a6 :: σ) H QS := q
theorem x_v7 (q : Q v H) : tVar 7 (a0 :: a1 :: a2 :: a3 :: a4 :: a5 :: a6 :: some v :: σ) H Q := ⟨_, rfl, q⟩
theorem x_g7 (q : QS (a0 :: a1 :: a2 :: a3 :: a4 :: a5 :: a6 :: some v :: σ) H) : gName 7 v (a0 :: a1 :: a2 :: a3 :: a4 :: a5 :: a6 :: a7 :: σ) H QS := q
theorem x_v8 (q : Q v H) : tVar 8 (a0 :: a1 :: a2 :: a3 :: a4 :: a5 :: a6 :: a7 :: some v :: σ) H Q := ⟨_, rfl, q⟩
theorem x_g8 (q : QS (a0 :: a1 :: a2 :: a3 :: a4 :: a5 :: a6 :: a7 :: some v :: σ) H) : gName 8 v (a0 :: a1 :: a2 :: a3 :: a4 :: a5 :: a6 :: a7 :: a8 :: σ) H QS := q
theorem x_v9 (q : Q v H) : tVar 9 (a0 :: a1 :: a2 :: a3 :: a4 :: a5 :: a6 :: a7 :: a8 :: some v :: σ) H Q := ⟨_, rfl, q⟩
theorem x_g9 (q : QS (a0 :: a1 :: a2 :: a3 :: a4 :: a5 :: a6 :: a7 :: a8 :: some v :: σ) H) : gName 9 v (a0 :: a1 :: a2 :: a3 :: a4 :: a5 :: a6 :: a7 :: a8 :: a9 :: σ) H QS := q
theorem x_v10 (q : Q v H) : tVar 10 (a0 :: a1 :: a2 :: a3 :: a4 :: a5 :: a6 :: a7 :: a8 :: a9 :: some v :: σ) H Q := ⟨_, rfl, q⟩
theorem x_g10 (q : QS (a0 :: a1 :: a2 :: a3 :: a4 :: a5 :: a6 :: a7 :: a8 :: a9 :: some v :: σ) H) : gName 10 v (a0 :: a1 :: a2 :: a3 :: a4 :: a5 :: a6 :: a7 :: a8 :: a9 :: a10 :: σ) H QS := q
theorem x_v11 (q : Q v H) : tVar 11 (a0 :: a1 :: a2 :: a3 :: a4 :: a5 :: a6 :: a7 :: a8 :: a9 :: a10 :: some v :: σ) H Q := ⟨_, rfl, q⟩
theorem x_g11 (q : QS (a0 :: a1 :: a2 :: a3 :: a4 :: a5 :: a6 :: a7 :: a8 :: a9 :: a10 :: some v :: σ) H) : gName 11 v (a0 :: a1 :: a2 :: a3 :: a4 :: a5 :: a6 :: a7 :: a8 :: a9 :: a10 :: a11 :: σ) H QS := q
theorem x_v12 (q : Q v H) : tVar 12 (a0 :: a1 :: a2 :: a3 :: a4 :: a5 :: a6 :: a7 :: a8 :: a9 :: a10 :: a11 :: some v :: σ) H Q := ⟨_, rfl, q⟩
theorem x_g12 (q : QS (a0 :: a1 :: a2 :: a3 :: a4 :: a5 :: a6 :: a7 :: a8 :: a9 :: a10 :: a11 :: some v :: σ) H) : gName 12 v (a0 :: a1 :: a2 :: a3 :: a4 :: a5 :: a6 :: a7 :: a8 :: a9 :: a10 :: a11 :: a12 :: σ) H QS := q
theorem x_v13 (q : Q v H) : tVar 13 (a0 :: a1 :: a2 :: a3 :: a4 :: a5 :: a6 :: a7 :: a8 :: a9 :: a10 :: a11 :: a12 :: some v :: σ) H Q := ⟨_, rfl, q⟩
theorem x_g13 (q : QS (a0 :: a1 :: a2 :: a3 :: a4 :: a5 :: a6 :: a7 :: a8 :: a9 :: a10 :: a11 :: a12 :: some v :: σ) H) : gName 13 v (a0 :: a1 :: a2 :: a3 :: a4 :: a5 :: a6 :: a7 :: a8 :: a9 :: a10 :: a11 :: a12 :: a13 :: σ) H QS := q
theorem x_v14 (q : Q v H) : tVar 14 (a0 :: a1 :: a2 :: a3 :: a4 :: a5 :: a6 :: a7 :: a8 :: a9 :: a10 :: a11 :: a12 :: a13 :: some v :: σ) H Q := ⟨_, rfl, q⟩
theorem x_g14 (q : QS (a0 :: a1 :: a2 :: a3 :: a4 :: a5 :: a6 :: a7 :: a8 :: a9 :: a10 :: a11 :: a12 :: a13 :: some v :: σ) H) : gName 14 v (a0 :: a1 :: a2 :: a3 :: a4 :: a5 :: a6 :: a7 :: a8 :: a9 :: a10 :: a11 :: a12 :: a13 :: a14 :: σ) H QS := q
theorem x_v15 (q : Q v H) : tVar 15 (a0 :: a1 :: a2 :: a3 :: a4 :: a5 :: a6 :: a7 :: a8 :: a9 :: a10 :: a11 :: a12 :: a13 :: a14 :: some v :: σ) H Q := ⟨_, rfl, q⟩
theorem x_g15 (q : QS (a0 :: a1 :: a2 :: a3 :: a4 :: a5 :: a6 :: a7 :: a8 :: a9 :: a10 :: a11 :: a12 :: a13 :: a14 :: some v :: σ) H) : gName 15 v (a0 :: a1 :: a2 :: a3 :: a4 :: a5 :: a6 :: a7 :: a8 :: a9 :: a10 :: a11 :: a12 :: a13 :: a14 :: a15 :: σ) H QS := q
theorem x_v16 (q : Q v H) : tVar 16 (a0 :: a1 :: a2 :: a3 :: a4 :: a5 :: a6 :: a7 :: a8 :: a9 :: a10 :: a11 :: a12 :: a13 :: a14 :: a15 :: some v :: σ) H Q := ⟨_, rfl, q⟩
theorem x_g16 (q : QS (a0 :: a1 :: a2 :: a3 :: a4 :: a5 :: a6 :: a7 :: a8 :: a9 :: a10 :: a11 :: a12 :: a13 :: a14 :: a15 :: some v :: σ) H) : gName 16 v (a0 :: a1 :: a2 :: a3 :: a4 :: a5 :: a6 :: a7 :: a8 :: a9 :: a10 :: a11 :: a12 :: a13 :: a14 :: a15 :: a16 :: σ) H QS := q
theorem x_v17 (q : Q v H) : tVar 17 (a0 :: a1 :: a2 :: a3 :: a4 :: a5 :: a6 :: a7 :: a8 :: a9 :: a10 :: a11 :: a12 :: a13 :: a14 :: a15 :: a16 :: some v :: σ) H Q := ⟨_, rfl, q⟩
theorem x_g17 (q : QS (a0 :: a1 :: a2 :: a3 :: a4 :: a5 :: a6 :: a7 :: a8 :: a9 :: a10 :: a11 :: a12 :: a13 :: a14 :: a15 :: a16 :: some v :: σ) H) : gName 17 v (a0 :: a1 :: a2 :: a3 :: a4 :: a5 :: a6 :: a7 :: a8 :: a9 :: a10 :: a11 :: a12 :: a13 :: a14 :: a15 :: a16 :: a17 :: σ) H QS := q
theorem x_v18 (q : Q v H) : tVar 18 (a0 :: a1 :: a2 :: a3 :: a4 :: a5 :: a6 :: a7 :: a8 :: a9 :: a10 :: a11 :: a12 :: a13 :: a14 :: a15 :: a16 :: a17 :: some v :: σ) H Q := ⟨_, rfl, q⟩
theorem x_g18 (q : QS (a0 :: a1 :: a2 :: a3 :: a4 :: a5 :: a6 :: a7 :: a8 :: a9 :: a10 :: a11 :: a12 :: a13 :: a14 :: a15 :: a16 :: a17 :: some v :: σ) H) : gName 18 v (a0 :: a1 :: a2 :: a3 :: a4 :: a5 :: a6 :: a7 :: a8 :: a9 :: a10 :: a11 :: a12 :: a13 :: a14 :: a15 :: a16 :: a17 :: a18 :: σ) H QS := q
theorem x_v19 (q : Q v H) : tVar 19 (a0 :: a1 :: a2 :: a3 :: a4 :: a5 :: a6 :: a7 :: a8 :: a9 :: a10 :: a11 :: a12 :: a13 :: a14 :: a15 :: a16 :: a17 :: a18 :: some v :: σ) H Q := ⟨_, rfl, q⟩
theorem x_g19 (q : QS (a0 :: a1 :: a2 :: a3 :: a4 :: a5 :: a6 :: a7 :: a8 :: a9 :: a10 :: a11 :: a12 :: a13 :: a14 :: a15 :: a16 :: a17 :: a18 :: some v :: σ) H) : gName 19 v (a0 :: a1 :: a2 :: a3 :: a4 :: a5 :: a6 :: a7 :: a8 :: a9 :: a10 :: a11 :: a12 :: a13 :: a14 :: a15 :: a16 :: a17 :: a18 :: a19 :: σ) H QS := q
theorem x_c (q : Q v H) : tC v σ H Q := q
theorem x_op {r : R2} (q : te σ H fun x H1 => tb σ H1 fun y H2 => r x y H2 Q) : tOp r te tb σ H Q := q
theorem x_un {r : V → Hp → VK → Prop} (q : te σ H fun x H1 => r x H1 Q) : tUn r te σ H Q := q
theorem x_test (q : te σ H fun x H1 => ∃ k, x = .bl k ∧ QB k H1) : tTest te σ H QB := q
theorem x_tB (q : te σ H fun x H1 => ∃ k, x = .bl k ∧ QB k H1) : tB te σ H QB := q
theorem x_and (q : t σ H fun c H1 => if c = true then u σ H1 QB else QB false H1) : tAnd t u σ H QB := q
theorem x_or (q : t σ H fun c H1 => if c = true then QB true H1 else u σ H1 QB) : tOr t u σ H QB := q
theorem x_not (q : t σ H fun c H1 => QB (!c) H1) : tNot t σ H QB := q
theorem x_andV (q : te σ H fun x H1 => ∃ c, x = .bl c ∧ if c = true then tb σ H1 Q else Q (.bl false) H1) : tAndV te tb σ H Q := q
theorem x_orV (q : te σ H fun x H1 => ∃ c, x = .bl c ∧ if c = true then Q (.bl true) H1 else tb σ H1 Q) : tOrV te tb σ H Q := q
theorem x_notV (q : te σ H fun x H1 => ∃ c, x = .bl c ∧ Q (.bl (!c)) H1) : tNotV te σ H Q := q
theorem x_if (q : t σ H fun c H1 => if c = true then te σ H1 Q else tb σ H1 Q) : tIf t te tb σ H Q := q
theorem x_ifS (q : t σ H fun b H1 => if b = true then ts D σ H1 else us D σ H1) : tIfS t ts us D σ H := q
theorem x_seq (q : ts ⟨us D, D.rt, D.bk, D.ct⟩ σ H) : tSeq ts us D σ H := q
theorem x_next (q : D.nx σ H) : tNext D σ H := q
theorem x_brk (q : D.bk σ H) : tBreak D σ H := q
theorem x_cont (q : D.ct σ H) : tCont D σ H := q
theorem x_nx {f : L2.St → Hp → Prop} {r : VK} {b c : L2.St → Hp → Prop} (q : f σ H) : Ends.nx ⟨f, r, b, c⟩ σ H := q
theorem x_rt {f : VK} {n b c : L2.St → Hp → Prop} (q : f v H) : Ends.rt ⟨n, f, b, c⟩ v H := q
theorem x_bk {f : L2.St → Hp → Prop} {r : VK} {n c : L2.St → Hp → Prop} (q : f σ H) : Ends.bk ⟨n, r, f, c⟩ σ H := q
theorem x_ct {f : L2.St → Hp → Prop} {r : VK} {n b : L2.St → Hp → Prop} (q : f σ H) : Ends.ct ⟨n, r, b, f⟩ σ H := q
theorem x_drop (q : te σ H fun _ H1 => D.nx σ H1) : tDrop te D σ H := q
theorem x_ret (q : te σ H fun x H1 => D.rt x H1) : tRet te D σ H := q
theorem x_retN (q : D.rt .non H) : tRetN D σ H := q
theorem x_asg (q : te σ H fun x H1 => g x σ H1 D.nx) : tAsg te g D σ H := q
theorem x_nil (q : QL [] H) : tNil σ H QL := q
theorem x_cons (q : te σ H fun x H1 => ta σ H1 fun xs H2 => QL (x :: xs) H2) : tCons te ta σ H QL := q
theorem x_call {sp : Sp} {dvs : List V} {E : XK} (q : ta σ H fun vs H1 => sp (vs ++ dvs) H1 Q E) : tCall sp dvs E ta σ H Q := q
theorem x_cb {r : List V → Hp → VK → Prop} (q : ta σ H fun vs H1 => r vs H1 Q) : tCB r ta σ H Q := q
theorem x_bm {T : String} {r : V → List V → Hp → VK → Prop} (q : te σ H fun x H1 => tyV K T x H1 ∧ ta σ H1 fun xs H2 => r x xs H2 Q) : tBM K T r te ta σ H Q := q
theorem x_sl {r : V → Option Int → Option Int → Hp → VK → Prop} {tl th : TO} (q : te σ H fun x H1 => tl σ H1 fun l H2 => th σ H2 fun u H3 => r x l u H3 Q) : tSl r te tl th σ H Q := q
theorem x_np (q : QO none H) : tNoPart σ H QO := q
theorem x_pt (q : te σ H fun x H1 => ∃ i, x = .int i ∧ QO (some i) H1) : tPart te σ H QO := q
theorem x_exI {P : Int → Prop} {i : Int} (q : P i) : ∃ k, V.int i = V.int k ∧ P k := ⟨_, rfl, q⟩
theorem x_exB {P : Bool → Prop} {b : Bool} (q : P b) : ∃ k, V.bl b = V.bl k ∧ P k := ⟨_, rfl, q⟩
theorem x_I0 {f : Int → Int → V} {i j : Int} (q : Q (f i j) H) : rI0 f (.int i) (.int j) H Q := ⟨_, _, rfl, rfl, q⟩
theorem x_eqI {i j : Int} (q : Q (.bl (decide (i = j))) H) : rEq (.int i) (.int j) H Q := ⟨rfl, by rw [My.dec_int]; exact q⟩
theorem x_neI {i j : Int} (q : Q (.bl (!decide (i = j))) H) : rNe (.int i) (.int j) H Q := ⟨rfl, by rw [My.dec_int]; exact q⟩
theorem x_eqS {i j : Str} (q : Q (.bl (decide (i = j))) H) : rEq (.str i) (.str j) H Q := ⟨rfl, by
  have e : decide (V.str i = V.str j) = decide (i = j) := by
    by_cases h : i = j
    · rw [decide_eq_true h, decide_eq_true (congrArg V.str h)]
    · rw [decide_eq_false h, decide_eq_false (fun z => h (V.str.inj z))]
  rw [e]; exact q⟩
theorem x_neS {i j : Str} (q : Q (.bl (!decide (i = j))) H) : rNe (.str i) (.str j) H Q := ⟨rfl, by
  have e : decide (V.str i = V.str j) = decide (i = j) := by
    by_cases h : i = j
    · rw [decide_eq_true h, decide_eq_true (congrArg V.str h)]
    · rw [decide_eq_false h, decide_eq_false (fun z => h (V.str.inj z))]
  rw [e]; exact q⟩
def brB (b : Bool) (p q : Prop) : Prop := (b = true → p) ∧ (b = false → q)
theorem x_ite {b : Bool} {p q : Prop} (h : brB b p q) : if b = true then p else q := by
  cases b with
  | true => rw [if_pos rfl]; exact h.1 rfl
  | false => rw [if_neg Bool.false_ne_true]; exact h.2 rfl
theorem x_brT {p q : Prop} (h : p) : brB true p q := ⟨fun _ => h, fun z => nomatch z⟩
theorem x_brF {p q : Prop} (h : q) : brB false p q := ⟨fun z => (nomatch z), fun _ => h⟩
theorem x_brN {b : Bool} {p q : Prop} (h : brB b q p) : brB (!b) p q := by
  cases b with
  | true => exact x_brF (h.1 rfl)
  | false => exact x_brT (h.2 rfl)
theorem br2 {b : Bool} {p q : Prop} (h1 : b = true → p) (h2 : b = false → q) : brB b p q := ⟨h1, h2⟩
theorem brD {c : Prop} [Decidable c] {p q : Prop} (h1 : c → p) (h2 : ¬ c → q) : brB (decide c) p q := ⟨fun h => h1 (of_decide_eq_true h), fun h => h2 (of_decide_eq_false h)⟩
theorem brT {b : Bool} {p q : Prop} (e : b = true) (h : p) : brB b p q := ⟨fun _ => h, fun z => by rw [e] at z; cases z⟩
theorem brF {b : Bool} {p q : Prop} (e : b = false) (h : q) : brB b p q := ⟨fun z => (by rw [e] at z; cases z), fun _ => h⟩
theorem brDT {c : Prop} [Decidable c] {p q : Prop} (e : c) (h : p) : brB (decide c) p q := brT (decide_eq_true e) h
theorem brDF {c : Prop} [Decidable c] {p q : Prop} (e : ¬ c) (h : q) : brB (decide c) p q := brF (decide_eq_false e) h
theorem x_ixL {a : Addr} {xs : List V} {i : Int} (h : H a = some (.lst xs)) (hi : atI xs i = some v) (q : Q v H) : rIxL K (.ref a) (.int i) H Q := ⟨_, _, _, _, rfl, rfl, SqL.of h, hi, q⟩
theorem x_ixT {a : Addr} {xs : List V} {i : Int} (h : H a = some (.tup xs)) (hi : atI xs i = some v) (q : Q v H) : rIxT K (.ref a) (.int i) H Q := ⟨_, _, _, _, rfl, rfl, SqT.of h, hi, q⟩
def rNewL (xs : List V) (H : Hp) (Q : VK) : Prop := xs.length ≤ sizeLine ∧ ∀ p, H p = none → Q (.ref p) (L2.upd H p (.lst xs))
def rNewT (xs : List V) (H : Hp) (Q : VK) : Prop := xs.length ≤ sizeLine ∧ ∀ p, H p = none → Q (.ref p) (L2.upd H p (.tup xs))
theorem x_lst (q : ta σ H fun xs H1 => rNewL xs H1 Q) : tLst ta σ H Q := q
theorem x_tup (q : ta σ H fun xs H1 => rNewT xs H1 Q) : tTup ta σ H Q := q
theorem x_new {n : Nat} {P : Prop} (h : n ≤ 100000) (q : P) : n ≤ sizeLine ∧ P := ⟨Nat.le_trans h (by decide), q⟩
theorem x_sFld {f : Str} (q : tb σ H fun y H1 => te σ H1 fun x H2 => ∃ a C dx fs, x = .ref a ∧ H2 a = some (.ins C dx fs) ∧ Cls K C ∧ NoAttr K C f ∧ fs.length < 1000 ∧ D.nx σ (L2.upd H2 a (.ins C dx (putF f y fs)))) : sFld K te tb f D σ H := q
theorem x_fld {f : Str} (q : te σ H fun x H1 => ∃ a C dx fs v, x = .ref a ∧ H1 a = some (.ins C dx fs) ∧ Cls K C ∧ NoAttr K C f ∧ fs.lookup f = some v ∧ Q v H1) : tFld K te f σ H Q := q
/-- a field is stored -/
theorem fstore {f : Str} {y : V} {p C dx : Addr} {fs fs' : List (Str × V)} {P : Hp → Prop} (h : H p = some (.ins C dx fs)) (c : Cls K C) (n : NoAttr K C f) (l : fs.length < 1000) (e : putF f y fs = fs') (q : ∀ H', SameX p H H' → H' p = some (.ins C dx fs') → P H') :
    ∃ a C dx fs, V.ref p = .ref a ∧ H a = some (.ins C dx fs) ∧ Cls K C ∧ NoAttr K C f ∧ fs.length < 1000 ∧ P (L2.upd H a (.ins C dx (putF f y fs))) := ⟨p, C, dx, fs, rfl, h, c, n, l, q _ SameX.upd (by rw [e]; exact upd_same)⟩
/-- a field is read -/
theorem fget {f : Str} {v : V} {p C dx : Addr} {fs : List (Str × V)} {P : V → Prop} (h : H p = some (.ins C dx fs)) (c : Cls K C) (n : NoAttr K C f) (e : fs.lookup f = some v) (q : P v) :
    ∃ a C dx fs v, V.ref p = .ref a ∧ H a = some (.ins C dx fs) ∧ Cls K C ∧ NoAttr K C f ∧ fs.lookup f = some v ∧ P v := ⟨p, C, dx, fs, v, rfl, h, c, n, e, q⟩
/-- tuple(seq) -/
theorem tupleOf {a : Addr} {xs : List V} (h : SeqA K H a xs) (q : ∀ l H', Same H H' → SqT K H' l xs → Q (.ref l) H') :
    rTupOf K [.ref a] H Q :=
  ⟨a, xs, rfl, h.elim (fun h => .inl ⟨h, fun l hl => q l _ (Same.new hl) (SqT.of upd_same)⟩) fun h => .inr ⟨h, q a H (Same.refl H) h⟩⟩
/-- list(seq) -/
theorem listOf {a : Addr} {xs : List V} (h : SeqA K H a xs) (q : ∀ l H', H l = none → Same H H' → H' l = some (.lst xs) → Q (.ref l) H') :
    rLstOf K [.ref a] H Q := ⟨a, xs, rfl, h, fun l hl => q l _ hl (Same.new hl) upd_same⟩
/-- new lists, new tuples, sums of lists, appends, by what stands afterwards -/
theorem newList {xs : List V} (h : xs.length ≤ 100000) (q : ∀ l H', H l = none → Same H H' → H' l = some (.lst xs) → Q (.ref l) H') : rNewL xs H Q := ⟨Nat.le_trans h (by decide), fun l hl => q l _ hl (Same.new hl) upd_same⟩
theorem newTup {xs : List V} (h : xs.length ≤ 100000) (q : ∀ l H', H l = none → Same H H' → H' l = some (.tup xs) → Q (.ref l) H') : rNewT xs H Q := ⟨Nat.le_trans h (by decide), fun l hl => q l _ hl (Same.new hl) upd_same⟩
theorem catList {a b : Addr} {xs zs : List V} (ha : H a = some (.lst xs)) (hb : H b = some (.lst zs)) (h : xs.length + zs.length ≤ 100000) (q : ∀ l H', H l = none → Same H H' → H' l = some (.lst (xs ++ zs)) → Q (.ref l) H') : rCat (.ref a) (.ref b) H Q :=
  ⟨a, b, xs, zs, rfl, rfl, ha, hb, Nat.le_trans h (by decide), fun l hl => q l _ hl (Same.new hl) upd_same⟩
theorem appList {a : Addr} {xs : List V} {y : V} (ha : H a = some (.lst xs)) (h : xs.length < 100000) (q : ∀ H', SameX a H H' → H' a = some (.lst (xs ++ [y])) → Q .non H') : rAppend (.ref a) [y] H Q := ⟨a, xs, y, rfl, rfl, ha, Nat.lt_of_lt_of_le h (by decide), q _ SameX.upd upd_same⟩
theorem isList {a : Addr} {xs : List V} (ha : H a = some (.lst xs)) : tyV K "list" (.ref a) H := .inl ⟨rfl, xs, SqL.of ha⟩
theorem ixL {a : Addr} {xs : List V} {i : Nat} (ha : H a = some (.lst xs)) (hi : xs[i]? = some v) (q : Q v H) : rIxL K (.ref a) (.int (i : Int)) H Q := ⟨a, xs, i, v, rfl, rfl, SqL.of ha, atI_nat hi, q⟩
theorem ixT {a : Addr} {xs : List V} {i : Nat} (ha : SqT K H a xs) (hi : xs[i]? = some v) (q : Q v H) : rIxT K (.ref a) (.int (i : Int)) H Q := ⟨a, xs, i, v, rfl, rfl, ha, atI_nat hi, q⟩
theorem setL {a : Addr} {xs : List V} {i : Nat} {P : Hp → Prop} (ha : H a = some (.lst xs)) (hi : i < xs.length) (q : ∀ H', SameX a H H' → H' a = some (.lst (xs.set i v)) → P H') : rSetL (.ref a) (.int (i : Int)) v H P := ⟨a, xs, i, i, rfl, rfl, ha, ixN_nat rfl hi, q _ SameX.upd upd_same⟩
theorem lenA {a : Addr} {xs : List V} (h : SeqA K H a xs) (q : Q (.int (xs.length : Int)) H) : rLenOf K [.ref a] H Q := ⟨a, xs, rfl, h, q⟩
/-- what a for asks once its turns are known -/
def forK (J : It) (g : TG) (tb : TS) (D : Ends) (σ : L2.St) (H : Hp) : Prop := ∃ W : Nat → Nat → L2.St → Hp → Prop, (∃ m, W 0 m σ H) ∧ ∀ i m σ H, W i m σ H →
  (J.stop i H ∧ D.nx σ H) ∨ (J.go i H ∧ ∃ N : L2.St → Hp → Prop, (∀ σ' H', N σ' H' → ∃ m', m' < m ∧ W (i + 1) m' σ' H') ∧ ∀ x H', J.yld i H x H' → g x σ H' fun σ2 H2 => tb { D with nx := N, ct := N, bk := D.nx } σ2 H2)
def forI (g : TG) (tb : TS) (D : Ends) (σ : L2.St) (n : Int) (H : Hp) : Prop := ∃ j : Int, [V.int n] = [.int j] ∧ -(2 ^ 62) ≤ j ∧ j < 2 ^ 62 ∧ forK (Itr 0 j.toNat) g tb D σ H
theorem x_for1 (q : ta σ H fun vs H1 => ∃ j : Int, vs = [.int j] ∧ -(2 ^ 62) ≤ j ∧ j < 2 ^ 62 ∧ forK (Itr 0 j.toNat) g ts D σ H1) : tFor (iRng1 ta) g ts D σ H := q
theorem x_forL (q : te σ H fun x H1 => ∃ a, x = .ref a ∧ (∃ xs, SqL K H1 a xs) ∧ forK (Itl K a) g ts D σ H1) : tFor (iList K te) g ts D σ H := q
theorem x_forT (q : te σ H fun x H1 => ∃ a, x = .ref a ∧ (∃ xs, SqT K H1 a xs) ∧ forK (Itt K a) g ts D σ H1) : tFor (iTup K te) g ts D σ H := q
theorem rng1 {n : Int} (h0 : -100000 ≤ n) (h1 : n ≤ 100000) (q : forK (Itr 0 n.toNat) g ts D σ H) : ∃ j : Int, [V.int n] = [.int j] ∧ -(2 ^ 62) ≤ j ∧ j < 2 ^ 62 ∧ forK (Itr 0 j.toNat) g ts D σ H := ⟨n, rfl, by omega, by omega, q⟩
theorem overL {a : Addr} {xs : List V} (h : SqL K H a xs) (q : forK (Itl K a) g ts D σ H) : ∃ b, V.ref a = .ref b ∧ (∃ xs, SqL K H b xs) ∧ forK (Itl K b) g ts D σ H := ⟨a, rfl, ⟨_, h⟩, q⟩
theorem overT {a : Addr} {xs : List V} (h : SqT K H a xs) (q : forK (Itt K a) g ts D σ H) : ∃ b, V.ref a = .ref b ∧ (∃ xs, SqT K H b xs) ∧ forK (Itt K b) g ts D σ H := ⟨a, rfl, ⟨_, h⟩, q⟩
end
/-! ### steps: more readings by their form -/
theorem pe_fldK {X : Cx} {K : PySem.W.Frag} {e : Expr} {f : Str} {pos : Pos} {ta : TE} (eK : X.K = K) (he : PE X e ta) (hb : attributeBase e f X.env (eval e X.env) = eval e X.env) : PE X (.Attribute e f pos) (tFld K ta f) := eK ▸ pe_fld he hb
section
variable {K : PySem.W.Frag} {σ : L2.St} {H : Hp} {Q : VK} {QS : L2.St → Hp → Prop} {v : V} {te tb ti : TE} {tt : TT} {D : Ends}
theorem x_gsub {to ti : TE} {t : TSet} (q : to σ H fun o H1 => ti σ H1 fun i H2 => t o i v H2 fun H3 => QS σ H3) : gSub to ti t v σ H QS := q
theorem x_int1 {P : Int → Prop} {R : Prop} {i : Int} (q : P i) : (∃ k, [V.int i] = [V.int k] ∧ P k) ∨ R := .inl ⟨i, rfl, q⟩
theorem x_exL {P : Int → Prop} {i : Int} (q : P i) : ∃ k, [V.int i] = [V.int k] ∧ P k := ⟨i, rfl, q⟩
theorem min_if (i j : Int) : (if j < i then j else i) = min i j := by rw [Int.min_def]; split <;> split <;> omega
theorem max_if (i j : Int) : (if j > i then j else i) = max i j := by rw [Int.max_def]; split <;> split <;> omega
def rMin2 : List V → Hp → VK → Prop := fun xs H Q => ∃ i j, xs = [.int i, .int j] ∧ Q (.int (min i j)) H
def rMax2 : List V → Hp → VK → Prop := fun xs H Q => ∃ i j, xs = [.int i, .int j] ∧ Q (.int (max i j)) H
def ab (x : Int) : Int := if x < 0 then -x else x
def rAbs : List V → Hp → VK → Prop := fun xs H Q => ∃ i, xs = [.int i] ∧ Q (.int (ab i)) H
theorem call_min2K {X : Cx} (hc : X.calm = true) : CallR X (.builtin "min") rMin2 := by
  intro pins s σ H xs us Q I r h
  obtain ⟨i, j, e, q⟩ := h
  exact call_min2 hc pins s σ H xs us Q I r ⟨i, j, e, by rw [min_if]; exact q⟩
theorem call_max2K {X : Cx} (hc : X.calm = true) : CallR X (.builtin "max") rMax2 := by
  intro pins s σ H xs us Q I r h
  obtain ⟨i, j, e, q⟩ := h
  exact call_max2 hc pins s σ H xs us Q I r ⟨i, j, e, by rw [max_if]; exact q⟩
theorem call_absK {X : Cx} : CallR X (.builtin "abs") rAbs := call_abs
theorem x_min2 {i j : Int} (q : Q (.int (min i j)) H) : rMin2 [.int i, .int j] H Q := ⟨i, j, rfl, q⟩
theorem x_max2 {i j : Int} (q : Q (.int (max i j)) H) : rMax2 [.int i, .int j] H Q := ⟨i, j, rfl, q⟩
theorem x_abs {i : Int} (q : Q (.int (ab i)) H) : rAbs [.int i] H Q := ⟨i, rfl, q⟩
theorem x_brTT {p q : Prop} (h : p) : brB (true && true) p q := x_brT h
theorem x_mod {i j : Int} (h : 0 < j) (q : Q (.int (i % j)) H) : rI (fun _ j => 0 < j) (fun i j => .int (i % j)) (.int i) (.int j) H Q := ⟨i, j, rfl, rfl, h, q⟩
theorem x_mulR {i j : Int} (h : -(2 ^ 64) < j ∧ j < 2 ^ 64) (q : Q (.int (i * j)) H) : rI CMul (fun i j => .int (i * j)) (.int i) (.int j) H Q := ⟨i, j, rfl, rfl, .inr h, q⟩
theorem x_mulL {i j : Int} (h : -(2 ^ 64) < i ∧ i < 2 ^ 64) (q : Q (.int (i * j)) H) : rI CMul (fun i j => .int (i * j)) (.int i) (.int j) H Q := ⟨i, j, rfl, rfl, .inl h, q⟩
theorem x_div {i j : Int} (h : 0 < j ∧ j < 1073741824) (q : Q (.int (i / j)) H) : rI CDiv (fun i j => .int (i / j)) (.int i) (.int j) H Q := ⟨i, j, rfl, rfl, h, q⟩
theorem x_divW {i j : Int} (h0 : 0 < j) (h : j < 2 ^ 62) (q : Q (.int (i / j)) H) : rI CDivW (fun i j => .int (i / j)) (.int i) (.int j) H Q := ⟨i, j, rfl, rfl, ⟨h0, Nat.lt_trans (PySem.Flt.log2_lt_of (k := 62) (by decide) (by omega)) (by decide)⟩, q⟩
theorem x_pow {i j : Int} (h : 0 ≤ j ∧ j ≤ 1000000 ∧ i.natAbs < 2 ^ 64) (q : Q (.int (i ^ j.toNat)) H) : rI CPow (fun i j => .int (i ^ j.toNat)) (.int i) (.int j) H Q := ⟨i, j, rfl, rfl, h, q⟩
theorem x_nN {P : Prop} (q : P) : V.non = V.non ∧ P := ⟨rfl, q⟩
theorem x_chain {r r' : R2} {tc : TE} (q : te σ H fun x H1 => tb σ H1 fun y H2 => r x y H2 fun z H3 => ∃ k, z = .bl k ∧ brB k (tc σ H3 fun w' H4 => r' y w' H4 Q) (Q (.bl false) H3)) : tChain r r' te tb tc σ H Q := by
  refine cast (congrArg (fun z => te σ H z) ?_) q
  funext x H1
  refine congrArg (fun z => tb σ H1 z) ?_
  funext y H2
  refine congrArg (fun z => r x y H2 z) ?_
  funext z H3
  refine congrArg Exists ?_
  funext k
  refine congrArg (fun p => z = .bl k ∧ p) ?_
  exact propext ⟨fun h => x_ite h, fun h => by cases k with
    | true => exact x_brT (by rw [if_pos rfl] at h; exact h)
    | false => exact x_brF (by rw [if_neg Bool.false_ne_true] at h; exact h)⟩
theorem x_meth {C : Addr} {m : Str} {sp : Sp} {dvs : List V} {E : XK} {ta : TE} {t : TA} (q : ta σ H fun x H1 => ∃ a dx fs, x = .ref a ∧ H1 a = some (.ins C dx fs) ∧ fs.lookup m = none ∧ t σ H1 fun vs H2 => sp (x :: (vs ++ dvs)) H2 Q E) : tMeth C m sp dvs E ta t σ H Q := q
theorem x_prop {C : Addr} {sp : Sp} {dvs : List V} {E : XK} {ta : TE} (q : ta σ H fun x H1 => ∃ a dx fs, x = .ref a ∧ H1 a = some (.ins C dx fs) ∧ sp (.ref a :: dvs) H1 Q E) : tProp C sp dvs E ta σ H Q := q
theorem x_make {C : Addr} {sp : Sp} {dvs : List V} {E : XK} {t : TA} (q : t σ H fun vs H1 => ∀ x dx, H1 x = none → H1 dx = none → dx ≠ x → sp (.ref x :: (vs ++ dvs)) (upd (upd H1 dx (.own x)) x (.ins C dx [])) (fun v H2 => v = .non ∧ Q (.ref x) H2) E) : tMake C sp dvs E t σ H Q := q
theorem x_fldaug {rd : V → V → Hp → VK → Prop} {f : Str} (q : te σ H fun x H1 => ∃ a C dx fs v, x = .ref a ∧ H1 a = some (.ins C dx fs) ∧ Cls K C ∧ NoAttr K C f ∧ fs.lookup f = some v ∧ tb σ H1 fun y H2 => rd v y H2 fun z H3 => ∃ dx' fs', H3 a = some (.ins C dx' fs') ∧ fs'.length < 1000 ∧ D.nx σ (L2.upd H3 a (.ins C dx' (putF f z fs')))) : sFldAug K te tb rd f D σ H := q
theorem x_rAdd {i j : Int} (q : Q (.int (i + j)) H) : rAdd (.int i) (.int j) H Q := ⟨i, j, rfl, rfl, q⟩
theorem x_ipI {f : Int → Int → Int} {i j : Int} (q : Q (.int (f i j)) H) : ipI f (.int i) (.int j) H Q := ⟨i, j, rfl, rfl, q⟩
theorem x_rSub {i j : Int} (q : Q (.int (i - j)) H) : rSub (.int i) (.int j) H Q := ⟨i, j, rfl, rfl, q⟩
theorem rngF {n : Int} {g : TG} {ts : TS} (h0 : -100000 ≤ n) (h1 : n ≤ 100000) (q : forK (Itr 0 n.toNat) g ts D σ H) : -(2 ^ 62) ≤ n ∧ n < 2 ^ 62 ∧ forK (Itr 0 n.toNat) g ts D σ H := ⟨by omega, by omega, q⟩
/-- a field is raised -/
theorem fraise {f : Str} {p C dx : Addr} {fs : List (Str × V)} {P : Hp → Prop} {T : V → V → Hp → VK → Prop} {tv : TE} {σ : L2.St} (h : H p = some (.ins C dx fs)) (c : Cls K C) (n : NoAttr K C f) (l : fs.length < 1000) (e : fs.lookup f = some v)
    (q : tv σ H fun y H2 => T v y H2 fun z H3 => ∃ dx' fs', H3 p = some (.ins C dx' fs') ∧ fs'.length < 1000 ∧ P (L2.upd H3 p (.ins C dx' (putF f z fs')))) :
    ∃ a C dx fs v, V.ref p = .ref a ∧ H a = some (.ins C dx fs) ∧ Cls K C ∧ NoAttr K C f ∧ fs.lookup f = some v ∧ tv σ H fun y H2 => T v y H2 fun z H3 => ∃ dx' fs', H3 a = some (.ins C dx' fs') ∧ fs'.length < 1000 ∧ P (L2.upd H3 a (.ins C dx' (putF f z fs'))) := ⟨p, C, dx, fs, v, rfl, h, c, n, e, q⟩
theorem fput {f : Str} {z : V} {p C dx : Addr} {fs fs' : List (Str × V)} {P : Hp → Prop} (h : H p = some (.ins C dx fs)) (l : fs.length < 1000) (e : putF f z fs = fs') (q : ∀ H', SameX p H H' → H' p = some (.ins C dx fs') → P H') :
    ∃ dx' fs', H p = some (.ins C dx' fs') ∧ fs'.length < 1000 ∧ P (L2.upd H p (.ins C dx' (putF f z fs'))) := ⟨dx, fs, h, l, q _ SameX.upd (by rw [e]; exact upd_same)⟩
end
/-! ### o[i] op= e, o a list -/
theorem pget_list {X : Cx} : PGet X (rIxL X.K) := by
  intro pins s σ H o i ov iv Q I ro ri h
  obtain ⟨p, xs, k, z, rfl, rfl, hq, he, q⟩ := h
  cases ro
  obtain ⟨t, rfl⟩ := ri
  obtain ⟨its, r, pl, hz⟩ := I.list hq
  obtain ⟨j, h1, h2, h3, h4, h5⟩ := atI_get he
  obtain ⟨w, ew, rw'⟩ := r.get h2
  have hl := r.length
  have hn := line63
  have fin : EP X pins σ Q w s := ⟨z, H, I, rw', q⟩
  by_cases h0 : 0 ≤ k
  · have hj : k.toNat = j := by
      rw [seqIndex_of h0 h5] at h1
      exact Option.some.inj h1
    exact wpAny_getItem_list pl.isList h0 (by omega) (by rw [hj]; simpa using ew) fin
  · have hj : (k + (its.toArray.size : Int)).toNat = j := by
      rw [seqIndex_neg (by omega) h4] at h1
      rw [List.size_toArray, ← hl]
      exact Option.some.inj h1
    exact wpAny_getItem_list_neg pl.isList (by omega) (by rw [List.size_toArray] <;> omega) (by omega) (by rw [hj]; simpa using ew) fin
theorem x_augS {to ti te : TE} {tget : V → V → Hp → VK → Prop} {tip : TIp} {tset : TSet} {D : Ends} {σ : L2.St} {H : Hp} (q : to σ H fun o H1 => ti σ H1 fun i H2 => tget o i H2 fun x H3 => te σ H3 fun y H4 => tip x y H4 fun z H5 => tset o i z H5 fun H6 => D.nx σ H6) : tAugS to ti te tget tip tset D σ H := q
theorem x_negU {i : Int} {H : Hp} {Q : VK} (q : Q (.int (-i)) H) : rU (fun i => .int (-i)) (.int i) H Q := ⟨i, rfl, q⟩
/-- for_range, by its name -/
theorem for_rangeK {lo : Int} {n : Nat} {g : TG} {ts : TS} {D : Ends} {σ : L2.St} {H : Hp} (Pv : Nat → L2.St → Hp → Prop) (h0 : Pv 0 σ H)
    (hs : ∀ i σ H, i < n → Pv i σ H → g (.int (lo + i)) σ H fun σ2 H2 => ts { D with nx := Pv (i + 1), ct := Pv (i + 1), bk := D.nx } σ2 H2) (hd : ∀ σ H, Pv n σ H → D.nx σ H) : forK (Itr lo n) g ts D σ H := for_range Pv h0 hs hd
local macro_rules
  | `(tactic| w_up) => `(tactic| with_reducible first
    | refine x_seq ?_ | refine x_asg ?_ | refine x_op ?_ | refine x_c ?_
    | refine x_v0 ?_ | refine x_v1 ?_ | refine x_v2 ?_ | refine x_v3 ?_ | refine x_v4 ?_ | refine x_v5 ?_ | refine x_v6 ?_ | refine x_v7 ?_ | refine x_v8 ?_ | refine x_v9 ?_ | refine x_v10 ?_ | refine x_v11 ?_ | refine x_v12 ?_ | refine x_v13 ?_ | refine x_v14 ?_ | refine x_v15 ?_ | refine x_v16 ?_ | refine x_v17 ?_ | refine x_v18 ?_ | refine x_v19 ?_
    | refine x_g0 ?_ | refine x_g1 ?_ | refine x_g2 ?_ | refine x_g3 ?_ | refine x_g4 ?_ | refine x_g5 ?_ | refine x_g6 ?_ | refine x_g7 ?_ | refine x_g8 ?_ | refine x_g9 ?_ | refine x_g10 ?_ | refine x_g11 ?_ | refine x_g12 ?_ | refine x_g13 ?_ | refine x_g14 ?_ | refine x_g15 ?_ | refine x_g16 ?_ | refine x_g17 ?_ | refine x_g18 ?_ | refine x_g19 ?_
    | refine x_cons ?_ | refine x_nil ?_ | refine x_I0 ?_ | refine x_exI ?_ | refine x_exB ?_ | refine x_eqI ?_ | refine x_neI ?_ | refine x_eqS ?_ | refine x_neS ?_
    | refine x_test ?_ | refine x_tB ?_ | refine x_ifS ?_ | refine x_if ?_ | refine x_and ?_ | refine x_or ?_ | refine x_not ?_ | refine x_andV ?_ | refine x_orV ?_ | refine x_notV ?_
    | refine x_ite ?_ | refine x_brT ?_ | refine x_brF ?_ | refine x_brN ?_
    | refine x_call ?_ | refine x_for1 ?_ | refine x_forL ?_ | refine x_forT ?_ | refine x_sFld ?_ | refine x_fld ?_ | refine x_cb ?_ | refine x_bm ?_ | refine x_un ?_ | refine x_sl ?_ | refine x_np ?_ | refine x_pt ?_
    | refine x_next ?_ | refine x_ret ?_ | refine x_retN ?_ | refine x_drop ?_ | refine x_brk ?_ | refine x_cont ?_ | refine x_lst ?_ | refine x_tup ?_ | dsimp only | dsimp only [List.set_cons_succ, List.set_cons_zero])
local macro_rules
  | `(tactic| o_args) => `(tactic| repeat w_up)
local macro_rules
  | `(tactic| w_up) => `(tactic| first
    | with_reducible refine x_augS ?_ | with_reducible refine x_negU ?_ | with_reducible refine x_gsub ?_ | with_reducible refine x_int1 ?_ | with_reducible refine x_exL ?_ | with_reducible refine x_min2 ?_ | with_reducible refine x_max2 ?_ | with_reducible refine x_abs ?_ | with_reducible refine x_brTT ?_
    | with_reducible refine x_mod (by decide) ?_ | with_reducible refine x_mulR ⟨by decide, by decide⟩ ?_ | with_reducible refine x_mulL ⟨by decide, by decide⟩ ?_ | with_reducible refine x_div ⟨by decide, by decide⟩ ?_
    | with_reducible refine x_pow ⟨by decide, by decide, by decide⟩ ?_
    | with_reducible refine x_nN ?_ | with_reducible refine x_chain ?_ | with_reducible refine x_meth ?_ | with_reducible refine x_prop ?_ | with_reducible refine x_make ?_ | with_reducible refine x_fldaug ?_ | with_reducible refine x_ipI ?_ | with_reducible refine x_rAdd ?_ | with_reducible refine x_rSub ?_
    | with_reducible refine brDT (by decide) ?_ | with_reducible refine brDF (by decide) ?_
    | with_reducible refine x_ixT (by assumption) (by with_unfolding_all exact rfl) ?_
    | with_reducible refine x_ixL (by assumption) (by with_unfolding_all exact rfl) ?_)
/-! ### general words -/
theorem Same.ofX {D : Addr} {H H' : Hp} (hD : H D = none) (s : SameX D H H') : Same H H' := fun b o e => s b o (ne_of_none e hD) e
theorem getq_lt {α : Type} {xs : List α} {i : Nat} {x : α} (h : xs[i]? = some x) : i < xs.length := (List.getElem?_eq_some_iff.mp h).1
theorem getq_app {α : Type} {vs : List α} {v w : α} {k : Nat} (h : (vs ++ [v])[k]? = some w) : (k < vs.length ∧ vs[k]? = some w) ∨ (k = vs.length ∧ w = v) := by
  have hk := getq_lt h
  rw [List.length_append] at hk
  have hk : k < vs.length + 1 := hk
  by_cases q : k < vs.length
  · rw [List.getElem?_append_left q] at h
    exact .inl ⟨q, h⟩
  · have e : k = vs.length := by omega
    subst e
    rw [List.getElem?_append_right (Nat.le_refl _), Nat.sub_self] at h
    exact .inr ⟨rfl, (Option.some.inj h).symm⟩
theorem none_back {p l : Addr} {H H' : Hp} (s : SameX p H H') (n : l ≠ p) (h : H' l = none) : H l = none := by
  cases q : H l with
  | none => rfl
  | some o => rw [s _ _ n q] at h; cases h
theorem none_of {H H' : Hp} {l : Addr} (s : Same H H') (h : H' l = none) : H l = none := by
  cases q : H l with
  | none => rfl
  | some o => rw [s _ _ q] at h; cases h
/-- only lists change -/
def LS (H H' : Hp) : Prop := ∀ a o, (∀ xs, o ≠ .lst xs) → H a = some o → H' a = some o
theorem LS.refl (H : Hp) : LS H H := fun _ _ _ h => h
theorem LS.trans {H H1 H2 : Hp} (x : LS H H1) (y : LS H1 H2) : LS H H2 := fun a o n h => y a o n (x a o n h)
theorem LS.of {H H' : Hp} (s : Same H H') : LS H H' := fun a o _ h => s a o h
theorem LS.ofX {H H' : Hp} {p : Addr} {xs : List V} (hp : H p = some (.lst xs)) (s : SameX p H H') : LS H H' := fun a o n h => s a o (fun e => by subst e; rw [hp] at h; cases h; exact n _ rfl) h
theorem LS.sqT {K : PySem.W.Frag} {H H' : Hp} {a : Addr} {xs : List V} (s : LS H H') (h : SqT K H a xs) : SqT K H' a xs := by
  rcases h with (h | ⟨o, h⟩) | h
  · exact .inl (.inl (s _ _ (fun _ z => nomatch z) h))
  · exact .inl (.inr ⟨o, s _ _ (fun _ z => nomatch z) h⟩)
  · exact .inr h
theorem sliceL {K : PySem.W.Frag} {H : Hp} {Q : VK} {a : Addr} {xs : List V} {lo hi : Option Int} (h : SqL K H a xs) (q : ∀ l H', H l = none → Same H H' → H' l = some (.lst (cutV xs lo hi)) → Q (.ref l) H') : rSlL K (.ref a) lo hi H Q := ⟨a, xs, rfl, h, fun l hl => q l _ hl (Same.new hl) upd_same⟩
theorem cut_to (xs : List V) (i : Nat) : cutV xs none (some (i : Int)) = xs.take i := by
  have e1 : HT.sIx xs.length 0 none = 0 := rfl
  have e2 : HT.sIx xs.length xs.length (some (i : Int)) = min i xs.length := by
    unfold HT.sIx
    simp
    intro h
    omega
  unfold cutV
  rw [e1, e2, List.drop_zero, Nat.sub_zero, List.take_eq_take_iff]
  omega
theorem cut_from (xs : List V) (i : Nat) : cutV xs (some (i : Int)) none = xs.drop i := by
  have e1 : HT.sIx xs.length xs.length none = xs.length := rfl
  have e2 : HT.sIx xs.length 0 (some (i : Int)) = min i xs.length := HT.sIx_nat _ _ _
  unfold cutV
  rw [e1, e2]
  by_cases h : i ≤ xs.length
  · rw [Nat.min_eq_left h, List.take_of_length_le (by rw [List.length_drop]; exact Nat.le_refl _)]
  · rw [Nat.min_eq_right (by omega), Nat.sub_self, List.take_zero, List.drop_of_length_le (by omega)]
theorem dp_ints {K : PySem.W.Frag} {H : Hp} : ∀ ns : List Int, DpAll K H (ns.map V.int) (ns.map PyData.int)
  | [] => .nil
  | n :: r => .cons (.int n) (dp_ints r)
theorem lay_all : ∀ ns : List Int, PyData.canLayAll0 (ns.map PyData.int) = true ∧ PyData.depthAll (ns.map PyData.int) = 0
  | [] => ⟨by simp only [List.map_nil, PyData.canLayAll0], by simp only [List.map_nil, PyData.depthAll]⟩
  | n :: r => by
    obtain ⟨h1, h2⟩ := lay_all r
    exact ⟨by simp only [List.map_cons, PyData.canLayAll0, PyData.canLay0, h1, Bool.and_self], by simp only [List.map_cons, PyData.depthAll, PyData.depth, h2, Nat.max_self]⟩
theorem lay_ints (ns : List Int) : PySem.SeqAt.shaped (.list (ns.map PyData.int)) = true := by
  obtain ⟨h1, h2⟩ := lay_all ns
  unfold PySem.SeqAt.shaped
  simp only [PyData.canLay0, PyData.depth, h1, h2]
  decide
theorem eqv_all : ∀ xs ys : List Int, PyData.eqvAll (xs.map PyData.int) (ys.map PyData.int) = decide (xs = ys)
  | [], [] => by simp [PyData.eqvAll]
  | [], y :: ys => by simp [PyData.eqvAll]
  | x :: xs, [] => by simp [PyData.eqvAll]
  | x :: xs, y :: ys => by
    have e := eqv_all xs ys
    simp only [List.map_cons, PyData.eqvAll, e, PyData.eqv]
    by_cases h : x = y <;> by_cases g : xs = ys <;> simp [h, g]
theorem eqv_ints (xs ys : List Int) : PyData.eqv (.list (xs.map PyData.int)) (.list (ys.map PyData.int)) = decide (xs = ys) := by
  simp only [PyData.eqv]
  exact eqv_all xs ys
/-- two lists of ints compared -/
theorem eqLL {K : PySem.W.Frag} {H : Hp} {Q : VK} {a b : Addr} {xs ys : List Int} (ha : SqL K H a (xs.map V.int)) (hb : SqL K H b (ys.map V.int)) (q : Q (.bl (decide (xs = ys))) H) : rEqD K (.ref a) (.ref b) H Q :=
  ⟨_, _, .lst ha (dp_ints xs), .lst hb (dp_ints ys), lay_ints xs, lay_ints ys, by rw [eqv_ints]; exact q⟩
theorem neLL {K : PySem.W.Frag} {H : Hp} {Q : VK} {a b : Addr} {xs ys : List Int} (ha : SqL K H a (xs.map V.int)) (hb : SqL K H b (ys.map V.int)) (q : Q (.bl (!decide (xs = ys))) H) : rNeD K (.ref a) (.ref b) H Q :=
  ⟨_, _, .lst ha (dp_ints xs), .lst hb (dp_ints ys), lay_ints xs, lay_ints ys, by rw [eqv_ints]; exact q⟩
/-- a comprehension over a list of ints, filtered, its items ints -/
theorem lc_ints {K : PySem.W.Frag} {a : Addr} {ns : List Int} {te tel : TE} {tt : TT} {σ : L2.St} {H : Hp} {Q : VK} {j : Nat} (p : Int → Bool) (f : Int → Int) (hte : ∀ R' : VK, R' (.ref a) H → te σ H R') (hS : SqL K H a (ns.map V.int)) (hz : ns.length < 100000)
    (ht : ∀ x ∈ ns, ∀ H', Same H H' → ∀ Qt : Bool → Hp → Prop, Qt (p x) H' → tt ((σ.set j none).set j (some (.int x))) H' Qt)
    (he : ∀ x ∈ ns, p x = true → ∀ H', Same H H' → ∀ Qe : VK, Qe (.int (f x)) H' → tel ((σ.set j none).set j (some (.int x))) H' Qe)
    (hd : ∀ D H', H D = none → Same H H' → H' D = some (.lst (((ns.filter p).map f).map V.int)) → Q (.ref D) H') : tLc (iList K te) (gName j) tt tel [j] σ H Q := by
  refine hte _ ⟨a, rfl, ⟨_, hS⟩, fun D hD => lc_list (K := K) (a := a) (xs := ns.map V.int) (fun i H' => H' D = some (.lst ((((ns.take i).filter p).map f).map V.int)) ∧ SameX D H H') ⟨upd_same, SameX.upd⟩ (fun i H' _ h => (Same.ofX hD h.2).seq hS) ?_ ?_⟩
  · rintro i x H' hi ⟨h1, h2⟩
    rw [List.getElem?_map] at hi
    cases e : ns[i]? with
    | none => rw [e] at hi; cases hi
    | some u =>
      rw [e] at hi
      cases hi
      have hil := getq_lt e
      have mem : u ∈ ns := List.mem_of_getElem? e
      refine ⟨?_, ?_⟩
      · show ((((σ.set j none).set j (some (.int u))).set j none) = σ.set j none)
        rw [List.set_set, List.set_set]
      have e2 : ns.take (i + 1) = ns.take i ++ [u] := by
        rw [List.take_succ, e]
        rfl
      refine ht u mem H' (Same.ofX hD h2) _ ?_
      cases hp : p u with
      | false =>
        rw [if_neg Bool.false_ne_true]
        refine ⟨?_, h2⟩
        rw [e2, List.filter_append]
        simp only [List.filter, hp, List.append_nil]
        exact h1
      | true =>
        rw [if_pos rfl]
        refine he u mem hp H' (Same.ofX hD h2) _ ⟨_, h1, ?_, ?_, h2.upd'⟩
        · rw [List.length_map, List.length_map]
          have := List.length_filter_le p (ns.take i)
          rw [List.length_take] at this
          exact Nat.lt_of_lt_of_le (show _ < 100000 by omega) (by decide)
        · rw [e2, List.filter_append]
          simp only [List.filter, hp, List.map_append, List.map_cons, List.map_nil]
          exact upd_same
  · rintro H' ⟨h1, h2⟩
    rw [List.length_map, List.take_length] at h1
    exact hd D H' hD (Same.ofX hD h2) h1
/-- a comprehension over a list, its items new -/
theorem lc_lstN {K : PySem.W.Frag} {a : Addr} {xs : List V} {te tel : TE} {σ : L2.St} {H : Hp} {Q : VK} {j : Nat} (P : Nat → List V → Hp → Prop) (hte : ∀ R' : VK, R' (.ref a) H → te σ H R') (hS : SqL K H a xs) (hz : xs.length < 100000) (h0 : ∀ H', Same H H' → P 0 [] H')
    (hm : ∀ i vs H1 H2, Same H1 H2 → P i vs H1 → P i vs H2) (hw : ∀ D H1 H2 i vs, H D = none → SameX D H1 H2 → Same H H1 → (∃ acc, H1 D = some (.lst acc)) → P i vs H1 → P i vs H2)
    (hs : ∀ D i x vs H', xs[i]? = some x → Same H H' → P i vs H' → vs.length = i → H D = none → (∃ o, H' D = some o) → ∀ Qe : VK, (∀ v H'', Same H' H'' → P (i + 1) (vs ++ [v]) H'' → Qe v H'') → tel ((σ.set j none).set j (some x)) H' Qe)
    (hd : ∀ D vs H', H D = none → vs.length = xs.length → P xs.length vs H' → H' D = some (.lst vs) → Same H H' → Q (.ref D) H') : tLc (iList K te) (gName j) tYes tel [j] σ H Q := by
  refine hte _ ⟨a, rfl, ⟨_, hS⟩, fun D hD => lc_list (K := K) (a := a) (xs := xs) (fun i H' => ∃ vs : List V, vs.length = i ∧ P i vs H' ∧ H' D = some (.lst vs) ∧ SameX D H H') ⟨[], rfl, h0 _ (Same.new hD), upd_same, SameX.upd⟩ (fun i H' _ ⟨_, _, _, _, h⟩ => (Same.ofX hD h).seq hS) ?_ ?_⟩
  · rintro i x H' hi ⟨vs, hl, hr, h1, h2⟩
    refine ⟨?_, ?_⟩
    · show ((((σ.set j none).set j (some x)).set j none) = σ.set j none)
      rw [List.set_set, List.set_set]
    dsimp only [tYes]
    rw [if_pos rfl]
    have S0 := Same.ofX hD h2
    refine hs D i x vs H' hi S0 hr hl hD ⟨_, h1⟩ _ fun v H'' s2 r => ⟨vs, s2 _ _ h1, ?_, vs ++ [v], ?_, hw D H'' _ _ _ hD SameX.upd (S0.trans s2) ⟨vs, s2 _ _ h1⟩ r, upd_same, (h2.trans (SameX.of s2)).upd'⟩
    · have := getq_lt hi
      exact Nat.lt_of_lt_of_le (show vs.length < 100000 by omega) (by decide)
    · rw [List.length_append, hl]; rfl
  · rintro H' ⟨vs, hl, hr, h1, h2⟩
    exact hd D vs H' hD hl hr h1 (Same.ofX hD h2)
theorem all_rep (n : Nat) : (List.replicate n true).all id = true := by simp
theorem Same.ofX2 {H H1 H2 : Hp} {l : Addr} (hl : H l = none) (s1 : Same H H1) (s2 : SameX l H1 H2) : Same H H2 := fun b o e => s2 b o (ne_of_none e hl) (s1 b o e)
/-! ### own errors -/
abbrev sp_InvalidNumber_init_ (K : PySem.W.Frag) : Sp := sp_xinit K "number"
theorem ok_InvalidNumber_init_ (T : Txt K mg) : FnOk P w K mg base CX0 1 T.a_InvalidNumber_init_ T.fd_InvalidNumber_init_ ["self", "number"] (sp_InvalidNumber_init_ K) := by
  have S := sc_InvalidNumber_init_
  refine T.F_InvalidNumber_init_.ok S (fun vs H Q E h => ?_) (fun cdv A outer s H vs Q E hr h => ?_)
  · obtain ⟨a, C, v, rfl, _⟩ := h
    rfl
  · obtain ⟨a, C, v, rfl, O, hn, ha, k⟩ := h
    refine ⟨_, (pss_one (ps_ost (pv 0) (pv 1))), ?_⟩
    exact ⟨_, rfl, _, rfl, a, C, rfl, O, hn, .inl ⟨ha, k⟩⟩
abbrev sp_InvalidSetting_init_ (K : PySem.W.Frag) : Sp := sp_xinit K "setting"
theorem ok_InvalidSetting_init_ (T : Txt K mg) : FnOk P w K mg base CX0 1 T.a_InvalidSetting_init_ T.fd_InvalidSetting_init_ ["self", "setting"] (sp_InvalidSetting_init_ K) := by
  have S := sc_InvalidSetting_init_
  refine T.F_InvalidSetting_init_.ok S (fun vs H Q E h => ?_) (fun cdv A outer s H vs Q E hr h => ?_)
  · obtain ⟨a, C, v, rfl, _⟩ := h
    rfl
  · obtain ⟨a, C, v, rfl, O, hn, ha, k⟩ := h
    refine ⟨_, (pss_one (ps_ost (pv 0) (pv 1))), ?_⟩
    exact ⟨_, rfl, _, rfl, a, C, rfl, O, hn, .inl ⟨ha, k⟩⟩
/-- an error of the class at C with the one field f -/
def Err (C : Addr) (f : Str) (v : V) (H : Hp) (E : XK) : Prop := ∀ d H', Same H H' → H' d = some (.xd [(f, v)]) → E (.ref C) (some d) H'
/-- x lies not in lo .. hi -/
def Out (K : PySem.W.Frag) (H : Hp) (x : V) (lo hi : Int) : Prop := ∃ o, Kd K H x o ∧ inR lo hi o = false
theorem Out.same {K : PySem.W.Frag} {H H' : Hp} {x : V} {lo hi : Int} (h : Out K H x lo hi) (s : Same H H') : Out K H' x lo hi := h.elim fun o h => ⟨o, h.1.same s, h.2⟩
theorem Out.typ {K : PySem.W.Frag} {H H' : Hp} {x : V} {lo hi : Int} (h : Out K H x lo hi) (s : Typ H H') : Out K H' x lo hi := h.elim fun o h => ⟨o, h.1.typ s, h.2⟩
theorem Out.int {K : PySem.W.Frag} {H : Hp} {n lo hi : Int} (h : n < lo ∨ hi < n) : Out K H (.int n) lo hi := ⟨some n, rfl, by
  show (decide (lo ≤ n) && decide (n ≤ hi)) = false
  rcases h with h | h
  · rw [decide_eq_false (show ¬ lo ≤ n by omega)]; rfl
  · rw [decide_eq_false (show ¬ n ≤ hi by omega), Bool.and_false]⟩
theorem Out.odd {K : PySem.W.Frag} {H : Hp} {x : V} {lo hi : Int} (h : IntK K H x false) : Out K H x lo hi := ⟨none, h, rfl⟩
/-- x is no count -/
def Less (K : PySem.W.Frag) (H : Hp) (x : V) (lo : Int) : Prop := (∃ n, x = .int n ∧ n < lo) ∨ IntK K H x false
theorem Less.same {K : PySem.W.Frag} {H H' : Hp} {x : V} {lo : Int} (h : Less K H x lo) (s : Same H H') : Less K H' x lo := h.elim .inl fun h => .inr (h.same s)
/-- menus of a try: what is caught, and what e is -/
theorem errX {K : PySem.W.Frag} {a D dd : Addr} {fs : List (Str × V)} {c : V} {cv : Value} {b : Bool} {H : Hp} {Q : VK} (hcv : ∀ u, RelV c u → u = cv) (ec : ExcC K D) (hd : H dd = some (.xd fs)) (hk : PySem.W.kitOne K (.ref D) cv = some b) (q : Q (.bl b) H) : rIsX K a (.ref D) (some dd) [.ref a, c] H Q := ⟨c, cv, b, D, dd, fs, rfl, hcv, rfl, ec, rfl, hd, hk, q⟩
theorem errF {K : PySem.W.Frag} {a C dd : Addr} {f : Str} {fs : List (Str × V)} {v : V} {H : Hp} {P : V → Prop} (T : XfC K C) (hn : PySem.W.findIn K (.ref C) f = some none) (hd : H dd = some (.xd fs)) (e : fs.lookup f = some v) (q : P v) :
    V.ref a = V.ref a ∧ ∃ (C' dd' : Addr) (fs : List (Str × V)) (v : V), Value.ref C = .ref C' ∧ XfC K C' ∧ PySem.W.findIn K (.ref C') f = some none ∧ some dd = some dd' ∧ H dd' = some (.xd fs) ∧ fs.lookup f = some v ∧ P v := ⟨rfl, C, dd, fs, v, rfl, T, hn, rfl, hd, e, q⟩
section
variable {K : PySem.W.Frag} {σ : L2.St} {H : Hp} {Q : VK} {v : V} {te : TE} {D : Ends} {i : Nat}
theorem x_xg {a : Addr} {cls : Value} {d : Option Addr} {f : Str} (q : te σ H fun x H1 => x = .ref a ∧ ∃ (C dd : Addr) (fs : List (Str × V)) (v : V), cls = .ref C ∧ XfC K C ∧ PySem.W.findIn K (.ref C) f = some none ∧ d = some dd ∧ H1 dd = some (.xd fs) ∧ fs.lookup f = some v ∧ Q v H1) : tXg K a cls d f te σ H Q := q
theorem x_clgo {a : Addr} {ts : TS} (q : ts (unN D i) (σ.set i (some (.ref a))) H) : clGo D (some i) ts a σ H := q
theorem x_methX {C : Addr} {m : Str} {sp : Sp} {E : L2.St → XK} {ta : TE} {t : TA} (q : ta σ H fun x H1 => ∃ a dx fs, x = .ref a ∧ H1 a = some (.ins C dx fs) ∧ fs.lookup m = none ∧ t σ H1 fun vs H2 => sp (x :: vs) H2 Q (E σ)) : tMethX C m sp E ta t σ H Q := q
theorem x_unrt (q : D.rt v H) : (unN D i).rt v H := q
theorem x_unnx (q : D.nx (σ.set i none) H) : (unN D i).nx σ H := q
end
theorem len2 {α : Type} {l : List α} (h : l.length = 2) : ∃ a b, l = [a, b] := by
  match l, h with
  | [a, b], _ => exact ⟨a, b, rfl⟩
theorem len4 {α : Type} {l : List α} (h : l.length = 4) : ∃ a b c d, l = [a, b, c, d] := by
  match l, h with
  | [a, b, c, d], _ => exact ⟨a, b, c, d, rfl⟩
local macro_rules
  | `(tactic| w_up) => `(tactic| first | with_reducible refine x_clgo ?_ | with_reducible refine x_methX ?_ | with_reducible refine x_xg ?_ | with_reducible refine x_unrt ?_ | with_reducible refine x_unnx ?_)
/-! ### is it a sequence -/
def sp_is_sequence (K : PySem.W.Frag) : Sp := fun vs H Q _ => ∃ (x : V) (r : Bool), vs = [x] ∧ SeqK K H x r ∧ ∀ H', Same H H' → Q (.bl r) H'
theorem ok_is_sequence (T : Txt K mg) : FnOk P w K mg base CX0 1 T.a_is_sequence T.fd_is_sequence ["value"] (sp_is_sequence K) := by
  have S := sc_is_sequence
  refine T.F_is_sequence.ok S (fun vs H Q E h => ?_) (fun cdv A outer s H vs Q E hr h => ?_)
  · obtain ⟨x, r, rfl, _⟩ := h
    rfl
  · obtain ⟨x, r, rfl, ⟨t, ty, hk⟩, k⟩ := h
    refine ⟨_, (pss_one (ps_ret (pe_callB (id := "isinstance") call_isiT (by rfl) T.b_isinstance (by decide +kernel) (pa_cons (pv 0) (pa_cons (pe_tup (pa_cons (pe_bltn (v := .ty "list") (u := .type "list") (by rfl) T.b_list (by decide +kernel) rfl) (pa_cons (pe_bltn (v := .ty "tuple") (u := .type "tuple") (by rfl) T.b_tuple (by decide +kernel) rfl) pa_nil))) pa_nil))))), ?_⟩
    refine ⟨_, rfl, (by show 2 ≤ sizeLine; decide), fun tp htp => ?_⟩
    exact ⟨_, tp, _, t, [.type "list", .type "tuple"], r, rfl, upd_same, .cons (.ty _) (.cons (.ty _) .nil), tyX_same ty (Same.new htp), hk, k _ (Same.new htp)⟩
def sp_is_at_least (K : PySem.W.Frag) : Sp := fun vs H Q _ => ∃ (x : V) (lo : Int), vs = [x, .int lo] ∧ ((∃ n, x = .int n ∧ lo ≤ n ∧ Q (.bl true) H) ∨ (Less K H x lo ∧ Q (.bl false) H))
theorem ok_is_at_least (T : Txt K mg) : FnOk P w K mg base CX0 2 T.a_is_at_least T.fd_is_at_least ["value", "low"] (sp_is_at_least K) := by
  have S := sc_is_at_least
  refine T.F_is_at_least.ok S (fun vs H Q E h => ?_) (fun cdv A outer s H vs Q E hr h => ?_)
  · obtain ⟨x, lo, rfl, _⟩ := h
    rfl
  · obtain ⟨x, lo, rfl, h⟩ := h
    refine ⟨_, (pss_one (ps_ret (pe_and (pe_call (ok_is_integer T) (hr.mono (by decide)) rfl T.g_is_integer T.F_is_integer.kp T.B_is_integer .nil pass0 (pa_cons (pv 0) pa_nil)) (pe_one (pe_cmpR op_le (pv 1) (pv 0) (nomark _)))))), ?_⟩
    refine st_is_at_least ?_
    o_args
    rcases h with ⟨n, rfl, hn, k⟩ | ⟨⟨n, rfl, hn⟩ | hk, k⟩
    · refine ⟨_, true, rfl, intK_int n, ?_⟩
      o_args
      rw [decide_eq_true hn]
      exact k
    · refine ⟨_, true, rfl, intK_int n, ?_⟩
      o_args
      rw [decide_eq_false (show ¬ lo ≤ n by omega)]
      exact k
    · refine ⟨_, false, rfl, hk, ?_⟩
      o_args
      exact k
/-! ### comprehensions, any -/
theorem lcG {K : PySem.W.Frag} {a : Addr} {xs : List V} {te tel : TE} {tt : TT} {σ : L2.St} {H : Hp} {Q : VK} {j : Nat} (P : Addr → Nat → List V → Hp → Prop) (hte : ∀ R' : VK, R' (.ref a) H → te σ H R') (hS : SqL K H a xs) (hz : xs.length < 100000)
    (h0 : ∀ D, H D = none → P D 0 [] (upd H D (.lst []))) (hsq : ∀ D i vs H', H D = none → P D i vs H' → SqL K H' a xs)
    (hs : ∀ D i x vs H', H D = none → xs[i]? = some x → vs.length ≤ i → H' D = some (.lst vs) → P D i vs H' → ∀ (Y : VK) (N : Hp → Prop), (∀ v H3, H3 D = some (.lst vs) → P D (i + 1) (vs ++ [v]) (upd H3 D (.lst (vs ++ [v]))) → Y v H3) → (∀ H3, H3 D = some (.lst vs) → P D (i + 1) vs H3 → N H3) →
      tt ((σ.set j none).set j (some x)) H' fun b H2 => if b = true then tel ((σ.set j none).set j (some x)) H2 Y else N H2)
    (hd : ∀ D vs H', H D = none → H' D = some (.lst vs) → vs.length ≤ xs.length → P D xs.length vs H' → Q (.ref D) H') : tLc (iList K te) (gName j) tt tel [j] σ H Q := by
  refine hte _ ⟨a, rfl, ⟨_, hS⟩, fun D hD => lc_list (K := K) (a := a) (xs := xs) (fun i H' => ∃ vs : List V, vs.length ≤ i ∧ P D i vs H' ∧ H' D = some (.lst vs)) ⟨[], Nat.le_refl _, h0 D hD, upd_same⟩ (fun i H' _ ⟨vs, _, h, _⟩ => hsq D i vs H' hD h) ?_ ?_⟩
  · rintro i x H' hi ⟨vs, hl, hp, h1⟩
    have il := (List.getElem?_eq_some_iff.mp hi).1
    refine ⟨?_, ?_⟩
    · show ((((σ.set j none).set j (some x)).set j none) = σ.set j none)
      rw [List.set_set, List.set_set]
    refine hs D i x vs H' hD hi hl h1 hp _ _ (fun v H3 e p => ⟨vs, e, Nat.lt_of_lt_of_le (show vs.length < 100000 by omega) (by decide), vs ++ [v], ?_, p, upd_same⟩) (fun H3 e p => ⟨vs, by omega, p, e⟩)
    rw [List.length_append]
    exact Nat.succ_le_succ hl
  · rintro H' ⟨vs, hl, hp, h1⟩
    exact hd D vs H' hD h1 hl hp
theorem lcGT {K : PySem.W.Frag} {a : Addr} {xs : List V} {te tel : TE} {tt : TT} {σ : L2.St} {H : Hp} {Q : VK} {j : Nat} (P : Addr → Nat → List V → Hp → Prop) (hte : ∀ R' : VK, R' (.ref a) H → te σ H R') (hS : SqT K H a xs) (hz : xs.length < 100000)
    (h0 : ∀ D, H D = none → P D 0 [] (upd H D (.lst []))) (hsq : ∀ D i vs H', H D = none → P D i vs H' → SqT K H' a xs)
    (hs : ∀ D i x vs H', H D = none → xs[i]? = some x → vs.length ≤ i → H' D = some (.lst vs) → P D i vs H' → ∀ (Y : VK) (N : Hp → Prop), (∀ v H3, H3 D = some (.lst vs) → P D (i + 1) (vs ++ [v]) (upd H3 D (.lst (vs ++ [v]))) → Y v H3) → (∀ H3, H3 D = some (.lst vs) → P D (i + 1) vs H3 → N H3) →
      tt ((σ.set j none).set j (some x)) H' fun b H2 => if b = true then tel ((σ.set j none).set j (some x)) H2 Y else N H2)
    (hd : ∀ D vs H', H D = none → H' D = some (.lst vs) → vs.length ≤ xs.length → P D xs.length vs H' → Q (.ref D) H') : tLc (iTup K te) (gName j) tt tel [j] σ H Q := by
  refine hte _ ⟨a, rfl, ⟨_, hS⟩, fun D hD => lc_tup (K := K) (a := a) (xs := xs) (fun i H' => ∃ vs : List V, vs.length ≤ i ∧ P D i vs H' ∧ H' D = some (.lst vs)) ⟨[], Nat.le_refl _, h0 D hD, upd_same⟩ (fun i H' _ ⟨vs, _, h, _⟩ => hsq D i vs H' hD h) ?_ ?_⟩
  · rintro i x H' hi ⟨vs, hl, hp, h1⟩
    have il := (List.getElem?_eq_some_iff.mp hi).1
    refine ⟨?_, ?_⟩
    · show ((((σ.set j none).set j (some x)).set j none) = σ.set j none)
      rw [List.set_set, List.set_set]
    refine hs D i x vs H' hD hi hl h1 hp _ _ (fun v H3 e p => ⟨vs, e, Nat.lt_of_lt_of_le (show vs.length < 100000 by omega) (by decide), vs ++ [v], ?_, p, upd_same⟩) (fun H3 e p => ⟨vs, by omega, p, e⟩)
    rw [List.length_append]
    exact Nat.succ_le_succ hl
  · rintro H' ⟨vs, hl, hp, h1⟩
    exact hd D vs H' hD h1 hl hp
/-! ### a list or a tuple, walked and read -/
def iOr (w1 w2 : TI) : TI := fun σ H R => w1 σ H R ∨ w2 σ H R
theorem pi_seqA {X : Cx} {tg e : Expr} {te : TE} (he : PE X e te) : PI X tg e (iOr (iList X.K te) (iTup X.K te)) := ⟨fun pins s σ H R I h => h.elim ((pi_list he).run pins s σ H R I) ((pi_tup he).run pins s σ H R I)⟩
theorem ix_seqA {K : PySem.W.Frag} {H : Hp} {Q : VK} {a : Addr} {xs : List V} {i : Int} {v : V} (h : SeqA K H a xs) (hi : atI xs i = some v) (q : Q v H) : rIx K (.ref a) (.int i) H Q :=
  h.elim (fun h => .inl ⟨_, _, _, _, rfl, rfl, h, hi, q⟩) (fun h => .inr (.inl ⟨_, _, _, _, rfl, rfl, h, hi, q⟩))
theorem sqT_at {K : PySem.W.Frag} {H H' : Hp} {a : Addr} {xs : List V} (h : SqT K H a xs) (k : ∀ o, H a = some o → H' a = some o) : SqT K H' a xs := by
  rcases h with (h | ⟨o, h⟩) | h
  · exact .inl (.inl (k _ h))
  · exact .inl (.inr ⟨o, k _ h⟩)
  · exact .inr h
theorem sqL_at {K : PySem.W.Frag} {H H' : Hp} {a : Addr} {xs : List V} (h : SqL K H a xs) (k : ∀ o, H a = some o → H' a = some o) : SqL K H' a xs := by
  rcases h with (h | ⟨o, h⟩) | h
  · exact .inl (.inl (k _ h))
  · exact .inl (.inr ⟨o, k _ h⟩)
  · exact .inr h
theorem lcGA {K : PySem.W.Frag} {a : Addr} {xs : List V} {te tel : TE} {tt : TT} {σ : L2.St} {H : Hp} {Q : VK} {j : Nat} (P : Addr → Nat → List V → Hp → Prop) (hte : ∀ R' : VK, R' (.ref a) H → te σ H R') (hS : SeqA K H a xs) (hz : xs.length < 100000)
    (h0 : ∀ D, H D = none → P D 0 [] (upd H D (.lst []))) (hk : ∀ D i vs H', H D = none → P D i vs H' → ∀ o, H a = some o → H' a = some o)
    (hs : ∀ D i x vs H', H D = none → xs[i]? = some x → vs.length ≤ i → H' D = some (.lst vs) → P D i vs H' → ∀ (Y : VK) (N : Hp → Prop), (∀ v H3, H3 D = some (.lst vs) → P D (i + 1) (vs ++ [v]) (upd H3 D (.lst (vs ++ [v]))) → Y v H3) → (∀ H3, H3 D = some (.lst vs) → P D (i + 1) vs H3 → N H3) →
      tt ((σ.set j none).set j (some x)) H' fun b H2 => if b = true then tel ((σ.set j none).set j (some x)) H2 Y else N H2)
    (hd : ∀ D vs H', H D = none → H' D = some (.lst vs) → vs.length ≤ xs.length → P D xs.length vs H' → Q (.ref D) H') : tLc (iOr (iList K te) (iTup K te)) (gName j) tt tel [j] σ H Q :=
  hS.elim (fun h => .inl (lcG P hte h hz h0 (fun D i vs H' hD p => sqL_at h (hk D i vs H' hD p)) hs hd)) fun h => .inr (lcGT P hte h hz h0 (fun D i vs H' hD p => sqT_at h (hk D i vs H' hD p)) hs hd)
/-! ### frames: all but what is named stands, nothing goes -/
def Ch (G : List Addr) (H H' : Hp) : Prop := (∀ b o, b ∉ G → H b = some o → H' b = some o) ∧ ∀ b, H b ≠ none → H' b ≠ none
def Al (F : List Addr) (H : Hp) : Prop := ∀ x ∈ F, H x ≠ none
section
variable {G F : List Addr} {H H1 H2 : Hp} {a l : Addr} {o : HO}
theorem Ch.refl : Ch G H H := ⟨fun _ _ _ h => h, fun _ h => h⟩
theorem Ch.trans (x : Ch G H H1) (y : Ch G H1 H2) : Ch G H H2 := ⟨fun b o n h => y.1 b o n (x.1 b o n h), fun b h => y.2 b (x.2 b h)⟩
theorem Ch.of (s : Same H H1) : Ch G H H1 := ⟨fun b o _ h => s b o h, fun b h => by
  cases q : H b with
  | none => exact absurd q h
  | some o => rw [s _ _ q]; exact fun z => nomatch z⟩
theorem Ch.ofX (h : a ∈ G) (s : SameX a H H1) (e : H1 a = some o) : Ch G H H1 := ⟨fun b o n q => s b o (fun z => n (z ▸ h)) q, fun b q => by
  by_cases z : b = a
  · rw [z, e]; exact fun z => nomatch z
  · cases q' : H b with
    | none => exact absurd q' q
    | some o => rw [s _ _ z q']; exact fun z => nomatch z⟩
theorem Ch.more (x : Ch G H H1) (h : ∀ b ∈ G, b ∈ F) : Ch F H H1 := ⟨fun b o n q => x.1 b o (fun z => n (h b z)) q, x.2⟩
/-- what is new may change -/
theorem Ch.drop (x : Ch (l :: G) H H1) (h : H l = none) : Ch G H H1 := ⟨fun b o n q => x.1 b o (fun z => by
  rcases List.mem_cons.mp z with z | z
  · rw [z, h] at q; cases q
  · exact n z) q, x.2⟩
theorem Ch.same (x : Ch [] H H1) : Same H H1 := fun b o h => x.1 b o (fun z => nomatch z) h
theorem Ch.sameX (x : Ch [a] H H1) : SameX a H H1 := fun b o n h => x.1 b o (fun z => n (List.mem_singleton.mp z)) h
theorem Ch.at (x : Ch G H H1) (n : a ∉ G) (h : H a = some o) : H1 a = some o := x.1 a o n h
theorem Ch.none (x : Ch G H H1) (h : H1 a = none) : H a = none := by
  cases q : H a with
  | none => rfl
  | some o => exact absurd h (x.2 a (by rw [q]; exact fun z => nomatch z))
theorem Al.ch (A : Al F H) (x : Ch G H H1) : Al F H1 := fun b h => x.2 b (A b h)
theorem Al.same (A : Al F H) (x : Same H H1) : Al F H1 := A.ch (Ch.of (G := []) x)
theorem Al.nil : Al [] H := fun _ h => nomatch h
theorem Al.cons (h : H a = some o) (A : Al F H) : Al (a :: F) H := fun b hb => by
  rcases List.mem_cons.mp hb with e | hb
  · rw [e, h]; exact fun z => nomatch z
  · exact A b hb
theorem Al.less (A : Al F H) (h : ∀ b ∈ G, b ∈ F) : Al G H := fun b q => A b (h b q)
theorem Al.new (A : Al F H) (h : H l = none) : l ∉ F := fun z => A l z h
theorem Al.one (h : H a = some o) : Al [a] H := .cons h .nil
end
/-! ### a box of five, drawn from -/
def Box (a : Addr) (F : List Addr) (H : Hp) : Prop := ∃ (c : Addr) (cs : List Int) (p r s n : Int), H a = some (.lst [.ref c, .int p, .int r, .int s, .int n]) ∧ H c = some (.lst (cs.map V.int)) ∧ a ∉ F ∧ c ∉ F ∧ 0 ≤ p ∧ 0 ≤ r
section
variable {a l : Addr} {F G : List Addr} {H H' : Hp}
theorem Box.ch (B : Box a F H) (x : Ch G H H') (h : ∀ b ∈ G, b ∈ F) : Box a F H' := by
  obtain ⟨c, cs, p, r, s, n, h1, h2, h3, h4, h5, h6⟩ := B
  exact ⟨c, cs, p, r, s, n, x.at (fun z => h3 (h _ z)) h1, x.at (fun z => h4 (h _ z)) h2, h3, h4, h5, h6⟩
theorem Box.same (B : Box a F H) (s : Same H H') : Box a F H' := B.ch (Ch.of (G := []) s) (fun _ h => nomatch h)
theorem Box.own (B : Box a F H) (hl : H l = none) (s : Same H H') : Box a (l :: F) H' := by
  obtain ⟨c, cs, p, r, z, n, h1, h2, h3, h4, h5, h6⟩ := B
  refine ⟨c, cs, p, r, z, n, s _ _ h1, s _ _ h2, fun q => ?_, fun q => ?_, h5, h6⟩
  · rcases List.mem_cons.mp q with q | q
    · rw [q, hl] at h1; cases h1
    · exact h3 q
  · rcases List.mem_cons.mp q with q | q
    · rw [q, hl] at h2; cases h2
    · exact h4 q
theorem Box.less (B : Box a F H) (h : ∀ b ∈ G, b ∈ F) : Box a G H := by
  obtain ⟨c, cs, p, r, z, n, h1, h2, h3, h4, h5, h6⟩ := B
  exact ⟨c, cs, p, r, z, n, h1, h2, fun q => h3 (h _ q), fun q => h4 (h _ q), h5, h6⟩
theorem Box.al (B : Box a F H) : ∃ o, H a = some o := by
  obtain ⟨c, cs, p, r, z, n, h1, _⟩ := B
  exact ⟨_, h1⟩
theorem Box.nin (B : Box a F H) : a ∉ F := by
  obtain ⟨c, cs, p, r, z, n, _, _, h, _⟩ := B
  exact h
end
def sp__law_box (K : PySem.W.Frag) : Sp := fun vs H Q _ => ∃ (a : Addr) (ns : List Int), vs = [.ref a] ∧ SqL K H a (ns.map V.int) ∧ ∀ b H', H b = none → Same H H' → (∀ F, Al F H → Box b F H') → Q (.ref b) H'
theorem ok__law_box (T : Txt K mg) : FnOk P w K mg base CX0 1 T.a__law_box T.fd__law_box ["script"] (sp__law_box K) := by
  have S := sc__law_box
  refine T.F__law_box.ok S (fun vs H Q E h => ?_) (fun cdv A outer s H vs Q E hr h => ?_)
  · obtain ⟨a, ns, rfl, _⟩ := h
    rfl
  · obtain ⟨a, ns, rfl, hS, k⟩ := h
    refine ⟨_, (pss_one (ps_ret (pe_lst (pa_cons (pe_callTy (T := "list") (call_listK (K := K) rfl) (by rfl) T.b_list (by decide +kernel) (pa_cons (pv 0) pa_nil)) (pa_cons pe_int (pa_cons pe_int (pa_cons pe_int (pa_cons pe_int pa_nil)))))))), ?_⟩
    refine st__law_box ?_
    o_args
    refine listOf (.inl hS) fun c H1 nc s1 h1 => ?_
    o_args
    refine newList (by simp) fun b H2 nb s2 h2 => ?_
    have bH : H b = none := none_of s1 nb
    o_args
    refine k b H2 bH (s1.trans s2) fun F A => ⟨c, ns, _, _, _, _, h2, s2 _ _ h1, A.new bH, A.new nc, by decide, by decide⟩
def sp__law_draw : Sp := fun vs H Q _ => ∃ (a : Addr) (F : List Addr) (m : Int), vs = [.ref a, .int m] ∧ Box a F H ∧ 0 < m ∧ m < 2 ^ 62 ∧ ∀ d H', 0 ≤ d → d < m → Box a F H' → Ch [a] H H' → Q (.int d) H'
theorem ok__law_draw (T : Txt K mg) : FnOk P w K mg base CX0 1 T.a__law_draw T.fd__law_draw ["box", "size"] (sp__law_draw) := by
  have S := sc__law_draw
  refine T.F__law_draw.ok S (fun vs H Q E h => ?_) (fun cdv A outer s H vs Q E hr h => ?_)
  · obtain ⟨a, F, m, rfl, _⟩ := h
    rfl
  · obtain ⟨a, F, m, rfl, ⟨c, cs, p, r, s, n, hA, hC, nA, nC, p0, r0⟩, m0, m1, k⟩ := h
    have m0' : m ≠ 0 := by omega
    have ca : c ≠ a := ne_of hC hA (fun e => by
      injection e with e
      cases cs with
      | nil => cases e
      | cons x r => injection e with e1 _; cases e1)
    refine ⟨_, (pss_cons (ps_asg (pe_op op_add (pe_ix ix_list (pv 0) pe_int (fun _ _ => rfl)) pe_int) (pg_sub (pv 0) pe_int set_list))
      (C8.pss_cut (ps_if (PW.pt (pw_and (pt_cmpR op_eq (pe_ix ix_list (pv 0) pe_int (fun _ _ => rfl)) pe_int (nomark _)) (pw_and1 (pt_cmpR op_lt (pe_ix ix_list (pv 0) pe_int (fun _ _ => rfl)) (pe_callB (id := "len") (call_lenK (K := K) rfl) (by rfl) T.b_len (by decide +kernel) (pa_cons (pe_ix ix_list (pv 0) pe_int (fun _ _ => rfl)) pa_nil)) (nomark _))))) (pss_cons (ps_set (i := 2) S.nd rfl (Or.inl rfl) (pe_ix ix_list (pe_ix ix_list (pv 0) pe_int (fun _ _ => rfl)) (pe_ix ix_list (pv 0) pe_int (fun _ _ => rfl)) (fun _ _ => rfl)))
      (pss_cons (ps_asg (pe_op op_add (pe_ix ix_list (pv 0) pe_int (fun _ _ => rfl)) pe_int) (pg_sub (pv 0) pe_int set_list))
      (pss_one (ps_if (pt_cmpR op_ge (pe_callB (id := "abs") call_absK (by rfl) T.b_abs (by decide +kernel) (pa_cons (pv 2) pa_nil)) (pe_op op_pow pe_int pe_int) (nomark _)) (pss_one (ps_asg (pe_callB (id := "abs") call_absK (by rfl) T.b_abs (by decide +kernel) (pa_cons (pv 2) pa_nil)) (pg_sub (pv 0) pe_int set_list))) (pss_one (ps_asg (pe_op op_mod (pe_callTy (T := "int") call_int1 (by rfl) T.b_int (by decide +kernel) (pa_cons (pe_op op_add (pe_op op_add (pe_op op_mul (pe_ix ix_list (pv 0) pe_int (fun _ _ => rfl)) pe_int) (pe_op op_mul (pv 2) pe_int)) (pe_ix ix_list (pv 0) pe_int (fun _ _ => rfl))) pa_nil)) pe_int) (pg_sub (pv 0) pe_int set_list))))))) pss_nil)
      (pss_cons (ps_if (pt_cmpR op_gt (pe_ix ix_list (pv 0) pe_int (fun _ _ => rfl)) pe_int (nomark _)) (pss_cons (ps_set (i := 3) S.nd rfl (Or.inl rfl) (pe_op op_mod (pe_callTy (T := "int") call_int1 (by rfl) T.b_int (by decide +kernel) (pa_cons (pe_ix ix_list (pv 0) pe_int (fun _ _ => rfl)) pa_nil)) (pv 1)))
      (pss_cons (ps_asg (pe_op op_fdivW (pe_ix ix_list (pv 0) pe_int (fun _ _ => rfl)) (pv 1)) (pg_sub (pv 0) pe_int set_list))
      (pss_one (ps_ret (pv 3))))) pss_nil)
      (pss_cons (ps_asg (pe_op op_mod (pe_callTy (T := "int") call_int1 (by rfl) T.b_int (by decide +kernel) (pa_cons (pe_op op_mul (pe_ix ix_list (pv 0) pe_int (fun _ _ => rfl)) pe_int) pa_nil)) pe_int) (pg_sub (pv 0) pe_int set_list))
      (pss_cons (ps_set (i := 4) S.nd rfl (Or.inl rfl) (pe_op op_mod (pe_callTy (T := "int") call_int1 (by rfl) T.b_int (by decide +kernel) (pa_cons (pe_op op_mul (pe_ix ix_list (pv 0) pe_int (fun _ _ => rfl)) pe_int) pa_nil)) pe_int))
      (pss_one (ps_ret (pe_op op_mod (pe_callTy (T := "int") call_int1 (by rfl) T.b_int (by decide +kernel) (pa_cons (pe_op op_add (pe_op op_add (pe_op op_fdiv (pv 4) pe_int) (pe_ix ix_list (pv 0) pe_int (fun _ _ => rfl))) (pe_op op_fdiv (pe_ix ix_list (pv 0) pe_int (fun _ _ => rfl)) pe_int)) pa_nil)) (pv 1))))))))), ?_⟩
    refine st__law_draw ?_
    o_args
    refine setL (i := 4) hA (by simp) fun H1 s1 h1 => ?_
    have h1 : H1 a = some (.lst [.ref c, .int p, .int r, .int s, .int (n + 1)]) := h1
    have c1 := s1 _ _ ca hC
    refine ⟨fun σ H' => ∃ v p' r' s', σ = [some (.ref a), some (.int m), v, none, none] ∧ H' a = some (.lst [.ref c, .int p', .int r', .int s', .int (n + 1)]) ∧ SameX a H1 H' ∧ 0 ≤ p' ∧ 0 ≤ r', ?_, ?_⟩
    · o_args
      refine brD (fun q => ?_) (fun q => ?_)
      · o_args
        refine lenA (.inl (SqL.of c1)) ?_
        o_args
        refine brD (fun q2 => ?_) (fun q2 => ?_)
        · obtain ⟨pn, rfl⟩ : ∃ pn : Nat, p = pn := ⟨p.toNat, by omega⟩
          have q3 : pn < (cs.map V.int).length := by omega
          rw [List.length_map] at q3
          o_args
          refine ixL c1 (show (cs.map V.int)[pn]? = some (.int cs[pn]) by rw [List.getElem?_map, List.getElem?_eq_getElem q3]; rfl) ?_
          generalize cs[pn] = cell
          o_args
          refine setL (i := 1) h1 (by simp) fun H2 s2 h2 => ?_
          have h2 : H2 a = some (.lst [.ref c, .int ((pn : Int) + 1), .int r, .int s, .int (n + 1)]) := h2
          have e18 : (10 : Int) ^ Int.toNat 18 = 1000000000000000000 := rfl
          o_args
          refine brD (fun q4 => ?_) (fun q4 => ?_)
          · rw [e18] at q4
            o_args
            refine setL (i := 2) h2 (by simp) fun H3 s3 h3 => ?_
            o_args
            exact ⟨_, _, _, _, rfl, h3, s2.trans s3, by omega, by omega⟩
          · o_args
            refine setL (i := 3) h2 (by simp) fun H3 s3 h3 => ?_
            o_args
            exact ⟨_, _, _, _, rfl, h3, s2.trans s3, by omega, by omega⟩
        · o_args
          exact ⟨_, _, _, _, rfl, h1, SameX.refl, p0, r0⟩
      · o_args
        exact ⟨_, _, _, _, rfl, h1, SameX.refl, p0, r0⟩
    · rintro σ H2 ⟨v, p', r', s', rfl, h2, s2, p1, r1⟩
      have fin : ∀ {r'' s'' H3}, H3 a = some (.lst [.ref c, .int p', .int r'', .int s'', .int (n + 1)]) → SameX a H2 H3 → 0 ≤ r'' → Box a F H3 ∧ Ch [a] H H3 := fun h3 s3 r3 => by
        have S := (s1.trans s2).trans s3
        exact ⟨⟨c, cs, p', _, _, n + 1, h3, S _ _ ca hC, nA, nC, p1, r3⟩, Ch.ofX List.mem_cons_self S h3⟩
      o_args
      refine brD (fun q => ?_) (fun q => ?_)
      · o_args
        refine ⟨_, _, rfl, rfl, m0, ?_⟩
        o_args
        refine x_divW m0 m1 ?_
        o_args
        refine setL (i := 2) h2 (by simp) fun H3 s3 h3 => ?_
        o_args
        obtain ⟨B3, C3⟩ := fin h3 s3 (Int.ediv_nonneg r1 (by omega))
        exact k _ _ (Int.emod_nonneg _ m0') (Int.emod_lt_of_pos _ m0) B3 C3
      · o_args
        refine setL (i := 3) h2 (by simp) fun H3 s3 h3 => ?_
        have h3 : H3 a = some (.lst [.ref c, .int p', .int r', .int (s' * 48271 % 2147483647), .int (n + 1)]) := h3
        o_args
        refine ⟨_, _, rfl, rfl, m0, ?_⟩
        o_args
        obtain ⟨B3, C3⟩ := fin h3 s3 r1
        exact k _ _ (Int.emod_nonneg _ m0') (Int.emod_lt_of_pos _ m0) B3 C3
/-! ### runs -/
abbrev Run := Int × Int
def Mem (o : Int) (rs : List Run) : Prop := ∃ r ∈ rs, r.1 ≤ o ∧ o < r.2
def Nrm (rs : List Run) : Prop := (∀ r ∈ rs, r.1 < r.2) ∧ rs.Pairwise fun a b => a.2 < b.1
theorem Mem.nil {o : Int} : ¬ Mem o [] := fun ⟨_, h, _⟩ => nomatch h
theorem Mem.cons {o : Int} {r : Run} {rs : List Run} : Mem o (r :: rs) ↔ (r.1 ≤ o ∧ o < r.2) ∨ Mem o rs := by
  constructor
  · rintro ⟨q, h, c⟩
    rcases List.mem_cons.mp h with rfl | h
    · exact .inl c
    · exact .inr ⟨q, h, c⟩
  · rintro (c | ⟨q, h, c⟩)
    · exact ⟨r, List.mem_cons_self, c⟩
    · exact ⟨q, List.mem_cons_of_mem _ h, c⟩
theorem Mem.app {o : Int} {rs qs : List Run} : Mem o (rs ++ qs) ↔ Mem o rs ∨ Mem o qs := by
  constructor
  · rintro ⟨q, h, c⟩
    rcases List.mem_append.mp h with h | h
    · exact .inl ⟨q, h, c⟩
    · exact .inr ⟨q, h, c⟩
  · rintro (⟨q, h, c⟩ | ⟨q, h, c⟩)
    · exact ⟨q, List.mem_append_left _ h, c⟩
    · exact ⟨q, List.mem_append_right _ h, c⟩
theorem Mem.one {o : Int} {r : Run} : Mem o [r] ↔ (r.1 ≤ o ∧ o < r.2) := by
  rw [Mem.cons]
  exact ⟨fun h => h.elim id fun h => absurd h Mem.nil, .inl⟩
theorem Nrm.nil : Nrm [] := ⟨fun _ h => (nomatch h), List.Pairwise.nil⟩
theorem Nrm.cons {r : Run} {rs : List Run} : Nrm (r :: rs) ↔ r.1 < r.2 ∧ (∀ q ∈ rs, r.2 < q.1) ∧ Nrm rs := by
  unfold Nrm
  rw [List.pairwise_cons]
  constructor
  · rintro ⟨h1, h2, h3⟩
    exact ⟨h1 r List.mem_cons_self, h2, fun q hq => h1 q (List.mem_cons_of_mem _ hq), h3⟩
  · rintro ⟨h1, h2, h3, h4⟩
    refine ⟨fun q hq => ?_, h2, h4⟩
    rcases List.mem_cons.mp hq with rfl | hq
    · exact h1
    · exact h3 q hq
theorem Nrm.snoc {r : Run} {rs : List Run} : Nrm (rs ++ [r]) ↔ Nrm rs ∧ r.1 < r.2 ∧ (∀ q ∈ rs, q.2 < r.1) := by
  unfold Nrm
  rw [List.pairwise_append]
  constructor
  · rintro ⟨h1, h2, _, h4⟩
    exact ⟨⟨fun q hq => h1 q (List.mem_append_left _ hq), h2⟩, h1 r (by simp), fun q hq => h4 q hq r (by simp)⟩
  · rintro ⟨⟨h1, h2⟩, h3, h4⟩
    refine ⟨fun q hq => ?_, h2, by simp, fun q hq q' hq' => ?_⟩
    · rcases List.mem_append.mp hq with hq | hq
      · exact h1 q hq
      · rw [List.mem_singleton] at hq; rw [hq]; exact h3
    · rw [List.mem_singleton] at hq'; rw [hq']; exact h4 q hq
/-- two such lists with the same offsets are one -/
theorem Nrm.uniq : ∀ {rs qs : List Run}, Nrm rs → Nrm qs → (∀ o, Mem o rs ↔ Mem o qs) → rs = qs
  | [], [], _, _, _ => rfl
  | [], q :: qs, _, n, h => absurd ((h q.1).mpr ⟨q, List.mem_cons_self, Int.le_refl _, (Nrm.cons.mp n).1⟩) Mem.nil
  | r :: rs, [], n, _, h => absurd ((h r.1).mp ⟨r, List.mem_cons_self, Int.le_refl _, (Nrm.cons.mp n).1⟩) Mem.nil
  | r :: rs, q :: qs, n, m, h => by
    obtain ⟨n1, n2, n3⟩ := Nrm.cons.mp n
    obtain ⟨m1, m2, m3⟩ := Nrm.cons.mp m
    have lo : ∀ {r : Run} {rs : List Run} {o : Int}, r.1 < r.2 → (∀ q ∈ rs, r.2 < q.1) → Mem o (r :: rs) → r.1 ≤ o := fun {r rs o} c d e => by
      rcases Mem.cons.mp e with e | ⟨q, hq, e⟩
      · exact e.1
      · have := d q hq; omega
    have hi : ∀ {r : Run} {rs : List Run}, r.1 < r.2 → (∀ q ∈ rs, r.2 < q.1) → ¬ Mem r.2 (r :: rs) := fun {r rs} c d e => by
      rcases Mem.cons.mp e with e | ⟨q, hq, e⟩
      · omega
      · have := d q hq; omega
    have e1 : r.1 = q.1 := by
      have a := lo m1 m2 ((h r.1).mp (Mem.cons.mpr (.inl ⟨Int.le_refl _, n1⟩)))
      have b := lo n1 n2 ((h q.1).mpr (Mem.cons.mpr (.inl ⟨Int.le_refl _, m1⟩)))
      omega
    have e2 : r.2 = q.2 := by
      have a := hi n1 n2
      have b := hi m1 m2
      rcases Int.lt_trichotomy r.2 q.2 with c | c | c
      · exact absurd ((h r.2).mpr (Mem.cons.mpr (.inl ⟨by omega, c⟩))) a
      · exact c
      · exact absurd ((h q.2).mp (Mem.cons.mpr (.inl ⟨by omega, c⟩))) b
    have e : r = q := Prod.ext e1 e2
    subst e
    have t : ∀ o, Mem o rs ↔ Mem o qs := fun o => by
      constructor
      · intro g
        obtain ⟨x, hx, c⟩ := g
        rcases Mem.cons.mp ((h o).mp (Mem.cons.mpr (.inr ⟨x, hx, c⟩))) with d | d
        · have := n2 x hx; omega
        · exact d
      · intro g
        obtain ⟨x, hx, c⟩ := g
        rcases Mem.cons.mp ((h o).mpr (Mem.cons.mpr (.inr ⟨x, hx, c⟩))) with d | d
        · have := m2 x hx; omega
        · exact d
    rw [Nrm.uniq n3 m3 t]
theorem Nrm.le_last {r : Run} {rs : List Run} (n : Nrm (rs ++ [r])) : ∀ q ∈ rs ++ [r], q.2 ≤ r.2 := fun q hq => by
  obtain ⟨_, n2, n3⟩ := Nrm.snoc.mp n
  rcases List.mem_append.mp hq with hq | hq
  · have := n3 q hq; omega
  · rw [List.mem_singleton] at hq; rw [hq]; exact Int.le_refl _
/-- a list is empty or has a last item -/
theorem snoc_or {α : Type} (l : List α) : l = [] ∨ ∃ a x, l = a ++ [x] := by
  rcases l.eq_nil_or_concat with h | ⟨a, x, h⟩
  · exact .inl h
  · exact .inr ⟨a, x, by rw [h, List.concat_eq_append]⟩
/-! joined -/
/-- what joined has made of the sorted pairs ps -/
structure Jnd (ps runs : List Run) : Prop where
  nrm : Nrm runs
  mem : ∀ o, Mem o runs ↔ Mem o ps
  lo : ∀ r ∈ runs, ∃ p ∈ ps, r.1 = p.1
  hi : ∀ p ∈ ps, runs = [] ∧ p.2 ≤ p.1 ∨ ∃ a r, runs = a ++ [r] ∧ (p.2 ≤ r.2 ∨ p.2 ≤ p.1)
theorem Jnd.nil : Jnd [] [] := ⟨.nil, fun _ => Iff.rfl, fun _ h => (nomatch h), fun _ h => (nomatch h)⟩
theorem Jnd.glue {ps a : List Run} {r p : Run} (J : Jnd ps (a ++ [r])) (hs : ∀ q ∈ ps, q.1 ≤ p.1) (h : p.1 ≤ r.2) : Jnd (ps ++ [p]) (a ++ [(r.1, max r.2 p.2)]) := by
  obtain ⟨n1, n2, n3⟩ := Nrm.snoc.mp J.nrm
  refine ⟨Nrm.snoc.mpr ⟨n1, by show r.1 < max r.2 p.2; omega, n3⟩, fun o => ?_, fun q hq => ?_, fun q hq => .inr ⟨a, _, rfl, ?_⟩⟩
  · have j := J.mem o
    have l : r.1 ≤ p.1 := by
      obtain ⟨q, hq, e⟩ := J.lo r (by simp)
      have := hs q hq; omega
    rw [Mem.app, Mem.one] at j
    rw [Mem.app, Mem.app, Mem.one, Mem.one, ← j]
    show (Mem o a ∨ r.1 ≤ o ∧ o < max r.2 p.2) ↔ ((Mem o a ∨ r.1 ≤ o ∧ o < r.2) ∨ p.1 ≤ o ∧ o < p.2)
    constructor
    · rintro (h | h)
      · exact .inl (.inl h)
      · by_cases c : o < r.2
        · exact .inl (.inr ⟨h.1, c⟩)
        · exact .inr (by omega)
    · rintro ((h | h) | h)
      · exact .inl h
      · exact .inr (by omega)
      · exact .inr (by omega)
  · rcases List.mem_append.mp hq with hq | hq
    · obtain ⟨p', h1, h2⟩ := J.lo q (List.mem_append_left _ hq)
      exact ⟨p', List.mem_append_left _ h1, h2⟩
    · rw [List.mem_singleton] at hq
      obtain ⟨p', h1, h2⟩ := J.lo r (by simp)
      exact ⟨p', List.mem_append_left _ h1, by rw [hq]; exact h2⟩
  · show q.2 ≤ max r.2 p.2 ∨ q.2 ≤ q.1
    rcases List.mem_append.mp hq with hq | hq
    · rcases J.hi q hq with ⟨e, _⟩ | ⟨a', r', e, h⟩
      · exact absurd e (by simp)
      · have e := (List.append_inj' e rfl).2
        cases e
        omega
    · rw [List.mem_singleton] at hq; rw [hq]; omega
theorem Jnd.push {ps runs : List Run} {p : Run} (J : Jnd ps runs) (hs : ∀ q ∈ ps, q.1 ≤ p.1) (h : ∀ r ∈ runs, r.2 < p.1) (c : p.1 < p.2) : Jnd (ps ++ [p]) (runs ++ [p]) := by
  refine ⟨Nrm.snoc.mpr ⟨J.nrm, c, h⟩, fun o => ?_, fun q hq => ?_, fun q hq => .inr ⟨runs, p, rfl, ?_⟩⟩
  · rw [Mem.app, Mem.app, J.mem o]
  · rcases List.mem_append.mp hq with hq | hq
    · obtain ⟨p', h1, h2⟩ := J.lo q hq
      exact ⟨p', List.mem_append_left _ h1, h2⟩
    · rw [List.mem_singleton] at hq
      exact ⟨p, by simp, by rw [hq]⟩
  · rcases List.mem_append.mp hq with hq | hq
    · rcases J.hi q hq with ⟨_, e⟩ | ⟨a', r', e, d⟩
      · exact .inr e
      · have := h r' (by rw [e]; simp)
        omega
    · rw [List.mem_singleton] at hq; rw [hq]; exact .inl (Int.le_refl _)
theorem Jnd.skip {ps runs : List Run} {p : Run} (J : Jnd ps runs) (c : p.2 ≤ p.1) : Jnd (ps ++ [p]) runs := by
  refine ⟨J.nrm, fun o => ?_, fun q hq => ?_, fun q hq => ?_⟩
  · rw [Mem.app, J.mem o, Mem.one]
    exact ⟨.inl, fun h => h.elim id fun h => by omega⟩
  · obtain ⟨p', h1, h2⟩ := J.lo q hq
    exact ⟨p', List.mem_append_left _ h1, h2⟩
  · rcases List.mem_append.mp hq with hq | hq
    · exact J.hi q hq
    · rw [List.mem_singleton] at hq
      rw [hq]
      rcases snoc_or runs with e | ⟨a, r, e⟩
      · exact .inl ⟨e, c⟩
      · exact .inr ⟨a, r, e, .inr c⟩
/-- the last run ends last -/
theorem Nrm.ends {a : List Run} {r : Run} (n : Nrm (a ++ [r])) {o : Int} (h : r.2 < o) : ∀ q ∈ a ++ [r], q.2 < o := fun q hq => by
  have := n.le_last q hq
  omega
/-! missing -/
structure Msg (low high at_ : Int) (pre found : List Run) : Prop where
  nrm : Nrm found
  bef : ∀ q ∈ found, q.2 < at_ ∧ low ≤ q.1 ∧ q.2 ≤ high
  lo : low ≤ at_
  prv : ∀ r ∈ pre, r.2 ≤ at_
  wh : at_ = low ∨ ∃ r ∈ pre, at_ = r.2
  mem : ∀ o, Mem o found ↔ low ≤ o ∧ o < high ∧ o < at_ ∧ ¬ Mem o pre
theorem Msg.start {low high : Int} : Msg low high low [] [] := ⟨.nil, fun _ h => (nomatch h), Int.le_refl _, fun _ h => (nomatch h), .inl rfl, fun o => ⟨fun h => absurd h Mem.nil, fun h => by omega⟩⟩
theorem Msg.step {low high at_ : Int} {pre found : List Run} {r : Run} (M : Msg low high at_ pre found) (hr : r.1 < r.2) (hp : ∀ q ∈ pre, q.2 < r.1) :
    Msg low high (max at_ r.2) (pre ++ [r]) (if at_ < min r.1 high then found ++ [(at_, min r.1 high)] else found) := by
  have lo := M.lo
  have pr : ∀ q ∈ pre ++ [r], q.2 ≤ max at_ r.2 := fun q hq => by
    rcases List.mem_append.mp hq with hq | hq
    · have := M.prv q hq; omega
    · rw [List.mem_singleton] at hq; rw [hq]; omega
  have wh : max at_ r.2 = low ∨ ∃ q ∈ pre ++ [r], max at_ r.2 = q.2 := by
    by_cases c : at_ ≤ r.2
    · exact .inr ⟨r, by simp, by omega⟩
    · rcases M.wh with e | ⟨q, hq, e⟩
      · exact .inl (by omega)
      · exact .inr ⟨q, List.mem_append_left _ hq, by omega⟩
  split
  · rename_i h
    refine ⟨Nrm.snoc.mpr ⟨M.nrm, h, fun q hq => (M.bef q hq).1⟩, fun q hq => ?_, by omega, pr, wh, fun o => ?_⟩
    · rcases List.mem_append.mp hq with hq | hq
      · obtain ⟨b1, b2, b3⟩ := M.bef q hq
        omega
      · rw [List.mem_singleton] at hq; rw [hq]
        show min r.1 high < max at_ r.2 ∧ low ≤ at_ ∧ min r.1 high ≤ high
        omega
    · rw [Mem.app, Mem.app, Mem.one, Mem.one, M.mem o]
      show (_ ∨ at_ ≤ o ∧ o < min r.1 high) ↔ _
      constructor
      · rintro (⟨h1, h2, h3, h4⟩ | ⟨h1, h2⟩)
        · refine ⟨h1, h2, by omega, fun z => z.elim h4 fun z => ?_⟩
          omega
        · refine ⟨by omega, by omega, by omega, fun z => z.elim (fun ⟨q, hq, c⟩ => ?_) fun z => ?_⟩
          · have := M.prv q hq; omega
          · omega
      · rintro ⟨h1, h2, h3, h4⟩
        by_cases c : o < at_
        · exact .inl ⟨h1, h2, c, fun z => h4 (.inl z)⟩
        · refine .inr ⟨by omega, ?_⟩
          by_cases d : o < r.1
          · omega
          · exact absurd (.inr ⟨by omega, by omega⟩) h4
  · rename_i h
    refine ⟨M.nrm, fun q hq => ?_, by omega, pr, wh, fun o => ?_⟩
    · obtain ⟨b1, b2, b3⟩ := M.bef q hq
      omega
    · rw [Mem.app, Mem.one, M.mem o]
      constructor
      · rintro ⟨h1, h2, h3, h4⟩
        refine ⟨h1, h2, by omega, fun z => z.elim h4 fun z => ?_⟩
        rcases M.wh with e | ⟨q, hq, e⟩
        · omega
        · have := hp q hq; omega
      · rintro ⟨h1, h2, h3, h4⟩
        by_cases c : o < at_
        · exact ⟨h1, h2, c, fun z => h4 (.inl z)⟩
        · by_cases d : o < r.1
          · omega
          · exact absurd (.inr ⟨by omega, by omega⟩) h4
theorem Msg.done {low high at_ : Int} {rs found : List Run} (M : Msg low high at_ rs found) : ∃ out, out = (if at_ < high then found ++ [(at_, high)] else found) ∧ Nrm out ∧ (∀ q ∈ out, low ≤ q.1 ∧ q.2 ≤ high) ∧ ∀ o, Mem o out ↔ low ≤ o ∧ o < high ∧ ¬ Mem o rs := by
  have lo := M.lo
  refine ⟨_, rfl, ?_⟩
  split
  · rename_i h
    refine ⟨Nrm.snoc.mpr ⟨M.nrm, h, fun q hq => (M.bef q hq).1⟩, fun q hq => ?_, fun o => ?_⟩
    · rcases List.mem_append.mp hq with hq | hq
      · exact (M.bef q hq).2
      · rw [List.mem_singleton] at hq; rw [hq]
        exact ⟨M.lo, Int.le_refl _⟩
    · rw [Mem.app, Mem.one, M.mem o]
      show (_ ∨ at_ ≤ o ∧ o < high) ↔ _
      constructor
      · rintro (⟨h1, h2, h3, h4⟩ | ⟨h1, h2⟩)
        · exact ⟨h1, h2, h4⟩
        · exact ⟨by omega, h2, fun ⟨q, hq, c⟩ => by have := M.prv q hq; omega⟩
      · rintro ⟨h1, h2, h3⟩
        by_cases c : o < at_
        · exact .inl ⟨h1, h2, c, h3⟩
        · exact .inr ⟨by omega, h2⟩
  · rename_i h
    refine ⟨M.nrm, fun q hq => (M.bef q hq).2, fun o => ?_⟩
    rw [M.mem o]
    exact ⟨fun ⟨h1, h2, _, h4⟩ => ⟨h1, h2, h4⟩, fun ⟨h1, h2, h3⟩ => ⟨h1, h2, by omega, h3⟩⟩
/-! common -/
structure Com (F S A B found : List Run) : Prop where
  nrm : Nrm found
  na : Nrm A
  nb : Nrm B
  bef : ∀ q ∈ found, ∀ a ∈ A, ∀ b ∈ B, q.2 < max a.1 b.1
  lo : ∀ q ∈ found, ∃ a ∈ F, a.1 ≤ q.1
  sub : ∀ a ∈ A, a ∈ F
  mem : ∀ o, (Mem o F ∧ Mem o S) ↔ Mem o found ∨ (Mem o A ∧ Mem o B)
theorem Com.start {F S : List Run} (hF : Nrm F) (hS : Nrm S) : Com F S F S [] := ⟨.nil, hF, hS, fun _ h => (nomatch h), fun _ h => (nomatch h), fun _ h => h, fun o => ⟨.inr, fun h => h.elim (fun z => absurd z Mem.nil) id⟩⟩
def piece (a b : Run) (found : List Run) : List Run := if max a.1 b.1 < min a.2 b.2 then found ++ [(max a.1 b.1, min a.2 b.2)] else found
theorem mem_piece {a b : Run} {found : List Run} {o : Int} : Mem o (piece a b found) ↔ Mem o found ∨ ((a.1 ≤ o ∧ o < a.2) ∧ (b.1 ≤ o ∧ o < b.2)) := by
  unfold piece
  split
  · rw [Mem.app, Mem.one]
    show (_ ∨ max a.1 b.1 ≤ o ∧ o < min a.2 b.2) ↔ _
    constructor
    · rintro (h | h)
      · exact .inl h
      · exact .inr (by omega)
    · rintro (h | h)
      · exact .inl h
      · exact .inr (by omega)
  · constructor
    · exact .inl
    · rintro (h | h)
      · exact h
      · omega
theorem Com.piece {F S A B found : List Run} {a b : Run} (C : Com F S (a :: A) (b :: B) found) : Nrm (piece a b found) ∧ (∀ q ∈ piece a b found, ∃ x ∈ F, x.1 ≤ q.1) ∧ ∀ q ∈ piece a b found, (∀ x ∈ a :: A, ∀ y ∈ b :: B, q.2 < max x.1 y.1) ∨ q.2 = min a.2 b.2 := by
  unfold My.piece
  split
  · rename_i h
    refine ⟨Nrm.snoc.mpr ⟨C.nrm, h, fun q hq => C.bef q hq a List.mem_cons_self b List.mem_cons_self⟩, fun q hq => ?_, fun q hq => ?_⟩
    · rcases List.mem_append.mp hq with hq | hq
      · exact C.lo q hq
      · rw [List.mem_singleton] at hq; rw [hq]
        exact ⟨a, C.sub a List.mem_cons_self, by show a.1 ≤ max a.1 b.1; omega⟩
    · rcases List.mem_append.mp hq with hq | hq
      · exact .inl (C.bef q hq)
      · rw [List.mem_singleton] at hq; rw [hq]; exact .inr rfl
  · exact ⟨C.nrm, C.lo, fun q hq => .inl (C.bef q hq)⟩
theorem Com.left {F S A B found : List Run} {a b : Run} (C : Com F S (a :: A) (b :: B) found) (h : a.2 < b.2) : Com F S A (b :: B) (My.piece a b found) := by
  obtain ⟨p1, p2, p3⟩ := C.piece
  obtain ⟨a1, a2, a3⟩ := Nrm.cons.mp C.na
  obtain ⟨b1, b2, b3⟩ := Nrm.cons.mp C.nb
  refine ⟨p1, a3, C.nb, fun q hq x hx y hy => ?_, p2, fun x hx => C.sub x (List.mem_cons_of_mem _ hx), fun o => ?_⟩
  · rcases p3 q hq with e | e
    · exact e x (List.mem_cons_of_mem _ hx) y hy
    · have := a2 x hx; omega
  · rw [C.mem o, mem_piece, Mem.cons]
    constructor
    · rintro (h1 | ⟨h1 | h1, h2⟩)
      · exact .inl (.inl h1)
      · rcases Mem.cons.mp h2 with h2 | ⟨y, hy, h2⟩
        · exact .inl (.inr ⟨h1, h2⟩)
        · have := b2 y hy; omega
      · exact .inr ⟨h1, h2⟩
    · rintro ((h1 | h1) | h1)
      · exact .inl h1
      · exact .inr ⟨.inl h1.1, Mem.cons.mpr (.inl h1.2)⟩
      · exact .inr ⟨.inr h1.1, h1.2⟩
theorem Com.right {F S A B found : List Run} {a b : Run} (C : Com F S (a :: A) (b :: B) found) (h : ¬ a.2 < b.2) : Com F S (a :: A) B (My.piece a b found) := by
  obtain ⟨p1, p2, p3⟩ := C.piece
  obtain ⟨a1, a2, a3⟩ := Nrm.cons.mp C.na
  obtain ⟨b1, b2, b3⟩ := Nrm.cons.mp C.nb
  refine ⟨p1, C.na, b3, fun q hq x hx y hy => ?_, p2, C.sub, fun o => ?_⟩
  · rcases p3 q hq with e | e
    · exact e x hx y (List.mem_cons_of_mem _ hy)
    · have := b2 y hy; omega
  · rw [C.mem o, mem_piece, Mem.cons (rs := B)]
    constructor
    · rintro (h1 | ⟨h1, h2 | h2⟩)
      · exact .inl (.inl h1)
      · rcases Mem.cons.mp h1 with h1 | ⟨y, hy, h1⟩
        · exact .inl (.inr ⟨h1, h2⟩)
        · have := a2 y hy; omega
      · exact .inr ⟨h1, h2⟩
    · rintro ((h1 | h1) | h1)
      · exact .inl h1
      · exact .inr ⟨Mem.cons.mpr (.inl h1.1), .inl h1.2⟩
      · exact .inr ⟨h1.1, .inr h1.2⟩
theorem Com.done {F S A B found : List Run} (C : Com F S A B found) (h : A = [] ∨ B = []) : Nrm found ∧ (∀ q ∈ found, ∃ a ∈ F, a.1 ≤ q.1) ∧ ∀ o, Mem o found ↔ Mem o F ∧ Mem o S := by
  refine ⟨C.nrm, C.lo, fun o => ?_⟩
  rw [C.mem o]
  constructor
  · exact .inl
  · rintro (e | e)
    · exact e
    · rcases h with rfl | rfl
      · exact absurd e.1 Mem.nil
      · exact absurd e.2 Mem.nil
/-! the law's own way: the ends in order, a truth between them -/
structure Due (f : Int → Bool) (es : List Int) (k : Nat) (due : List Run) : Prop where
  nrm : Nrm due
  bef : ∀ q ∈ due, ∀ e, es[k]? = some e → q.2 ≤ e
  mem : ∀ o, Mem o due ↔ f o = true ∧ ∃ e0 e, es[0]? = some e0 ∧ es[k]? = some e ∧ e0 ≤ o ∧ o < e
def addDue (low high : Int) (due : List Run) : List Run := match due.getLast? with
  | some r => if r.2 = low then due.dropLast ++ [(r.1, high)] else due ++ [(low, high)]
  | none => due ++ [(low, high)]
theorem Due.start {f : Int → Bool} {es : List Int} : Due f es 0 [] := ⟨.nil, fun _ h => (nomatch h), fun o => ⟨fun h => absurd h Mem.nil, fun ⟨_, e0, e, h1, h2, h3, h4⟩ => by
  rw [h1] at h2; cases h2; omega⟩⟩
theorem Due.skip {f : Int → Bool} {es : List Int} {k : Nat} {due : List Run} {low high : Int} (D : Due f es k due) (hl : es[k]? = some low) (hh : es[k + 1]? = some high) (so : low ≤ high) (c : ∀ o, low ≤ o → o < high → f o = f low) (h : ¬ (low < high ∧ f low = true)) : Due f es (k + 1) due := by
  refine ⟨D.nrm, fun q hq e he => ?_, fun o => ?_⟩
  · rw [hh] at he; cases he
    have := D.bef q hq low hl; omega
  · rw [D.mem o]
    constructor
    · rintro ⟨h1, e0, e, h2, h3, h4, h5⟩
      rw [hl] at h3; cases h3
      exact ⟨h1, e0, high, h2, hh, h4, by omega⟩
    · rintro ⟨h1, e0, e, h2, h3, h4, h5⟩
      rw [hh] at h3; cases h3
      refine ⟨h1, e0, low, h2, hl, h4, ?_⟩
      by_cases d : o < low
      · exact d
      · exact absurd ⟨by omega, by rw [← c o (by omega) h5]; exact h1⟩ h
theorem Due.add {f : Int → Bool} {es : List Int} {k : Nat} {due : List Run} {low high e0 : Int} (D : Due f es k due) (hl : es[k]? = some low) (hh : es[k + 1]? = some high) (h0 : es[0]? = some e0) (l0 : e0 ≤ low) (so : low < high) (c : ∀ o, low ≤ o → o < high → f o = f low) (h : f low = true) : Due f es (k + 1) (addDue low high due) := by
  have mm : ∀ o, (Mem o due ∨ low ≤ o ∧ o < high) ↔ f o = true ∧ ∃ e0 e, es[0]? = some e0 ∧ es[k + 1]? = some e ∧ e0 ≤ o ∧ o < e := fun o => by
    rw [D.mem o]
    constructor
    · rintro (⟨h1, e0, e, h2, h3, h4, h5⟩ | h5)
      · rw [hl] at h3; cases h3
        exact ⟨h1, e0, high, h2, hh, h4, by omega⟩
      · exact ⟨by rw [c o h5.1 h5.2]; exact h, e0, high, h0, hh, by omega, h5.2⟩
    · rintro ⟨h1, e1, e, h2, h3, h4, h5⟩
      rw [hh] at h3; cases h3
      by_cases d : o < low
      · exact .inl ⟨h1, e1, low, h2, hl, h4, d⟩
      · exact .inr ⟨by omega, h5⟩
  have bf : ∀ q ∈ due, q.2 ≤ low := fun q hq => D.bef q hq low hl
  unfold addDue
  rcases snoc_or due with rfl | ⟨a, r, rfl⟩
  · refine ⟨Nrm.snoc.mpr ⟨.nil, so, fun _ h => (nomatch h)⟩, fun q hq e he => ?_, fun o => ?_⟩
    · rw [hh] at he; cases he
      have hq : q ∈ [(low, high)] := hq
      rw [List.mem_singleton] at hq; rw [hq]; exact Int.le_refl _
    · show Mem o ([] ++ [(low, high)]) ↔ _
      rw [Mem.app, Mem.one]; exact mm o
  · rw [List.getLast?_concat]
    show Due f es (k + 1) (if r.2 = low then (a ++ [r]).dropLast ++ [(r.1, high)] else (a ++ [r]) ++ [(low, high)])
    obtain ⟨n1, n2, n3⟩ := Nrm.snoc.mp D.nrm
    split
    · rename_i e
      rw [List.dropLast_concat]
      refine ⟨Nrm.snoc.mpr ⟨n1, by show r.1 < high; omega, n3⟩, fun q hq e' he => ?_, fun o => ?_⟩
      · rw [hh] at he; cases he
        rcases List.mem_append.mp hq with hq | hq
        · have := bf q (List.mem_append_left _ hq); omega
        · rw [List.mem_singleton] at hq; rw [hq]; exact Int.le_refl _
      · rw [← mm o, Mem.app, Mem.app, Mem.one, Mem.one]
        show (Mem o a ∨ r.1 ≤ o ∧ o < high) ↔ _
        constructor
        · rintro (h | h)
          · exact .inl (.inl h)
          · by_cases d : o < low
            · exact .inl (.inr (by omega))
            · exact .inr (by omega)
        · rintro ((h | h) | h)
          · exact .inl h
          · exact .inr (by omega)
          · exact .inr (by omega)
    · rename_i e
      refine ⟨Nrm.snoc.mpr ⟨D.nrm, so, fun q hq => ?_⟩, fun q hq e' he => ?_, fun o => ?_⟩
      · have hr := bf r (by simp)
        have := D.nrm.le_last q hq
        show q.2 < low
        omega
      · rw [hh] at he; cases he
        rcases List.mem_append.mp hq with hq | hq
        · have := bf q hq; omega
        · rw [List.mem_singleton] at hq; rw [hq]; exact Int.le_refl _
      · rw [Mem.app, Mem.one]; exact mm o
/-- an offset lies in one run alone -/
theorem pair_uniq {rs : List Run} {r q : Run} {o : Int} (n : Nrm rs) (hr : r ∈ rs) (hq : q ∈ rs) (c1 : r.1 ≤ o) (c2 : o < r.2) (d1 : q.1 ≤ o) (d2 : o < q.2) : r = q := by
  induction rs with
  | nil => exact nomatch hr
  | cons a rs ih =>
    obtain ⟨_, n2, n3⟩ := Nrm.cons.mp n
    rcases List.mem_cons.mp hr with e1 | h1 <;> rcases List.mem_cons.mp hq with e2 | h2
    · exact e1.trans e2.symm
    · have := n2 q h2; subst e1; omega
    · have := n2 r h1; subst e2; omega
    · exact ih n3 h1 h2
/-! ### pairs, tuples of runs -/
def PairAt (H : Hp) (v : V) (p : Run) : Prop := ∃ t, v = .ref t ∧ (H t = some (.tup [.int p.1, .int p.2]) ∨ H t = some (.lst [.int p.1, .int p.2]))
def Tups (H : Hp) (ts : List Addr) (rs : List Run) : Prop := ts.length = rs.length ∧ ∀ (i : Nat) t r, ts[i]? = some t → rs[i]? = some r → H t = some (.tup [.int r.1, .int r.2])
def RunsL (l : Addr) (ts : List Addr) (rs : List Run) (H : Hp) : Prop := H l = some (.lst (ts.map V.ref)) ∧ Tups H ts rs
section
variable {H H' : Hp} {ts G : List Addr} {rs : List Run} {t l : Addr} {r : Run} {v : V} {p : Run}
theorem PairAt.same (h : PairAt H v p) (s : Same H H') : PairAt H' v p := by
  obtain ⟨t, e, h | h⟩ := h
  · exact ⟨t, e, .inl (s _ _ h)⟩
  · exact ⟨t, e, .inr (s _ _ h)⟩
theorem Tups.ch (h : Tups H ts rs) (x : Ch G H H') (n : ∀ t ∈ ts, t ∉ G) : Tups H' ts rs := ⟨h.1, fun i t r h1 h2 => x.at (n t (List.mem_of_getElem? h1)) (h.2 i t r h1 h2)⟩
theorem Tups.same (h : Tups H ts rs) (s : Same H H') : Tups H' ts rs := ⟨h.1, fun i t r h1 h2 => s _ _ (h.2 i t r h1 h2)⟩
theorem Tups.nil : Tups H [] [] := ⟨rfl, fun _ _ _ h => nomatch h⟩
theorem Tups.snoc (h : Tups H ts rs) (e : H t = some (.tup [.int r.1, .int r.2])) : Tups H (ts ++ [t]) (rs ++ [r]) := ⟨by rw [List.length_append, List.length_append, h.1]; rfl, fun i a b h1 h2 => by
  rcases getq_app h1 with ⟨c, h1⟩ | ⟨c, d⟩
  · rw [List.getElem?_append_left (by have := h.1; omega)] at h2
    exact h.2 i a b h1 h2
  · subst d
    rw [c, h.1, List.getElem?_append_right (Nat.le_refl _), Nat.sub_self] at h2
    cases h2
    exact e⟩
theorem Tups.init {t : Addr} {r : Run} (h : Tups H (ts ++ [t]) (rs ++ [r])) : Tups H ts rs ∧ H t = some (.tup [.int r.1, .int r.2]) := by
  have e : ts.length = rs.length := by
    have := h.1
    rw [List.length_append, List.length_append] at this
    exact Nat.add_right_cancel this
  refine ⟨⟨e, fun i a b h1 h2 => ?_⟩, ?_⟩
  · have l1 := getq_lt h1
    exact h.2 i a b (by rw [List.getElem?_append_left l1]; exact h1) (by rw [List.getElem?_append_left (by omega)]; exact h2)
  · exact h.2 ts.length t r (by simp) (by rw [e]; simp)
theorem RunsL.ch (h : RunsL l ts rs H) (x : Ch G H H') (n : l ∉ G) (m : ∀ t ∈ ts, t ∉ G) : RunsL l ts rs H' := ⟨x.at n h.1, h.2.ch x m⟩
theorem RunsL.same (h : RunsL l ts rs H) (s : Same H H') : RunsL l ts rs H' := ⟨s _ _ h.1, h.2.same s⟩
theorem RunsL.len (h : RunsL l ts rs H) : ts.length = rs.length := h.2.1
theorem RunsL.at (h : RunsL l ts rs H) {i : Nat} {r : Run} (e : rs[i]? = some r) : ∃ t, ts[i]? = some t ∧ (ts.map V.ref)[i]? = some (.ref t) ∧ H t = some (.tup [.int r.1, .int r.2]) := by
  have l1 := getq_lt e
  have l2 : i < ts.length := by have := h.2.1; omega
  exact ⟨ts[i], List.getElem?_eq_getElem l2, by rw [List.getElem?_map, List.getElem?_eq_getElem l2]; rfl, h.2.2 i _ r (List.getElem?_eq_getElem l2) e⟩
theorem Tups.lst_ne {xs : List V} (h : Tups H ts rs) (e : H l = some (.lst xs)) : ∀ t ∈ ts, t ≠ l := fun t ht z => by
  obtain ⟨i, hi⟩ := List.mem_iff_getElem?.mp ht
  have l1 := getq_lt hi
  have l2 : i < rs.length := by have := h.1; omega
  have := h.2 i t rs[i] hi (List.getElem?_eq_getElem l2)
  rw [z, e] at this
  cases this
end
/-- a pair's two places -/
theorem two_to {K : PySem.W.Frag} {t : Addr} {x y : V} {i j : Nat} {σ : L2.St} {H : Hp} {QS : L2.St → Hp → Prop} (h : H t = some (.tup [x, y])) (q : QS ((σ.set i (some x)).set j (some y)) H) : gTup K 2 (gCons (gName i) (gCons (gName j) gNil)) (.ref t) σ H QS :=
  ⟨t, _, rfl, SqT.of h, rfl, x, [y], rfl, y, [], rfl, rfl, q⟩
/-- the last item of a list -/
theorem ixLast {K : PySem.W.Frag} {H : Hp} {Q : VK} {a : Addr} {xs : List V} {v : V} (h : H a = some (.lst (xs ++ [v]))) (q : Q v H) : rIxL K (.ref a) (.int (-1)) H Q := ⟨a, _, -1, v, rfl, rfl, SqL.of h, atI_last xs v, q⟩
theorem ixN_last {α : Type} (xs : List α) (v : α) : ixN (xs ++ [v]).length (-1) = some xs.length := by
  have hl : (xs ++ [v]).length = xs.length + 1 := by simp
  unfold ixN
  rw [if_neg (by decide), if_pos (by omega), hl]
  congr 1
  omega
theorem setLast {H : Hp} {a : Addr} {xs : List V} {v w : V} {P : Hp → Prop} (h : H a = some (.lst (xs ++ [v]))) (q : ∀ H', SameX a H H' → H' a = some (.lst (xs ++ [w])) → P H') : rSetL (.ref a) (.int (-1)) w H P :=
  ⟨a, _, -1, _, rfl, rfl, h, ixN_last xs v, q _ SameX.upd (by rw [upd_same]; simp)⟩
/-- tuple(v), v a pair -/
theorem tupPair {K : PySem.W.Frag} {H : Hp} {Q : VK} {v : V} {p : Run} (h : PairAt H v p) (q : ∀ t H', Same H H' → H' t = some (.tup [.int p.1, .int p.2]) → Q (.ref t) H') : rTupOf K [v] H Q := by
  obtain ⟨t, rfl, h | h⟩ := h
  · exact ⟨t, _, rfl, .inr ⟨SqT.of h, q t H (Same.refl _) h⟩⟩
  · exact ⟨t, _, rfl, .inl ⟨SqL.of h, fun l hl => q l _ (Same.new hl) upd_same⟩⟩
/-- what the heap says of a pair -/
def kOf (H : Hp) (v : V) : Int × Int := match v with
  | .ref t => match H t with
    | some (.tup [.int a, .int b]) => (a, b)
    | _ => (0, 0)
  | _ => (0, 0)
theorem kOf_at {H : Hp} {t : Addr} {p : Run} (h : H t = some (.tup [.int p.1, .int p.2])) : kOf H (.ref t) = p := by
  unfold kOf
  simp only [h]
theorem x_asg2 {te : TE} {g1 g2 : TG} {D : Ends} {σ : L2.St} {H : Hp} (q : te σ H fun x H1 => g1 x σ H1 fun σ1 H2 => g2 x σ1 H2 D.nx) : tAsg2 te g1 g2 D σ H := q
theorem truL {K : PySem.W.Frag} {H : Hp} {l : Addr} {xs : List V} (h : H l = some (.lst xs)) : TruV K (.ref l) H (!xs.isEmpty) := .inl ⟨xs, SqL.of h, rfl⟩
theorem x_for2 {ta : TA} {g : TG} {ts : TS} {D : Ends} {σ : L2.St} {H : Hp} (q : ta σ H fun vs H1 => ∃ i j : Int, vs = [.int i, .int j] ∧ (-(2 ^ 62) ≤ i ∧ i < 2 ^ 62 ∧ -(2 ^ 62) ≤ j ∧ j < 2 ^ 62) ∧ forK (Itr i (j - i).toNat) g ts D σ H1) : tFor (iRng2 ta) g ts D σ H := q
local macro_rules
  | `(tactic| w_up) => `(tactic| first | with_reducible refine x_asg2 ?_ | with_reducible refine x_makeR ?_ | with_reducible refine x_star ?_ | with_reducible refine x_for2 ?_)
/-! ### a comprehension over a list of pairs -/
theorem lcG2 {K : PySem.W.Frag} {a : Addr} {xs : List V} {te tel : TE} {tt : TT} {σ : L2.St} {H : Hp} {Q : VK} {i j : Nat} (P : Addr → Nat → List V → Hp → Prop) (hw : ∀ x y, wipe (((wipe σ [i, j]).set i (some x)).set j (some y)) [i, j] = wipe σ [i, j]) (hte : ∀ R' : VK, R' (.ref a) H → te σ H R') (hS : SqL K H a xs) (hz : xs.length < 100000)
    (h0 : ∀ D, H D = none → P D 0 [] (upd H D (.lst []))) (hsq : ∀ D k vs H', H D = none → P D k vs H' → SqL K H' a xs)
    (hs : ∀ D k v vs H', H D = none → xs[k]? = some v → vs.length ≤ k → H' D = some (.lst vs) → P D k vs H' → ∃ t x y, v = .ref t ∧ H' t = some (.tup [x, y]) ∧ ∀ (Y : VK) (N : Hp → Prop), (∀ w H3, H3 D = some (.lst vs) → P D (k + 1) (vs ++ [w]) (upd H3 D (.lst (vs ++ [w]))) → Y w H3) → (∀ H3, H3 D = some (.lst vs) → P D (k + 1) vs H3 → N H3) →
      tt ((((σ.set j none).set i none).set i (some x)).set j (some y)) H' fun b H2 => if b = true then tel ((((σ.set j none).set i none).set i (some x)).set j (some y)) H2 Y else N H2)
    (hd : ∀ D vs H', H D = none → H' D = some (.lst vs) → vs.length ≤ xs.length → P D xs.length vs H' → Q (.ref D) H') : tLc (iList K te) (gTup K 2 (gCons (gName i) (gCons (gName j) gNil))) tt tel [i, j] σ H Q := by
  refine hte _ ⟨a, rfl, ⟨_, hS⟩, fun D hD => lc_list (K := K) (a := a) (xs := xs) (fun i H' => ∃ vs : List V, vs.length ≤ i ∧ P D i vs H' ∧ H' D = some (.lst vs)) ⟨[], Nat.le_refl _, h0 D hD, upd_same⟩ (fun i H' _ ⟨vs, _, h, _⟩ => hsq D i vs H' hD h) ?_ ?_⟩
  · rintro k v H' hi ⟨vs, hl, hp, h1⟩
    have il := (List.getElem?_eq_some_iff.mp hi).1
    obtain ⟨t, x, y, rfl, ht, go⟩ := hs D k v vs H' hD hi hl h1 hp
    refine two_to ht ⟨hw x y, ?_⟩
    refine go _ _ (fun v H3 e p => ⟨vs, e, Nat.lt_of_lt_of_le (show vs.length < 100000 by omega) (by decide), vs ++ [v], ?_, p, upd_same⟩) (fun H3 e p => ⟨vs, by omega, p, e⟩)
    rw [List.length_append]
    exact Nat.succ_le_succ hl
  · rintro H' ⟨vs, hl, hp, h1⟩
    exact hd D vs H' hD h1 hl hp
/-! ### the functions of runs -/
/-- no pair of offsets -/
def BadPair (K : PySem.W.Frag) (H : Hp) (x : V) : Prop := SeqK K H x false ∨ ∃ t xs, x = .ref t ∧ SeqA K H t xs ∧ (xs.length ≠ 2 ∨ ∃ a b, xs = [a, b] ∧ (Less K H a 0 ∨ ∃ n, a = .int n ∧ 0 ≤ n ∧ Less K H b n))
theorem PairAt.seq {K : PySem.W.Frag} {H : Hp} {t : Addr} {p : Run} (h : H t = some (.tup [.int p.1, .int p.2]) ∨ H t = some (.lst [.int p.1, .int p.2])) : SeqA K H t [.int p.1, .int p.2] := h.elim .tup .lst
def sp_is_run (K : PySem.W.Frag) : Sp := fun vs H Q _ => ∃ (x : V), vs = [x] ∧ ((∃ p, PairAt H x p ∧ 0 ≤ p.1 ∧ p.1 ≤ p.2 ∧ ∀ H', Same H H' → Q (.bl true) H') ∨ (BadPair K H x ∧ ∀ H', Same H H' → Q (.bl false) H'))
theorem ok_is_run (T : Txt K mg) : FnOk P w K mg base CX0 3 T.a_is_run T.fd_is_run ["pair"] (sp_is_run K) := by
  have S := sc_is_run
  refine T.F_is_run.ok S (fun vs H Q E h => ?_) (fun cdv A outer s H vs Q E hr h => ?_)
  · obtain ⟨x, rfl, _⟩ := h
    rfl
  · obtain ⟨x, rfl, h⟩ := h
    refine ⟨_, (pss_one (ps_ret (pe_and (pe_call (ok_is_sequence T) (hr.mono (by decide)) rfl T.g_is_sequence T.F_is_sequence.kp T.B_is_sequence .nil pass0 (pa_cons (pv 0) pa_nil)) (pe_and (pe_cmpR op_eq (pe_callB (id := "len") (call_lenK (K := K) rfl) (by rfl) T.b_len (by decide +kernel) (pa_cons (pv 0) pa_nil)) pe_int (nomark _)) (pe_and (pe_call (ok_is_at_least T) (hr.mono (by decide)) rfl T.g_is_at_least T.F_is_at_least.kp T.B_is_at_least .nil pass0 (pa_cons (pe_ix ix_seq (pv 0) pe_int (fun _ _ => rfl)) (pa_cons pe_int pa_nil))) (pe_one (pe_call (ok_is_at_least T) (hr.mono (by decide)) rfl T.g_is_at_least T.F_is_at_least.kp T.B_is_at_least .nil pass0 (pa_cons (pe_ix ix_seq (pv 0) pe_int (fun _ _ => rfl)) (pa_cons (pe_ix ix_seq (pv 0) pe_int (fun _ _ => rfl)) pa_nil))))))))), ?_⟩
    refine st_is_run ?_
    o_args
    rcases h with ⟨p, ⟨t, rfl, hp⟩, p0, p1, k⟩ | ⟨hb | ⟨t, xs, rfl, hS, hb⟩, k⟩
    · have hS := PairAt.seq (K := K) hp
      refine ⟨_, true, rfl, seqK_of hS, fun H1 s1 => ?_⟩
      have hS := hS.sm s1
      o_args
      refine lenA hS ?_
      o_args
      refine brDT rfl ?_
      o_args
      refine ix_seqA (i := 0) (v := .int p.1) hS rfl ?_
      o_args
      refine ⟨_, 0, rfl, .inl ⟨p.1, rfl, p0, ?_⟩⟩
      o_args
      refine ix_seqA (i := 1) (v := .int p.2) hS rfl ?_
      o_args
      refine ix_seqA (i := 0) (v := .int p.1) hS rfl ?_
      o_args
      exact ⟨_, p.1, rfl, .inl ⟨p.2, rfl, p1, k H1 s1⟩⟩
    · refine ⟨_, false, rfl, hb, fun H1 s1 => ?_⟩
      o_args
      exact k H1 s1
    · refine ⟨_, true, rfl, seqK_of hS, fun H1 s1 => ?_⟩
      have hS := hS.sm s1
      o_args
      refine lenA hS ?_
      o_args
      rcases hb with hn | ⟨a, b, rfl, hb⟩
      · refine brDF (by omega) ?_
        exact k H1 s1
      · refine brDT rfl ?_
        o_args
        refine ix_seqA (i := 0) (v := a) hS rfl ?_
        o_args
        rcases hb with hb | ⟨n, rfl, n0, hb⟩
        · refine ⟨_, 0, rfl, .inr ⟨hb.same s1, ?_⟩⟩
          o_args
          exact k H1 s1
        · refine ⟨_, 0, rfl, .inl ⟨n, rfl, n0, ?_⟩⟩
          o_args
          refine ix_seqA (i := 1) (v := b) hS rfl ?_
          o_args
          refine ix_seqA (i := 0) (v := .int n) hS rfl ?_
          o_args
          exact ⟨_, n, rfl, .inr ⟨hb.same s1, k H1 s1⟩⟩
def sp_joined (K : PySem.W.Frag) : Sp := fun vs H Q _ => ∃ (q : Addr) (xs : List V) (ps : List Run), vs = [.ref q] ∧ SeqA K H q xs ∧ xs.length < 100000 ∧ xs.length = ps.length ∧ (∀ (i : Nat) x p, xs[i]? = some x → ps[i]? = some p → PairAt H x p) ∧
  ∀ l ts rs H', H l = none → (∀ t ∈ ts, H t = none) → Same H H' → RunsL l ts rs H' → rs.length ≤ ps.length → Nrm rs → (∀ o, Mem o rs ↔ Mem o ps) → (∀ r ∈ rs, ∃ p ∈ ps, r.1 = p.1) → Q (.ref l) H'
theorem ok_joined (T : Txt K mg) : FnOk P w K mg base CX0 1 T.a_joined T.fd_joined ["pairs"] (sp_joined K) := by
  have S := sc_joined
  refine T.F_joined.ok S (fun vs H Q E h => ?_) (fun cdv A outer s H vs Q E hr h => ?_)
  · obtain ⟨q, xs, ps, rfl, _⟩ := h
    rfl
  · obtain ⟨q, xs, ps, rfl, hS, hz, hl, hp, k⟩ := h
    refine ⟨_, (pss_cons (ps_set (i := 1) S.nd rfl (Or.inl rfl) (pe_lst pa_nil))
      (pss_cons (ps_for PassesOwn.never rfl (pi_list (pe_callB (id := "sorted") cr_sortedPO (by rfl) T.b_sorted (by decide +kernel) (pa_cons (pe_lc (own := [("pair", 4)]) (g := gName 4) (tt := tYes) rfl S.nd (pi_seqA (pv 0)) (blkOk_by (N := ["pairs", "runs", "low", "high", "pair"]) (sc := defScope s_joined) (by decide +kernel)) (fun _ _ _ _ _ => pg_name (i := 4) S.nd rfl (Or.inl rfl)) (fun _ _ _ _ _ => pts_nil) (fun _ _ _ _ _ => (pe_callTy (T := "tuple") (call_tupK (K := K) rfl) (by rfl) T.b_tuple (by decide +kernel) (pa_cons (pv 4) pa_nil)))) pa_nil))) (pg_tup rfl (pgs_cons (pg_name (i := 2) S.nd rfl (Or.inl rfl)) (pgs_cons (pg_name (i := 3) S.nd rfl (Or.inl rfl)) pgs_nil))) (pss_one (ps_if (PW.pt (pw_and (pt_truth (pv 1) (fun _ => rfl)) (pw_and1 (pt_cmpR op_le (pv 2) (pe_ix ix_tup (pe_ix ix_list (pv 1) (pe_un un_neg pe_int) (fun _ _ => rfl)) pe_int (fun _ _ => rfl)) (nomark _))))) (pss_one (ps_asg (pe_tup (pa_cons (pe_ix ix_tup (pe_ix ix_list (pv 1) (pe_un un_neg pe_int) (fun _ _ => rfl)) pe_int (fun _ _ => rfl)) (pa_cons (pe_callB (id := "max") (call_max2K rfl) (by rfl) T.b_max (by decide +kernel) (pa_cons (pe_ix ix_tup (pe_ix ix_list (pv 1) (pe_un un_neg pe_int) (fun _ _ => rfl)) pe_int (fun _ _ => rfl)) (pa_cons (pv 3) pa_nil))) pa_nil))) (pg_sub (pv 1) (pe_un un_neg pe_int) set_list))) (pss_one (ps_if (pt_cmpR op_lt (pv 2) (pv 3) (nomark _)) (pss_one (ps_expr (pe_bm PySem.F.plainAttrs_list PySem.F.slot_list_append PySem.F.type_list_append mt_append (pv 1) (pa_cons (pe_tup (pa_cons (pv 2) (pa_cons (pv 3) pa_nil))) pa_nil)))) pss_nil)))))
      (pss_one (ps_ret (pv 1))))), ?_⟩
    refine st_joined ?_
    o_args
    refine newList (by simp) fun l H1 nl s1 h1 => ?_
    o_args
    refine lcGA (xs := xs) (fun D i vs H' => SameX D H1 H' ∧ vs.length = i ∧ ∀ (k : Nat) v, vs[k]? = some v → ∃ p t, ps[k]? = some p ∧ v = .ref t ∧ H' t = some (.tup [.int p.1, .int p.2])) (fun R h => ⟨_, rfl, h⟩) (hS.sm s1) hz (fun D _ => ⟨SameX.upd, rfl, fun k v h => by cases h⟩) (fun D i vs H' hD hP o ho => hP.1 _ _ (ne_of_none ho hD) ho) (fun D i x vs H' hD hx hle h2 hP Y N hY hN => ?_) (fun D vs H' hD h2 hle hP => ?_)
    · obtain ⟨s2, e, hP⟩ := hP
      have il : i < ps.length := by have := getq_lt hx; omega
      have pa := ((hp i x _ hx (List.getElem?_eq_getElem il)).same s1).same (Same.ofX hD s2)
      dsimp only [tYes]
      rw [if_pos rfl]
      o_args
      refine tupPair pa fun t H3 s3 h3 => hY _ H3 (s3 _ _ h2) ⟨(s2.trans (SameX.of s3)).upd', by rw [List.length_append, e]; rfl, fun k v hk => ?_⟩
      have tD : t ≠ D := fun z => by
        have := s3 _ _ h2
        rw [← z, h3] at this
        cases this
      rcases getq_app hk with ⟨_, hk⟩ | ⟨rfl, rfl⟩
      · obtain ⟨p, t', e1, e2, e3⟩ := hP k v hk
        have t'D : t' ≠ D := fun z => by rw [z, h2] at e3; cases e3
        exact ⟨p, t', e1, e2, by rw [upd_ne t'D]; exact s3 _ _ e3⟩
      · exact ⟨_, t, by rw [e]; exact List.getElem?_eq_getElem il, rfl, by rw [upd_ne tD]; exact h3⟩
    · obtain ⟨s2, e, hP⟩ := hP
      have hl2 := s2 _ _ (ne_of_none h1 hD) h1
      have hv : vs.map (kOf H') = ps := by
        refine List.ext_getElem? fun k => ?_
        rw [List.getElem?_map]
        cases c : vs[k]? with
        | none =>
          have := List.getElem?_eq_none_iff.mp c
          exact (List.getElem?_eq_none_iff.mpr (by omega)).symm
        | some v =>
          obtain ⟨p, t, e1, e2, e3⟩ := hP k v c
          rw [e1, e2]
          exact congrArg some (kOf_at e3)
      have hk : ∀ v ∈ vs, ∃ t, v = .ref t ∧ H' t = some (.tup [.int (kOf H' v).1, .int (kOf H' v).2]) := fun v hv => by
        obtain ⟨k, hk⟩ := List.mem_iff_getElem?.mp hv
        obtain ⟨p, t, e1, e2, e3⟩ := hP k v hk
        exact ⟨t, e2, by rw [e2, kOf_at e3]; exact e3⟩
      refine ⟨D, vs, kOf H', rfl, SqL.of h2, hk, fun ys S hsr hst nS => ?_⟩
      have hy : ∀ v ∈ ys, ∃ t, v = .ref t ∧ H' t = some (.tup [.int (kOf H' v).1, .int (kOf H' v).2]) := fun v hv => hk v (hst.perm.mem_iff.mp hv)
      have hq : (ys.map (kOf H')).Perm ps := by rw [← hv]; exact hst.perm.map _
      have so : (ys.map (kOf H')).Pairwise fun a b => a.1 ≤ b.1 := List.pairwise_map.mpr (List.Pairwise.imp (fun h => by
        have := SrtO.lexB_no.mp h
        omega) hsr)
      have lq : ys.length = ps.length := by have := hq.length_eq; rw [List.length_map] at this; exact this
      have s3 : Same H' (upd H' S (.lst ys)) := Same.new nS
      have h3 : upd H' S (.lst ys) S = some (.lst ys) := upd_same
      generalize upd H' S (.lst ys) = H3 at s3 h3
      have hl3 := s3 _ _ hl2
      have S3 : Same H H3 := (s1.trans (Same.ofX hD s2)).trans s3
      have lS : S ∉ [l] := fun z => ne_of_none hl2 nS (List.mem_singleton.mp z).symm
      refine ⟨S, rfl, ⟨ys, SqL.of h3⟩, for_list (K := K) (a := S) (xs := ys) (fun i σ H'' => ∃ a b ts rs, σ = [some (.ref q), some (.ref l), a, b, none] ∧ Ch [l] H3 H'' ∧ RunsL l ts rs H'' ∧ (∀ t ∈ ts, H t = none) ∧ rs.length ≤ i ∧ Jnd ((ys.map (kOf H')).take i) rs) ⟨none, none, [], [], rfl, Ch.refl, ⟨hl3, Tups.nil⟩, (fun _ h => nomatch h), Nat.le_refl _, Jnd.nil⟩ (fun i σ H'' _ ⟨_, _, _, _, _, c, _⟩ => SqL.of (c.at lS h3)) ?_ ?_⟩
      · rintro i x σ H4 hx ⟨a, b, ts, rs, rfl, c4, ⟨hl4, T4⟩, n4, z4, J⟩
        obtain ⟨t, rfl, ht⟩ := hy x (List.mem_of_getElem? hx)
        have e5 : (ys.map (kOf H'))[i]? = some (kOf H' (.ref t)) := by rw [List.getElem?_map, hx]; rfl
        have tk : (ys.map (kOf H')).take (i + 1) = (ys.map (kOf H')).take i ++ [kOf H' (.ref t)] := by rw [List.take_succ, e5]; rfl
        have hs5 : ∀ p ∈ (ys.map (kOf H')).take i, p.1 ≤ (kOf H' (.ref t)).1 := fun p hp => by
          have il := getq_lt e5
          have sp := so
          rw [← List.take_append_drop i (ys.map (kOf H'))] at sp
          have dr : (ys.map (kOf H')).drop i = kOf H' (.ref t) :: (ys.map (kOf H')).drop (i + 1) := by
            rw [List.drop_eq_getElem_cons il]
            congr 1
            rw [List.getElem?_eq_getElem il] at e5
            exact Option.some.inj e5
          exact (List.pairwise_append.mp sp).2.2 p hp _ (by rw [dr]; exact List.mem_cons_self)
        have tl : t ∉ [l] := fun z => by
          rw [List.mem_singleton.mp z] at ht
          have := s3 _ _ ht
          rw [hl3] at this
          cases this
        have ht4 := c4.at tl (s3 _ _ ht)
        generalize kOf H' (.ref t) = p at e5 tk hs5 ht4
        refine two_to ht4 ?_
        o_args
        refine ⟨_, truL hl4, ?_⟩
        have zl := T4.1
        have i6 : i < 100000 := by have := getq_lt hx; omega
        have fin : ∀ H5 ts' rs', Ch [l] H4 H5 → RunsL l ts' rs' H5 → (∀ t ∈ ts', H t = none) → rs'.length ≤ i + 1 → Jnd ((ys.map (kOf H')).take i ++ [p]) rs' → ∃ a b ts rs, [some (V.ref q), some (V.ref l), some (.int p.1), some (.int p.2), none] = [some (.ref q), some (.ref l), a, b, none] ∧ Ch [l] H3 H5 ∧ RunsL l ts rs H5 ∧ (∀ t ∈ ts, H t = none) ∧ rs.length ≤ i + 1 ∧ Jnd ((ys.map (kOf H')).take (i + 1)) rs := fun H5 ts' rs' c5 r5 n5 z5 J5 =>
          ⟨_, _, ts', rs', rfl, c4.trans c5, r5, n5, z5, by rw [tk]; exact J5⟩
        have new : ∀ {u}, H4 u = none → H u = none := fun nu => ((Ch.of S3).trans c4).none nu
        rcases snoc_or rs with rfl | ⟨ra, r, rfl⟩
        · have e0 : ts = [] := List.eq_nil_of_length_eq_zero zl
          subst e0
          o_args
          refine brT rfl ?_
          o_args
          refine brD (fun c => ?_) (fun c => ?_)
          · o_args
            refine ⟨isList hl4, ?_⟩
            o_args
            refine newTup (by simp) fun u H5 nu s5 h5 => ?_
            o_args
            refine appList (s5 _ _ hl4) (by simp) fun H6 s6 h6 => ?_
            o_args
            have ul : u ≠ l := (ne_of_none hl4 nu).symm
            exact fin H6 [u] [p] ((Ch.of s5).trans (Ch.ofX (by simp) s6 h6)) ⟨h6, Tups.snoc (ts := []) (rs := []) .nil (s6 _ _ ul h5)⟩ (fun t ht => by rw [List.mem_singleton.mp ht]; exact new nu) (by simp) (J.push (runs := []) hs5 (fun _ h => nomatch h) c)
          · o_args
            exact fin H4 [] [] Ch.refl ⟨hl4, T4⟩ n4 (by simp) (J.skip (by omega))
        · obtain ⟨ta, tr, rfl⟩ : ∃ a x, ts = a ++ [x] := (snoc_or ts).resolve_left fun z => by rw [z] at zl; simp at zl
          have hl5 : H4 l = some (.lst (ta.map V.ref ++ [V.ref tr])) := by rw [hl4, List.map_append]; rfl
          obtain ⟨Ti, Tr⟩ := T4.init
          o_args
          refine brF (by simp) ?_
          o_args
          refine ixLast hl5 ?_
          o_args
          refine brD (fun c => ?_) (fun c => ?_)
          · o_args
            refine ixLast hl5 ?_
            o_args
            refine ixLast hl5 ?_
            o_args
            refine newTup (by simp) fun u H5 nu s5 h5 => ?_
            o_args
            refine setLast (s5 _ _ hl5) fun H6 s6 h6 => ?_
            have ul : u ≠ l := (ne_of_none hl4 nu).symm
            have Ti6 : Tups H6 ta ra := (Ti.same s5).ch (Ch.ofX (a := l) (G := [l]) (by simp) s6 h6) fun t ht z => (Ti.lst_ne hl4 t ht) (List.mem_singleton.mp z)
            o_args
            refine fin H6 (ta ++ [u]) (ra ++ [(r.1, max r.2 p.2)]) ((Ch.of s5).trans (Ch.ofX (by simp) s6 h6)) ⟨by rw [h6, List.map_append]; rfl, Ti6.snoc (r := (r.1, max r.2 p.2)) (s6 _ _ ul h5)⟩ (fun t ht => ?_) (by simp at z4 ⊢; omega) (J.glue hs5 c)
            rcases List.mem_append.mp ht with ht | ht
            · exact n4 t (List.mem_append_left _ ht)
            · rw [List.mem_singleton.mp ht]; exact new nu
          · o_args
            refine brD (fun c2 => ?_) (fun c2 => ?_)
            · o_args
              refine ⟨isList hl4, ?_⟩
              o_args
              refine newTup (by simp) fun u H5 nu s5 h5 => ?_
              o_args
              refine appList (s5 _ _ hl4) (by rw [List.length_map, zl]; omega) fun H6 s6 h6 => ?_
              have ul : u ≠ l := (ne_of_none hl4 nu).symm
              have T6 : Tups H6 (ta ++ [tr]) (ra ++ [r]) := (T4.same s5).ch (Ch.ofX (a := l) (G := [l]) (by simp) s6 h6) fun t ht z => (T4.lst_ne hl4 t ht) (List.mem_singleton.mp z)
              o_args
              refine fin H6 (ta ++ [tr] ++ [u]) (ra ++ [r] ++ [p]) ((Ch.of s5).trans (Ch.ofX (by simp) s6 h6)) ⟨by rw [h6, List.map_append (l₂ := [u])]; rfl, T6.snoc (s6 _ _ ul h5)⟩ (fun t ht => ?_) (by simp at z4 ⊢; omega) (J.push hs5 (J.nrm.ends (by omega)) c2)
              rcases List.mem_append.mp ht with ht | ht
              · exact n4 t ht
              · rw [List.mem_singleton.mp ht]; exact new nu
            · o_args
              exact fin H4 (ta ++ [tr]) (ra ++ [r]) Ch.refl ⟨hl4, T4⟩ n4 (by omega) (J.skip (by omega))
      · rintro σ H4 ⟨a, b, ts, rs, rfl, c4, r4, n4, z4, J⟩
        rw [List.take_of_length_le (by rw [List.length_map]; exact Nat.le_refl _)] at J
        o_args
        refine k l ts rs H4 nl n4 ((((Ch.of S3).trans c4).more (F := [l]) (fun _ h => h)) |> fun c => Ch.same ((c).drop nl)) r4 (by omega) J.nrm (fun o => ?_) (fun r hr => ?_)
        · rw [J.mem o]
          exact ⟨fun ⟨r, h1, h2⟩ => ⟨r, hq.mem_iff.mp h1, h2⟩, fun ⟨r, h1, h2⟩ => ⟨r, hq.mem_iff.mpr h1, h2⟩⟩
        · obtain ⟨p, h1, h2⟩ := J.lo r hr
          exact ⟨p, hq.mem_iff.mp h1, h2⟩
def sp_missing (K : PySem.W.Frag) : Sp := fun vs H Q _ => ∃ (l : Addr) (ts : List Addr) (rs : List Run) (lo hi : Int), vs = [.ref l, .int lo, .int hi] ∧ RunsL l ts rs H ∧ Nrm rs ∧ rs.length < 50000 ∧
  ∀ l' ts' out H', H l' = none → (∀ t ∈ ts', H t = none) → Same H H' → RunsL l' ts' out H' → out.length ≤ rs.length + 1 → Nrm out → (∀ q ∈ out, lo ≤ q.1 ∧ q.2 ≤ hi) → (∀ o, Mem o out ↔ lo ≤ o ∧ o < hi ∧ ¬ Mem o rs) → Q (.ref l') H'
theorem ok_missing (T : Txt K mg) : FnOk P w K mg base CX0 1 T.a_missing T.fd_missing ["runs", "low", "high"] (sp_missing K) := by
  have S := sc_missing
  refine T.F_missing.ok S (fun vs H Q E h => ?_) (fun cdv A outer s H vs Q E hr h => ?_)
  · obtain ⟨l, ts, rs, lo, hi, rfl, _⟩ := h
    rfl
  · obtain ⟨l, ts, rs, lo, hi, rfl, hR, hN, hz, k⟩ := h
    refine ⟨_, (pss_cons (ps_set (i := 3) S.nd rfl (Or.inl rfl) (pe_lst pa_nil))
      (pss_cons (ps_set (i := 4) S.nd rfl (Or.inl rfl) (pv 1))
      (pss_cons (ps_for PassesOwn.never rfl (pi_list (pv 0)) (pg_tup rfl (pgs_cons (pg_name (i := 5) S.nd rfl (Or.inl rfl)) (pgs_cons (pg_name (i := 6) S.nd rfl (Or.inl rfl)) pgs_nil))) (pss_cons (ps_if (pt_cmpR op_lt (pv 4) (pe_callB (id := "min") (call_min2K rfl) (by rfl) T.b_min (by decide +kernel) (pa_cons (pv 5) (pa_cons (pv 2) pa_nil))) (nomark _)) (pss_one (ps_expr (pe_bm PySem.F.plainAttrs_list PySem.F.slot_list_append PySem.F.type_list_append mt_append (pv 3) (pa_cons (pe_tup (pa_cons (pv 4) (pa_cons (pe_callB (id := "min") (call_min2K rfl) (by rfl) T.b_min (by decide +kernel) (pa_cons (pv 5) (pa_cons (pv 2) pa_nil))) pa_nil))) pa_nil)))) pss_nil)
      (pss_one (ps_set (i := 4) S.nd rfl (Or.inl rfl) (pe_callB (id := "max") (call_max2K rfl) (by rfl) T.b_max (by decide +kernel) (pa_cons (pv 4) (pa_cons (pv 6) pa_nil)))))))
      (pss_cons (ps_if (pt_cmpR op_lt (pv 4) (pv 2) (nomark _)) (pss_one (ps_expr (pe_bm PySem.F.plainAttrs_list PySem.F.slot_list_append PySem.F.type_list_append mt_append (pv 3) (pa_cons (pe_tup (pa_cons (pv 4) (pa_cons (pv 2) pa_nil))) pa_nil)))) pss_nil)
      (pss_one (ps_ret (pv 3))))))), ?_⟩
    refine st_missing ?_
    o_args
    refine newList (by simp) fun f H1 nf s1 h1 => ?_
    have hR1 := hR.same s1
    have lf : l ∉ [f] := fun z => ne_of_none hR.1 nf (List.mem_singleton.mp z)
    have tf : ∀ t ∈ ts, t ∉ [f] := fun t ht z => (hR1.2.lst_ne h1 t ht) (List.mem_singleton.mp z)
    have new : ∀ {H4 u}, Ch [f] H1 H4 → H4 u = none → H u = none := fun c nu => ((Ch.of s1).trans c).none nu
    o_args
    refine overL (SqL.of hR1.1) (for_list (K := K) (a := l) (xs := ts.map V.ref) (fun i σ H' => ∃ a b ts' out at_, σ = [some (.ref l), some (.int lo), some (.int hi), some (.ref f), some (.int at_), a, b] ∧ Ch [f] H1 H' ∧ RunsL f ts' out H' ∧ (∀ t ∈ ts', H t = none) ∧ out.length ≤ i ∧ Msg lo hi at_ (rs.take i) out) ⟨none, none, [], [], lo, rfl, Ch.refl, ⟨h1, .nil⟩, (fun _ h => nomatch h), Nat.le_refl _, Msg.start⟩ (fun i σ H' _ ⟨_, _, _, _, _, _, c, _⟩ => SqL.of (c.at lf hR1.1)) ?_ ?_)
    · rintro i x σ H2 hx ⟨a, b, ts', out, at_, rfl, c2, r2, n2, z2, M⟩
      have il := getq_lt hx
      rw [List.length_map, hR.len] at il
      obtain ⟨t, e1, e2, ht⟩ := hR1.at (List.getElem?_eq_getElem il)
      rw [e2] at hx
      cases hx
      have ht2 := c2.at (tf t (List.mem_of_getElem? e1)) ht
      have rn := hN.1 _ (List.getElem_mem il)
      have tk : rs.take (i + 1) = rs.take i ++ [rs[i]] := by rw [List.take_succ, List.getElem?_eq_getElem il]; rfl
      have rp : ∀ q ∈ rs.take i, q.2 < rs[i].1 := fun q hq => by
        have sp := hN.2
        rw [← List.take_append_drop i rs] at sp
        exact (List.pairwise_append.mp sp).2.2 q hq _ (by rw [List.drop_eq_getElem_cons il]; exact List.mem_cons_self)
      have M2 := M.step rn rp
      generalize rs[i] = r at ht2 M2 tk
      have r2l := r2.len
      refine two_to ht2 ?_
      o_args
      refine brD (fun c => ?_) (fun c => ?_)
      · rw [if_pos c] at M2
        o_args
        refine ⟨isList r2.1, ?_⟩
        o_args
        refine newTup (by simp) fun u H3 nu s3 h3 => ?_
        o_args
        refine appList (s3 _ _ r2.1) (by rw [List.length_map]; omega) fun H4 s4 h4 => ?_
        have uf : u ≠ f := (ne_of_none r2.1 nu).symm
        have T4 : Tups H4 ts' out := (r2.2.same s3).ch (Ch.ofX (a := f) (G := [f]) (by simp) s4 h4) fun t ht z => (r2.2.lst_ne r2.1 t ht) (List.mem_singleton.mp z)
        o_args
        refine ⟨_, _, ts' ++ [u], _, _, rfl, (c2.trans (Ch.of s3)).trans (Ch.ofX (by simp) s4 h4), ⟨by rw [h4, List.map_append]; rfl, T4.snoc (s4 _ _ uf h3)⟩, fun t ht => ?_, by simp; omega, by rw [tk]; exact M2⟩
        rcases List.mem_append.mp ht with ht | ht
        · exact n2 t ht
        · rw [List.mem_singleton.mp ht]; exact new c2 nu
      · rw [if_neg c] at M2
        o_args
        exact ⟨_, _, ts', out, _, rfl, c2, r2, n2, by omega, by rw [tk]; exact M2⟩
    · rintro σ H2 ⟨a, b, ts', out, at_, rfl, c2, r2, n2, z2, M⟩
      rw [List.take_of_length_le (by rw [List.length_map, hR.len]; exact Nat.le_refl _)] at M
      rw [List.length_map, hR.len] at z2
      have r2l := r2.len
      obtain ⟨o', eo, d1, d2, d3⟩ := M.done
      o_args
      refine brD (fun c => ?_) (fun c => ?_)
      · rw [if_pos c] at eo
        subst eo
        o_args
        refine ⟨isList r2.1, ?_⟩
        o_args
        refine newTup (by simp) fun u H3 nu s3 h3 => ?_
        o_args
        refine appList (s3 _ _ r2.1) (by rw [List.length_map]; omega) fun H4 s4 h4 => ?_
        have uf : u ≠ f := (ne_of_none r2.1 nu).symm
        have T4 : Tups H4 ts' out := (r2.2.same s3).ch (Ch.ofX (a := f) (G := [f]) (by simp) s4 h4) fun t ht z => (r2.2.lst_ne r2.1 t ht) (List.mem_singleton.mp z)
        o_args
        refine k f (ts' ++ [u]) _ H4 nf (fun t ht => ?_) (Ch.same ((((Ch.of s1).trans (c2.trans (Ch.of s3))).trans (Ch.ofX (by simp) s4 h4)).drop nf)) ⟨by rw [h4, List.map_append]; rfl, T4.snoc (s4 _ _ uf h3)⟩ (by simp; omega) d1 d2 d3
        rcases List.mem_append.mp ht with ht | ht
        · exact n2 t ht
        · rw [List.mem_singleton.mp ht]; exact new c2 nu
      · rw [if_neg c] at eo
        subst eo
        o_args
        exact k f ts' _ H2 nf n2 (Ch.same (((Ch.of s1).trans c2).drop nf)) r2 (by omega) d1 d2 d3
def sp_common (K : PySem.W.Frag) : Sp := fun vs H Q _ => ∃ (l1 l2 : Addr) (ts1 ts2 : List Addr) (F S : List Run), vs = [.ref l1, .ref l2] ∧ RunsL l1 ts1 F H ∧ RunsL l2 ts2 S H ∧ Nrm F ∧ Nrm S ∧ F.length < 50000 ∧ S.length < 50000 ∧
  ∀ l' ts' out H', H l' = none → (∀ t ∈ ts', H t = none) → Same H H' → RunsL l' ts' out H' → out.length ≤ F.length + S.length → Nrm out → (∀ q ∈ out, ∃ a ∈ F, a.1 ≤ q.1) → (∀ o, Mem o out ↔ Mem o F ∧ Mem o S) → Q (.ref l') H'
theorem ok_common (T : Txt K mg) : FnOk P w K mg base CX0 1 T.a_common T.fd_common ["first", "second"] (sp_common K) := by
  have S := sc_common
  refine T.F_common.ok S (fun vs H Q E h => ?_) (fun cdv A outer s H vs Q E hr h => ?_)
  · obtain ⟨l1, l2, ts1, ts2, F, S, rfl, _⟩ := h
    rfl
  · obtain ⟨l1, l2, ts1, ts2, F, S', rfl, hR1, hR2, hN1, hN2, z1, z2, k⟩ := h
    refine ⟨_, (pss_cons (ps_set (i := 2) S.nd rfl (Or.inl rfl) (pe_lst pa_nil))
      (pss_cons (ps_asg2 pe_int (pg_name (i := 3) S.nd rfl (Or.inl rfl)) (pg_name (i := 4) S.nd rfl (Or.inl rfl)))
      (pss_cons (ps_while PassesOwn.never (PW.pt (pw_and (pt_cmpR op_lt (pv 3) (pe_callB (id := "len") (call_lenK (K := K) rfl) (by rfl) T.b_len (by decide +kernel) (pa_cons (pv 0) pa_nil)) (nomark _)) (pw_and1 (pt_cmpR op_lt (pv 4) (pe_callB (id := "len") (call_lenK (K := K) rfl) (by rfl) T.b_len (by decide +kernel) (pa_cons (pv 1) pa_nil)) (nomark _))))) (pss_cons (ps_set (i := 5) S.nd rfl (Or.inl rfl) (pe_callB (id := "max") (call_max2K rfl) (by rfl) T.b_max (by decide +kernel) (pa_cons (pe_ix ix_tup (pe_ix ix_list (pv 0) (pv 3) (fun _ _ => rfl)) pe_int (fun _ _ => rfl)) (pa_cons (pe_ix ix_tup (pe_ix ix_list (pv 1) (pv 4) (fun _ _ => rfl)) pe_int (fun _ _ => rfl)) pa_nil))))
      (pss_cons (ps_set (i := 6) S.nd rfl (Or.inl rfl) (pe_callB (id := "min") (call_min2K rfl) (by rfl) T.b_min (by decide +kernel) (pa_cons (pe_ix ix_tup (pe_ix ix_list (pv 0) (pv 3) (fun _ _ => rfl)) pe_int (fun _ _ => rfl)) (pa_cons (pe_ix ix_tup (pe_ix ix_list (pv 1) (pv 4) (fun _ _ => rfl)) pe_int (fun _ _ => rfl)) pa_nil))))
      (C8.pss_cut (ps_if (pt_cmpR op_lt (pv 5) (pv 6) (nomark _)) (pss_one (ps_expr (pe_bm PySem.F.plainAttrs_list PySem.F.slot_list_append PySem.F.type_list_append mt_append (pv 2) (pa_cons (pe_tup (pa_cons (pv 5) (pa_cons (pv 6) pa_nil))) pa_nil)))) pss_nil)
      (pss_one (ps_if (pt_cmpR op_lt (pe_ix ix_tup (pe_ix ix_list (pv 0) (pv 3) (fun _ _ => rfl)) pe_int (fun _ _ => rfl)) (pe_ix ix_tup (pe_ix ix_list (pv 1) (pv 4) (fun _ _ => rfl)) pe_int (fun _ _ => rfl)) (nomark _)) (pss_one (ps_aug (i := 3) S.nd rfl (.inl rfl) pe_int ip_add)) (pss_one (ps_aug (i := 4) S.nd rfl (.inl rfl) pe_int ip_add))))))))
      (pss_one (ps_ret (pv 2)))))), ?_⟩
    refine st_common ?_
    o_args
    refine newList (by simp) fun f H1 nf s1 h1 => ?_
    have hF := hR1.same s1
    have hG := hR2.same s1
    have lf : l1 ∉ [f] := fun z => ne_of_none hR1.1 nf (List.mem_singleton.mp z)
    have mf : l2 ∉ [f] := fun z => ne_of_none hR2.1 nf (List.mem_singleton.mp z)
    have tf : ∀ t ∈ ts1, t ∉ [f] := fun t ht z => (hF.2.lst_ne h1 t ht) (List.mem_singleton.mp z)
    have uf : ∀ t ∈ ts2, t ∉ [f] := fun t ht z => (hG.2.lst_ne h1 t ht) (List.mem_singleton.mp z)
    have new : ∀ {H4 u}, Ch [f] H1 H4 → H4 u = none → H u = none := fun c nu => ((Ch.of s1).trans c).none nu
    o_args
    refine ⟨fun m σ H' => ∃ (i j : Nat) (lv hv : Option V) (ts' : List Addr) (out : List Run), m = (F.length - i) + (S'.length - j) ∧ i ≤ F.length ∧ j ≤ S'.length ∧ σ = [some (.ref l1), some (.ref l2), some (.ref f), some (.int (i : Int)), some (.int (j : Int)), lv, hv] ∧ Ch [f] H1 H' ∧ RunsL f ts' out H' ∧ (∀ t ∈ ts', H t = none) ∧ out.length ≤ i + j ∧ Com F S' (F.drop i) (S'.drop j) out, ⟨_, 0, 0, none, none, [], [], rfl, Nat.zero_le _, Nat.zero_le _, rfl, Ch.refl, ⟨h1, .nil⟩, (fun _ h => nomatch h), Nat.le_refl _, Com.start hN1 hN2⟩, ?_⟩
    rintro m σ H2 ⟨i, j, lv, hv, ts', out, rfl, hi, hj, rfl, c2, r2, n2, zo, C⟩
    have f2 := hF.ch c2 lf tf
    have g2 := hG.ch c2 mf uf
    have r2l := r2.len
    have fin : i = F.length ∨ j = S'.length → Q (.ref f) H2 := fun e => by
      obtain ⟨d1, d2, d3⟩ := C.done (e.elim (fun e => .inl (List.drop_eq_nil_of_le (by omega))) fun e => .inr (List.drop_eq_nil_of_le (by omega)))
      exact k f ts' out H2 nf n2 (Ch.same (((Ch.of s1).trans c2).drop nf)) r2 (by omega) d1 d2 d3
    o_args
    refine lenA (SeqA.lst f2.1) ?_
    o_args
    rw [List.length_map, f2.len]
    refine brD (fun q1 => ?_) (fun q1 => ?_)
    · o_args
      refine lenA (SeqA.lst g2.1) ?_
      o_args
      rw [List.length_map, g2.len]
      refine brD (fun q2 => ?_) (fun q2 => ?_)
      · have i1 : i < F.length := by omega
        have j1 : j < S'.length := by omega
        obtain ⟨t, _, e1, ht⟩ := f2.at (List.getElem?_eq_getElem i1)
        obtain ⟨u, _, e2, hu⟩ := g2.at (List.getElem?_eq_getElem j1)
        have eF := List.drop_eq_getElem_cons i1
        have eS := List.drop_eq_getElem_cons j1
        rw [eF, eS] at C
        generalize F[i] = a at ht C eF
        generalize S'[j] = b at hu C eS
        refine ⟨fun σ' H' => ∃ m', m' < (F.length - i) + (S'.length - j) ∧ ∃ (i j : Nat) (lv hv : Option V) (ts' : List Addr) (out : List Run), m' = (F.length - i) + (S'.length - j) ∧ i ≤ F.length ∧ j ≤ S'.length ∧ σ' = [some (.ref l1), some (.ref l2), some (.ref f), some (.int (i : Int)), some (.int (j : Int)), lv, hv] ∧ Ch [f] H1 H' ∧ RunsL f ts' out H' ∧ (∀ t ∈ ts', H t = none) ∧ out.length ≤ i + j ∧ Com F S' (F.drop i) (S'.drop j) out, fun _ _ h => h, ?_⟩
        o_args
        refine ixL f2.1 e1 ?_
        o_args
        refine ixL g2.1 e2 ?_
        o_args
        refine ixL f2.1 e1 ?_
        o_args
        refine ixL g2.1 e2 ?_
        o_args
        refine ⟨fun σ H' => ∃ lv hv ts'', σ = [some (.ref l1), some (.ref l2), some (.ref f), some (.int (i : Int)), some (.int (j : Int)), lv, hv] ∧ Ch [f] H2 H' ∧ RunsL f ts'' (piece a b out) H' ∧ (∀ t ∈ ts'', H t = none), ?_, ?_⟩
        · unfold piece
          o_args
          refine brD (fun c => ?_) (fun c => ?_)
          · rw [if_pos c]
            o_args
            refine ⟨isList r2.1, ?_⟩
            o_args
            refine newTup (by simp) fun v H3 nu s3 h3 => ?_
            o_args
            refine appList (s3 _ _ r2.1) (by rw [List.length_map]; omega) fun H4 s4 h4 => ?_
            have vf : v ≠ f := (ne_of_none r2.1 nu).symm
            have T4 : Tups H4 ts' out := (r2.2.same s3).ch (Ch.ofX (a := f) (G := [f]) (by simp) s4 h4) fun t ht z => (r2.2.lst_ne r2.1 t ht) (List.mem_singleton.mp z)
            o_args
            refine ⟨_, _, ts' ++ [v], rfl, (Ch.of s3).trans (Ch.ofX (by simp) s4 h4), ⟨by rw [h4, List.map_append]; rfl, T4.snoc (s4 _ _ vf h3)⟩, fun t ht => ?_⟩
            rcases List.mem_append.mp ht with ht | ht
            · exact n2 t ht
            · rw [List.mem_singleton.mp ht]; exact new c2 nu
          · rw [if_neg c]
            o_args
            exact ⟨_, _, ts', rfl, Ch.refl, r2, n2⟩
        · rintro σ H3 ⟨lv', hv', ts'', rfl, c3, r3, n3⟩
          have f3 := hF.ch (c2.trans c3) lf tf
          have g3 := hG.ch (c2.trans c3) mf uf
          have ht3 := c3.at (tf t (by
            obtain ⟨k', e⟩ := List.mem_iff_getElem?.mp (List.mem_of_getElem? e1)
            rw [List.getElem?_map] at e1
            cases q : ts1[i]? with
            | none => rw [q] at e1; cases e1
            | some x => rw [q] at e1; cases e1; exact List.mem_of_getElem? q)) ht
          have hu3 := c3.at (uf u (by
            rw [List.getElem?_map] at e2
            cases q : ts2[j]? with
            | none => rw [q] at e2; cases e2
            | some x => rw [q] at e2; cases e2; exact List.mem_of_getElem? q)) hu
          have pz : (piece a b out).length ≤ out.length + 1 := by
            unfold piece
            split
            · simp
            · omega
          o_args
          refine ixL f3.1 e1 ?_
          o_args
          refine ixL g3.1 e2 ?_
          o_args
          refine brD (fun c => ?_) (fun c => ?_)
          · o_args
            refine ⟨_, rfl, ?_⟩
            o_args
            exact ⟨(F.length - (i + 1)) + (S'.length - j), by omega, i + 1, j, _, _, ts'', _, rfl, by omega, hj, rfl, c2.trans c3, r3, n3, by omega, by rw [eS]; exact C.left c⟩
          · o_args
            refine ⟨_, rfl, ?_⟩
            o_args
            exact ⟨(F.length - i) + (S'.length - (j + 1)), by omega, i, j + 1, _, _, ts'', _, rfl, hi, by omega, rfl, c2.trans c3, r3, n3, by omega, by rw [eF]; exact C.right c⟩
      · o_args
        exact fin (.inr (by omega))
    · o_args
      exact fin (.inl (by omega))
/-! ### sets of offsets -/
structure Offs (rs : List Run) : Prop where
  nrm : Nrm rs
  lo : ∀ r ∈ rs, 0 ≤ r.1
def sp_without (K : PySem.W.Frag) : Sp := fun vs H Q _ => ∃ (l1 l2 : Addr) (ts1 ts2 : List Addr) (F S : List Run), vs = [.ref l1, .ref l2] ∧ RunsL l1 ts1 F H ∧ RunsL l2 ts2 S H ∧ Offs F ∧ Nrm S ∧ F.length < 40000 ∧ S.length < 40000 ∧
  ∀ l' ts' out H', H l' = none → (∀ t ∈ ts', H t = none) → Same H H' → RunsL l' ts' out H' → out.length ≤ F.length + S.length + 1 → Offs out → (∀ o, Mem o out ↔ Mem o F ∧ ¬ Mem o S) → Q (.ref l') H'
theorem ok_without (T : Txt K mg) : FnOk P w K mg base CX0 2 T.a_without T.fd_without ["first", "second"] (sp_without K) := by
  have S := sc_without
  refine T.F_without.ok S (fun vs H Q E h => ?_) (fun cdv A outer s H vs Q E hr h => ?_)
  · obtain ⟨l1, l2, ts1, ts2, F, S, rfl, _⟩ := h
    rfl
  · obtain ⟨l1, l2, ts1, ts2, F, S', rfl, hR1, hR2, hF, hS, z1, z2, k⟩ := h
    refine ⟨_, (pss_cons (ps_set (i := 2) S.nd rfl (Or.inl rfl) (pe_ifExp (pt_truth (pv 0) (fun _ => rfl)) (pe_ix ix_tup (pe_ix ix_list (pv 0) (pe_un un_neg pe_int) (fun _ _ => rfl)) pe_int (fun _ _ => rfl)) pe_int))
      (pss_one (ps_ret (pe_call (ok_common T) (hr.mono (by decide)) rfl T.g_common T.F_common.kp T.B_common .nil pass0 (pa_cons (pv 0) (pa_cons (pe_call (ok_missing T) (hr.mono (by decide)) rfl T.g_missing T.F_missing.kp T.B_missing .nil pass0 (pa_cons (pv 1) (pa_cons pe_int (pa_cons (pv 2) pa_nil)))) pa_nil)))))), ?_⟩
    refine st_without ?_
    o_args
    have go : ∀ e : Int, (∀ o, Mem o F → 0 ≤ o ∧ o < e) → sp_missing K ([V.ref l2, V.int 0, V.int e] ++ []) H (fun x H1 => tNil [some (.ref l1), some (.ref l2), some (.int e)] H1 fun xs H2 => sp_common K (V.ref l1 :: x :: xs ++ []) H2 (fun x H1 => Q x H1) E0) E0 := fun e he => by
      refine ⟨l2, ts2, S', 0, e, rfl, hR2, hS, by omega, fun m us out H1 nm nu s1 r1 zo n1 b1 m1 => ?_⟩
      o_args
      refine ⟨l1, m, ts1, us, F, out, rfl, hR1.same s1, r1, hF.nrm, n1, by omega, by omega, fun l' ts' out' H2 nl' nt s2 r2 zo' n2 b2 m2 => ?_⟩
      o_args
      refine k l' ts' out' H2 (none_of s1 nl') (fun t ht => none_of s1 (nt t ht)) (s1.trans s2) r2 (by omega) ⟨n2, fun r hr => ?_⟩ (fun o => ?_)
      · obtain ⟨a, ha, h⟩ := b2 r hr
        have := hF.lo a ha; omega
      · rw [m2 o, m1 o]
        exact ⟨fun ⟨h1, _, _, h2⟩ => ⟨h1, h2⟩, fun ⟨h1, h2⟩ => ⟨h1, (he o h1).1, (he o h1).2, h2⟩⟩
    refine ⟨_, truL hR1.1, ?_⟩
    have zl := hR1.len
    rcases snoc_or F with rfl | ⟨a, r, rfl⟩
    · have e0 : ts1 = [] := List.eq_nil_of_length_eq_zero zl
      subst e0
      o_args
      refine brT rfl ?_
      o_args
      exact go 0 fun o h => absurd h Mem.nil
    · obtain ⟨ta, tr, rfl⟩ : ∃ a x, ts1 = a ++ [x] := (snoc_or ts1).resolve_left fun z => by rw [z] at zl; simp at zl
      have hl5 : H l1 = some (.lst (ta.map V.ref ++ [V.ref tr])) := by rw [hR1.1, List.map_append]; rfl
      obtain ⟨Ti, Tr⟩ := hR1.2.init
      o_args
      refine brF (by simp) ?_
      o_args
      refine ixLast hl5 ?_
      o_args
      refine go r.2 fun o ⟨q, hq, h⟩ => ?_
      have := hF.lo q hq
      have := hF.nrm.le_last q hq
      omega
/-- at e: a set of the runs rs; what is named in F is none of its own -/
def SpA (C e : Addr) (F : List Addr) (rs : List Run) (H : Hp) : Prop := ∃ dx l ts, H e = some (.ins C dx [("_runs", .ref l)]) ∧ RunsL l ts rs H ∧ e ∉ F ∧ l ∉ F ∧ (∀ t ∈ ts, t ∉ F) ∧ Offs rs
section
variable {C e x : Addr} {F G : List Addr} {rs : List Run} {H H' : Hp}
theorem SpA.ch (S : SpA C e F rs H) (c : Ch G H H') (h : ∀ b ∈ G, b ∈ F) : SpA C e F rs H' := by
  obtain ⟨dx, l, ts, h1, h2, h3, h4, h5, h6⟩ := S
  exact ⟨dx, l, ts, c.at (fun z => h3 (h _ z)) h1, h2.ch c (fun z => h4 (h _ z)) (fun t ht z => h5 t ht (h _ z)), h3, h4, h5, h6⟩
theorem SpA.same (S : SpA C e F rs H) (s : Same H H') : SpA C e F rs H' := S.ch (Ch.of (G := []) s) (fun _ h => nomatch h)
theorem SpA.own (S : SpA C e F rs H) (hx : H x = none) (s : Same H H') : SpA C e (x :: F) rs H' := by
  obtain ⟨dx, l, ts, h1, h2, h3, h4, h5, h6⟩ := S
  have ne : ∀ {b o}, H b = some o → b ∉ F → b ∉ x :: F := fun e n z => by
    rcases List.mem_cons.mp z with z | z
    · rw [z, hx] at e; cases e
    · exact n z
  refine ⟨dx, l, ts, s _ _ h1, h2.same s, ne h1 h3, ne h2.1 h4, fun t ht => ?_, h6⟩
  obtain ⟨i, hi⟩ := List.mem_iff_getElem?.mp ht
  have l1 := getq_lt hi
  have l2 : i < rs.length := by have := h2.len; omega
  exact ne (h2.2.2 i t rs[i] hi (List.getElem?_eq_getElem l2)) (h5 t ht)
theorem SpA.less (S : SpA C e F rs H) (h : ∀ b ∈ G, b ∈ F) : SpA C e G rs H := by
  obtain ⟨dx, l, ts, h1, h2, h3, h4, h5, h6⟩ := S
  exact ⟨dx, l, ts, h1, h2, fun z => h3 (h _ z), fun z => h4 (h _ z), fun t ht z => h5 t ht (h _ z), h6⟩
theorem SpA.offs (S : SpA C e F rs H) : Offs rs := by
  obtain ⟨dx, l, ts, h1, h2, h3, h4, h5, h6⟩ := S
  exact h6
theorem SpA.at_ (S : SpA C e F rs H) : ∃ o, H e = some o := by
  obtain ⟨dx, l, ts, h1, _⟩ := S
  exact ⟨_, h1⟩
end
/-- what refuses a value that is told by its heap -/
def ErrT (Ce : Addr) (a b : V) (H : Hp) (E : XK) : Prop := ∀ t d H', Same H H' → H' t = some (.tup [a, b]) → H' d = some (.xd [("number", .ref t)]) → E (.ref Ce) (some d) H'
def sp_Spans_init_ (K : PySem.W.Frag) (C Ce : Addr) : Sp := fun vs H Q E => ∃ (p q dx : Addr) (xs : List V), vs = [.ref p, .ref q] ∧ H p = some (.ins C dx []) ∧ H q = some (.tup xs) ∧ xs.length < 50000 ∧
  ((∃ ps : List Run, xs.length = ps.length ∧ (∀ (i : Nat) x r, xs[i]? = some x → ps[i]? = some r → PairAt H x r ∧ 0 ≤ r.1 ∧ r.1 ≤ r.2) ∧ ∀ H' rs, Ch [p] H H' → (∀ F, Al F H → p ∉ F → SpA C p F rs H') → rs.length ≤ ps.length → (∀ o, Mem o rs ↔ Mem o ps) → Q .non H') ∨
   (∃ (j : Nat) (x : V), xs[j]? = some x ∧ BadPair K H x ∧ (∀ (i : Nat) y, i < j → xs[i]? = some y → ∃ r : Run, PairAt H y r ∧ 0 ≤ r.1 ∧ r.1 ≤ r.2) ∧ Err Ce "number" x H E))
theorem tyX_tup {K : PySem.W.Frag} {H : Hp} {t : Addr} {xs : List V} (h : H t = some (.tup xs)) : TyX K H (.ref t) (.type "tuple") := .base (.tup h)
theorem BadPair.same {K : PySem.W.Frag} {H H' : Hp} {x : V} (h : BadPair K H x) (s : Same H H') : BadPair K H' x := by
  rcases h with ⟨t, h1, h2⟩ | ⟨t, xs, rfl, hS, hb⟩
  · exact .inl ⟨t, tyX_same h1 s, h2⟩
  · refine .inr ⟨t, xs, rfl, hS.sm s, hb.imp id fun ⟨a, b, e, hb⟩ => ⟨a, b, e, hb.imp (fun h => h.same s) fun ⟨n, e, n0, h⟩ => ⟨n, e, n0, h.same s⟩⟩⟩
theorem ok_Spans_init_ (T : Txt K mg) : FnR P w K mg base (L2.CX P w) 4 T.a_Spans_init_ (starSp 1 (sp_Spans_init_ K T.c_Spans T.c_InvalidNumber)) := by
  have S := sc_Spans_init_
  refine okStarX T.F_Spans_init_ T.BS_Spans_init_ S (fun cdv A outer s H vs Q E hr h => ?_)
  obtain ⟨p, q, dx, xs, rfl, hp, hq, hz, h⟩ := h
  refine ⟨_, (pss_cons (ps_for (passes_of rfl) rfl (pi_tup (pv 1)) (pg_name (i := 2) S.nd rfl (Or.inl rfl)) (pss_one (ps_if (pt_not (pt_val (pe_call (ok_is_run T) (hr.mono (by decide)) rfl T.g_is_run T.F_is_run.kp T.B_is_run .nil pass0 (pa_cons (pv 2) pa_nil)))) (pss_one (ps_raise rfl (takes_of rfl rfl rfl rfl) (pmk_oex T.X_InvalidNumber.o T.X_InvalidNumber.i T.X_InvalidNumber.t (ok_InvalidNumber_init_ T) (hr.mono (by decide)) T.B_InvalidNumber_init_ .nil pass0 rfl T.X_InvalidNumber.g (pa_cons (pv 2) pa_nil)))) pss_nil)))
      (pss_one (ps_fld (pv 0) (pe_call (ok_joined T) (hr.mono (by decide)) rfl T.g_joined T.F_joined.kp T.B_joined .nil pass0 (pa_cons (pv 1) pa_nil)) rfl))), ?_⟩
  refine st_Spans_init_ ?_
  o_args
  rcases h with ⟨ps, hl, hp2, k⟩ | ⟨j, x, hj, hb, hg, hE⟩
  · refine overT (SqT.of hq) (for_tup (K := K) (a := q) (xs := xs) (fun i σ H' => ∃ v, σ = [some (.ref p), some (.ref q), v] ∧ Same H H') ⟨none, rfl, Same.refl _⟩ (fun i σ H' _ ⟨_, _, s⟩ => SqT.of (s _ _ hq)) ?_ ?_)
    · rintro i x σ H1 hx ⟨v, rfl, s1⟩
      have il : i < ps.length := by have := getq_lt hx; omega
      obtain ⟨g1, g2, g3⟩ := hp2 i x _ hx (List.getElem?_eq_getElem il)
      o_args
      refine ⟨x, rfl, .inl ⟨_, g1.same s1, g2, g3, fun H2 s2 => ?_⟩⟩
      o_args
      exact ⟨_, rfl, s1.trans s2⟩
    · rintro σ H1 ⟨v, rfl, s1⟩
      o_args
      refine ⟨q, xs, ps, rfl, SeqA.tup (s1 _ _ hq), by omega, hl, fun i x r h1 h2 => (hp2 i x r h1 h2).1.same s1, fun l ts rs H2 nl nt s2 r2 z2 n2 m2 lo2 => ?_⟩
      o_args
      refine fstore (s2 _ _ (s1 _ _ hp)) T.cl_Spans T.n_Spans__runs (Nat.le_of_ble_eq_true rfl) rfl fun H3 s3 h3 => ?_
      have S2 := s1.trans s2
      have c3 : Ch [p] H H3 := (Ch.of S2).trans (Ch.ofX (by simp) s3 h3)
      have np : ∀ {b o}, H2 b = some o → H b = none → b ≠ p := fun _ n z => by rw [z, hp] at n; cases n
      have cl : Ch [p] H2 H3 := Ch.ofX (by simp) s3 h3
      have tn : ∀ t ∈ ts, H t = none := fun t ht => none_of s1 (nt t ht)
      have ln : H l = none := none_of s1 nl
      o_args
      refine k H3 rs c3 (fun F A pF => ⟨dx, l, ts, h3, r2.ch cl (fun z => np r2.1 ln (List.mem_singleton.mp z)) (fun t ht z => ?_), pF, A.new ln, fun t ht => A.new (tn t ht), n2, fun r hr => ?_⟩) z2 m2
      · have := tn t ht
        rw [List.mem_singleton.mp z, hp] at this
        cases this
      · obtain ⟨p', hp', e⟩ := lo2 r hr
        obtain ⟨i, hi⟩ := List.mem_iff_getElem?.mp hp'
        have il := getq_lt hi
        have il2 : i < xs.length := by omega
        rw [e]
        exact (hp2 i xs[i] p' (List.getElem?_eq_getElem il2) hi).2.1
  · refine overT (SqT.of hq) (for_tup (K := K) (a := q) (xs := xs) (fun i σ H' => ∃ v, σ = [some (.ref p), some (.ref q), v] ∧ Same H H' ∧ i ≤ j) ⟨none, rfl, Same.refl _, Nat.zero_le _⟩ (fun i σ H' _ ⟨_, _, s, _⟩ => SqT.of (s _ _ hq)) ?_ ?_)
    · rintro i y σ H1 hy ⟨v, rfl, s1, ij⟩
      o_args
      by_cases e : i = j
      · subst e
        rw [hj] at hy
        cases hy
        refine ⟨x, rfl, .inr ⟨hb.same s1, fun H2 s2 => ?_⟩⟩
        o_args
        exact ⟨_, rfl, mkO_of T.X_InvalidNumber.o T.nX_InvalidNumber fun d H3 nd ss hx => hE d H3 ((s1.trans s2).trans ss) hx⟩
      · obtain ⟨r, g1, g2, g3⟩ := hg i y (by omega) hy
        refine ⟨y, rfl, .inl ⟨r, g1.same s1, g2, g3, fun H2 s2 => ?_⟩⟩
        o_args
        exact ⟨_, rfl, s1.trans s2, by omega⟩
    · rintro σ H1 ⟨v, rfl, s1, ij⟩
      have := getq_lt hj
      omega
theorem x_mkO {C : Addr} {sp : Sp} {dvs : List V} {ta : TA} {σ : L2.St} {H : Hp} {W : XK} (q : ta σ H fun vs H1 => vs.length ≤ 1000 ∧ ∀ a, H1 a = none → sp (.ref a :: (vs ++ dvs)) (upd H1 a (exo a C none))
  (fun v H2 => v = .non ∧ ∃ (d : Addr) (fs : List (Str × V)), H2 a = some (exo a C (some d)) ∧ H2 d = some (exd d fs) ∧ H1 d = none ∧ W (.ref C) (some d) (upd (del H2 a) d (.xd fs))) (fun _ _ _ => False)) : tMkO C sp dvs ta σ H W := q
def sp_Spans_rows (K : PySem.W.Frag) (C : Addr) : Sp := fun vs H Q _ => ∃ (e : Addr) (F : List Addr) (rs : List Run), vs = [.ref e] ∧ SpA C e F rs H ∧ ∀ l ts H', H l = none → Same H H' → RunsL l ts rs H' → Q (.ref l) H'
theorem ok_Spans_rows (T : Txt K mg) : FnOk P w K mg base CX0 1 T.a_Spans_rows T.fd_Spans_rows ["self"] (sp_Spans_rows K T.c_Spans) := by
  have S := sc_Spans_rows
  refine T.F_Spans_rows.ok S (fun vs H Q E h => ?_) (fun cdv A outer s H vs Q E hr h => ?_)
  · obtain ⟨e, F, rs, rfl, _⟩ := h
    rfl
  · obtain ⟨e, F, rs, rfl, ⟨dx, l, ts, he, hR, _⟩, k⟩ := h
    refine ⟨_, (pss_one (ps_ret (pe_callTy (T := "list") (call_listK (K := K) rfl) (by rfl) T.b_list (by decide +kernel) (pa_cons (pe_fld (pv 0) rfl) pa_nil)))), ?_⟩
    refine st_Spans_rows ?_
    o_args
    refine fget he T.cl_Spans T.n_Spans__runs rfl ?_
    o_args
    refine listOf (.inl (SqL.of hR.1)) fun m H1 nm s1 h1 => ?_
    o_args
    exact k m ts H1 nm s1 ⟨h1, hR.2.same s1⟩
def sp_Spans_len_ (K : PySem.W.Frag) (C : Addr) : Sp := fun vs H Q _ => ∃ (e : Addr) (F : List Addr) (rs : List Run), vs = [.ref e] ∧ SpA C e F rs H ∧ Q (.int rs.length) H
theorem ok_Spans_len_ (T : Txt K mg) : FnOk P w K mg base CX0 1 T.a_Spans_len_ T.fd_Spans_len_ ["self"] (sp_Spans_len_ K T.c_Spans) := by
  have S := sc_Spans_len_
  refine T.F_Spans_len_.ok S (fun vs H Q E h => ?_) (fun cdv A outer s H vs Q E hr h => ?_)
  · obtain ⟨e, F, rs, rfl, _⟩ := h
    rfl
  · obtain ⟨e, F, rs, rfl, ⟨dx, l, ts, he, hR, _⟩, k⟩ := h
    refine ⟨_, (pss_one (ps_ret (pe_callB (id := "len") (call_lenK (K := K) rfl) (by rfl) T.b_len (by decide +kernel) (pa_cons (pe_fld (pv 0) rfl) pa_nil)))), ?_⟩
    refine st_Spans_len_ ?_
    o_args
    refine fget he T.cl_Spans T.n_Spans__runs rfl ?_
    o_args
    refine lenA (.inl (SqL.of hR.1)) ?_
    rw [List.length_map, hR.len]
    exact k
def sumR (rs : List Run) : Int := (rs.map fun r => r.2 - r.1).sum
def sp_Spans_total (K : PySem.W.Frag) (C : Addr) : Sp := fun vs H Q _ => ∃ (e : Addr) (F : List Addr) (rs : List Run), vs = [.ref e] ∧ SpA C e F rs H ∧ rs.length < 50000 ∧ ∀ H', Same H H' → Q (.int (sumR rs)) H'
theorem ok_Spans_total (T : Txt K mg) : FnOk P w K mg base CX0 1 T.a_Spans_total T.fd_Spans_total ["self"] (sp_Spans_total K T.c_Spans) := by
  have S := sc_Spans_total
  refine T.F_Spans_total.ok S (fun vs H Q E h => ?_) (fun cdv A outer s H vs Q E hr h => ?_)
  · obtain ⟨e, F, rs, rfl, _⟩ := h
    rfl
  · obtain ⟨e, F, rs, rfl, ⟨dx, l, ts, he, hR, _⟩, hz, k⟩ := h
    refine ⟨_, (pss_one (ps_ret (pe_callB (id := "sum") (cr_sum rfl) (by rfl) T.b_sum (by decide +kernel) (pa_cons (pe_lc (own := [("low", 1), ("high", 2)]) (g := gTup K 2 (gCons (gName 1) (gCons (gName 2) gNil))) (tt := tYes) rfl S.nd (pi_list (pe_fld (pv 0) rfl)) (blkOk_by (N := ["self", "low", "high"]) (sc := defScope s_Spans_total) (by decide +kernel)) (fun _ _ _ _ _ => pg_tup rfl (pgs_cons (pg_name (i := 1) S.nd rfl (Or.inl rfl)) (pgs_cons (pg_name (i := 2) S.nd rfl (Or.inl rfl)) pgs_nil))) (fun _ _ _ _ _ => pts_nil) (fun _ _ _ _ _ => (pe_op op_sub (pv 2) (pv 1)))) pa_nil)))), ?_⟩
    refine st_Spans_total ?_
    o_args
    refine lcG2 (a := l) (xs := ts.map V.ref) (fun D i vs H' => SameX D H H' ∧ vs = ((rs.take i).map fun r => r.2 - r.1).map V.int) (fun x y => rfl) (fun R h => ?_) (SqL.of hR.1) (by rw [List.length_map, hR.len]; omega) (fun D _ => ⟨SameX.upd, by simp⟩) (fun D i vs H' hD hP => SqL.of (hP.1 _ _ (ne_of_none hR.1 hD) hR.1)) (fun D i v vs H' hD hv hle h1 hP => ?_) (fun D vs H' hD h1 hle hP => ?_)
    · o_args
      exact fget he T.cl_Spans T.n_Spans__runs rfl h
    · obtain ⟨s, e1⟩ := hP
      have il := getq_lt hv
      rw [List.length_map, hR.len] at il
      obtain ⟨t, _, e2, ht⟩ := hR.at (List.getElem?_eq_getElem il)
      rw [e2] at hv
      cases hv
      have tk : rs.take (i + 1) = rs.take i ++ [rs[i]] := by rw [List.take_succ, List.getElem?_eq_getElem il]; rfl
      generalize rs[i] = r at tk ht
      refine ⟨t, _, _, rfl, s _ _ (ne_of_none ht hD) ht, fun Y N hY hN => ?_⟩
      dsimp only [tYes]
      rw [if_pos rfl]
      o_args
      exact hY _ H' h1 ⟨s.upd', by rw [e1, tk]; simp⟩
    · obtain ⟨s, e1⟩ := hP
      rw [List.length_map, hR.len, List.take_length] at e1
      subst e1
      exact ⟨D, _, rfl, SqL.of h1, k H' (Same.ofX hD s)⟩
def sp_Spans_holding (K : PySem.W.Frag) (C : Addr) : Sp := fun vs H Q _ => ∃ (e : Addr) (F : List Addr) (rs : List Run) (x : V), vs = [.ref e, x] ∧ SpA C e F rs H ∧
  ((∃ o, x = .int o ∧ ((∃ r ∈ rs, r.1 ≤ o ∧ o < r.2 ∧ ∀ t H', Same H H' → H' t = some (.tup [.int r.1, .int r.2]) → Q (.ref t) H') ∨ (¬ Mem o rs ∧ Q .non H))) ∨ (IntK K H x false ∧ Q .non H))
theorem ok_Spans_holding (T : Txt K mg) : FnOk P w K mg base CX0 2 T.a_Spans_holding T.fd_Spans_holding ["self", "offset"] (sp_Spans_holding K T.c_Spans) := by
  have S := sc_Spans_holding
  refine T.F_Spans_holding.ok S (fun vs H Q E h => ?_) (fun cdv A outer s H vs Q E hr h => ?_)
  · obtain ⟨e, F, rs, x, rfl, _⟩ := h
    rfl
  · obtain ⟨e, F, rs, x, rfl, ⟨dx, l, ts, he, hR, _, _, _, hO⟩, h⟩ := h
    refine ⟨_, (pss_cons (ps_if (pt_not (pt_val (pe_call (ok_is_integer T) (hr.mono (by decide)) rfl T.g_is_integer T.F_is_integer.kp T.B_is_integer .nil pass0 (pa_cons (pv 1) pa_nil)))) (pss_one (ps_ret pe_non)) pss_nil)
      (pss_cons (ps_for PassesOwn.never rfl (pi_list (pe_fld (pv 0) rfl)) (pg_tup rfl (pgs_cons (pg_name (i := 2) S.nd rfl (Or.inl rfl)) (pgs_cons (pg_name (i := 3) S.nd rfl (Or.inl rfl)) pgs_nil))) (pss_one (ps_if (pt_chain op_le op_lt (pv 2) (pv 1) (pv 3)) (pss_one (ps_ret (pe_tup (pa_cons (pv 2) (pa_cons (pv 3) pa_nil))))) pss_nil)))
      (pss_one (ps_ret pe_non)))), ?_⟩
    refine st_Spans_holding ?_
    o_args
    rcases h with ⟨o, rfl, h⟩ | ⟨hx, k⟩
    · refine ⟨_, true, rfl, intK_int o, ?_⟩
      o_args
      refine fget he T.cl_Spans T.n_Spans__runs rfl ?_
      refine overL (SqL.of hR.1) (for_list (K := K) (a := l) (xs := ts.map V.ref) (fun i σ H' => ∃ a b, σ = [some (.ref e), some (.int o), a, b] ∧ H' = H ∧ ∀ r ∈ rs.take i, ¬ (r.1 ≤ o ∧ o < r.2)) ⟨none, none, rfl, rfl, fun _ h => nomatch h⟩ (fun i σ H' _ ⟨_, _, _, e, _⟩ => by rw [e]; exact SqL.of hR.1) ?_ ?_)
      · rintro i v σ H1 hv ⟨a, b, rfl, rfl, no⟩
        have il := getq_lt hv
        rw [List.length_map, hR.len] at il
        obtain ⟨t, _, e2, ht⟩ := hR.at (List.getElem?_eq_getElem il)
        rw [e2] at hv
        cases hv
        have tk : rs.take (i + 1) = rs.take i ++ [rs[i]] := by rw [List.take_succ, List.getElem?_eq_getElem il]; rfl
        have rm := List.getElem_mem il
        generalize rs[i] = r at tk ht rm
        refine two_to ht ?_
        o_args
        have skip : ¬ (r.1 ≤ o ∧ o < r.2) → ∀ q ∈ rs.take (i + 1), ¬ (q.1 ≤ o ∧ o < q.2) := fun c q hq => by
          rw [tk] at hq
          rcases List.mem_append.mp hq with hq | hq
          · exact no q hq
          · rw [List.mem_singleton.mp hq]; exact c
        have hit : r.1 ≤ o → o < r.2 → ∀ t H', Same H1 H' → H' t = some (.tup [.int r.1, .int r.2]) → Q (.ref t) H' := fun c1 c2 => by
          rcases h with ⟨q, hq, d1, d2, k⟩ | ⟨n, _⟩
          · have e := pair_uniq hO.nrm rm hq c1 c2 d1 d2
            rw [e]
            exact k
          · exact absurd ⟨r, rm, c1, c2⟩ n
        refine brD (fun c1 => ?_) (fun c1 => ?_)
        · o_args
          refine brD (fun c2 => ?_) (fun c2 => ?_)
          · o_args
            refine newTup (by simp) fun u H2 nu s2 h2 => ?_
            o_args
            exact hit c1 c2 u H2 s2 h2
          · o_args
            exact ⟨_, _, rfl, rfl, skip fun z => c2 z.2⟩
        · o_args
          exact ⟨_, _, rfl, rfl, skip fun z => c1 z.1⟩
      · rintro σ H1 ⟨a, b, rfl, rfl, no⟩
        rw [List.length_map, hR.len, List.take_length] at no
        o_args
        rcases h with ⟨q, hq, d1, d2, _⟩ | ⟨_, k⟩
        · exact absurd ⟨d1, d2⟩ (no q hq)
        · exact k
    · refine ⟨_, false, rfl, hx, ?_⟩
      o_args
      exact k
def sp_Spans_contains_ (K : PySem.W.Frag) (C : Addr) : Sp := fun vs H Q _ => ∃ (e : Addr) (F : List Addr) (rs : List Run) (x : V), vs = [.ref e, x] ∧ SpA C e F rs H ∧
  ((∃ o, x = .int o ∧ ∀ b H', Same H H' → (b = true ↔ Mem o rs) → Q (.bl b) H') ∨ (IntK K H x false ∧ Q (.bl false) H))
theorem ok_Spans_contains_ (T : Txt K mg) : FnOk P w K mg base CX0 3 T.a_Spans_contains_ T.fd_Spans_contains_ ["self", "offset"] (sp_Spans_contains_ K T.c_Spans) := by
  have S := sc_Spans_contains_
  refine T.F_Spans_contains_.ok S (fun vs H Q E h => ?_) (fun cdv A outer s H vs Q E hr h => ?_)
  · obtain ⟨e, F, rs, x, rfl, _⟩ := h
    rfl
  · obtain ⟨e, F, rs, x, rfl, hS, h⟩ := h
    obtain ⟨dx, l, ts, he, _⟩ := id hS
    refine ⟨_, (pss_one (ps_ret (pe_cmpR op_notN (pe_meth (pv 0) T.cl_Spans T.m_Spans_holding (ok_Spans_holding T) (hr.mono (by decide)) T.B_Spans_holding .nil pass0 (pa_cons (pv 1) pa_nil)) pe_non (nomark _)))), ?_⟩
    refine st_Spans_contains_ ?_
    o_args
    refine ⟨e, dx, _, rfl, he, rfl, ?_⟩
    o_args
    refine ⟨e, F, rs, x, rfl, hS, ?_⟩
    rcases h with ⟨o, rfl, k⟩ | ⟨hx, k⟩
    · refine .inl ⟨o, rfl, ?_⟩
      rcases Classical.em (Mem o rs) with m | m
      · obtain ⟨r, hr, c1, c2⟩ := id m
        refine .inl ⟨r, hr, c1, c2, fun t H' s ht => ?_⟩
        o_args
        exact k true H' s ⟨fun _ => m, fun _ => rfl⟩
      · refine .inr ⟨m, ?_⟩
        o_args
        exact k false H (Same.refl _) ⟨fun z => (nomatch z), fun z => absurd z m⟩
    · refine .inr ⟨hx, ?_⟩
      o_args
      exact k
/-- ends that make no run -/
def BadEnds (K : PySem.W.Frag) (H : Hp) (a b : V) : Prop := Less K H a 0 ∨ ∃ n, a = .int n ∧ 0 ≤ n ∧ Less K H b n
def sp_Spans_put (K : PySem.W.Frag) (C Ce : Addr) : Sp := fun vs H Q E => ∃ (e : Addr) (F : List Addr) (rs : List Run) (lo hi : V), vs = [.ref e, lo, hi] ∧ SpA C e F rs H ∧ rs.length < 20000 ∧
  ((∃ a b, lo = .int a ∧ hi = .int b ∧ 0 ≤ a ∧ a ≤ b ∧ ∀ H' rs', Ch [e] H H' → (∀ G, Al G H → e ∉ G → SpA C e G rs' H') → rs'.length ≤ rs.length + 1 → (∀ o, Mem o rs' ↔ Mem o rs ∨ a ≤ o ∧ o < b) → Q .non H') ∨ (BadEnds K H lo hi ∧ ErrT Ce lo hi H E))
theorem ok_Spans_put (T : Txt K mg) : FnOk P w K mg base (L2.CX P w) 4 T.a_Spans_put T.fd_Spans_put ["self", "low", "high"] (sp_Spans_put K T.c_Spans T.c_InvalidNumber) := by
  have S := sc_Spans_put
  refine T.F_Spans_put.okX S (fun vs H Q E h => ?_) (fun cdv A outer s H vs Q E hr h => ?_)
  · obtain ⟨e, F, rs, lo, hi, rfl, _⟩ := h
    rfl
  · obtain ⟨e, F, rs, lo, hi, rfl, ⟨dx, l, ts, he, hR, _, _, _, hO⟩, hz, h⟩ := h
    refine ⟨_, (pss_cons (ps_if (pt_not (pt_val (pe_call (ok_is_run T) (hr.mono (by decide)) rfl T.g_is_run T.F_is_run.kp T.B_is_run .nil pass0 (pa_cons (pe_tup (pa_cons (pv 1) (pa_cons (pv 2) pa_nil))) pa_nil)))) (pss_one (ps_raise rfl (takes_of rfl rfl rfl rfl) (pmk_oex T.X_InvalidNumber.o T.X_InvalidNumber.i T.X_InvalidNumber.t (ok_InvalidNumber_init_ T) (hr.mono (by decide)) T.B_InvalidNumber_init_ .nil pass0 rfl T.X_InvalidNumber.g (pa_cons (pe_tup (pa_cons (pv 1) (pa_cons (pv 2) pa_nil))) pa_nil)))) pss_nil)
      (pss_one (ps_fld (pv 0) (pe_call (ok_joined T) (hr.mono (by decide)) rfl T.g_joined T.F_joined.kp T.B_joined .nil pass0 (pa_cons (pe_lst (StX.pa_star (pe_fld (pv 0) rfl) (pa_cons (pe_tup (pa_cons (pv 1) (pa_cons (pv 2) pa_nil))) pa_nil))) pa_nil)) rfl))), ?_⟩
    refine st_Spans_put ?_
    o_args
    refine newTup (by simp) fun u H1 nu s1 h1 => ?_
    o_args
    rcases h with ⟨a, b, rfl, rfl, a0, ab, k⟩ | ⟨hb, hE⟩
    · refine ⟨_, rfl, .inl ⟨(a, b), ⟨u, rfl, .inl h1⟩, a0, ab, fun H2 s2 => ?_⟩⟩
      have S2 := s1.trans s2
      o_args
      refine fget (S2 _ _ he) T.cl_Spans T.n_Spans__runs rfl ?_
      have hR2 := hR.same S2
      refine ⟨l, _, rfl, .inr (SqL.of hR2.1), ?_⟩
      o_args
      refine newTup (by simp) fun v H3 nv s3 h3 => ?_
      o_args
      refine newList (by simp [hR.len]; omega) fun m H4 nm s4 h4 => ?_
      have hR4 := (hR2.same s3).same s4
      o_args
      have lnn := hR.len
      refine ⟨m, ts.map V.ref ++ [.ref v], rs ++ [(a, b)], rfl, SeqA.lst h4, by simp; omega, by simp; omega, fun i x p hx hp => ?_, fun l' ts' rs' H5 nl nt s5 r5 z5 n5 m5 lo5 => ?_⟩
      · by_cases il : i < rs.length
        · rw [List.getElem?_append_left (by simp; omega)] at hx
          rw [List.getElem?_append_left il] at hp
          obtain ⟨t, _, e2, ht⟩ := hR4.at hp
          rw [e2] at hx
          cases hx
          exact ⟨t, rfl, .inl ht⟩
        · rw [List.getElem?_append_right (by simp; omega)] at hx
          rw [List.getElem?_append_right (by omega)] at hp
          have ip := getq_lt hp
          simp at ip
          rw [show i - rs.length = 0 by omega] at hp
          rw [show i - (ts.map V.ref).length = 0 by simp; omega] at hx
          cases hx
          cases hp
          exact ⟨v, rfl, .inl (s4 _ _ h3)⟩
      · have S4 := (S2.trans s3).trans s4
        o_args
        refine fstore ((S4.trans s5) _ _ he) T.cl_Spans T.n_Spans__runs (Nat.le_of_ble_eq_true rfl) rfl fun H6 s6 h6 => ?_
        have tn : ∀ t ∈ ts', H t = none := fun t ht => none_of S4 (nt t ht)
        have ln : H l' = none := none_of S4 nl
        have np : ∀ {b}, H b = none → b ∉ [e] := fun n z => by rw [List.mem_singleton.mp z, he] at n; cases n
        o_args
        refine k H6 rs' ((Ch.of (S4.trans s5)).trans (Ch.ofX (by simp) s6 h6)) (fun G A eG => ⟨dx, l', ts', h6, r5.ch (Ch.ofX (by simp) s6 h6) (np ln) (fun t ht => np (tn t ht)), eG, A.new ln, fun t ht => A.new (tn t ht), n5, fun r hr => ?_⟩) (by simp at z5; exact z5) (fun o => ?_)
        · obtain ⟨p, hp, e⟩ := lo5 r hr
          rw [e]
          rcases List.mem_append.mp hp with hp | hp
          · exact hO.lo p hp
          · rw [List.mem_singleton.mp hp]; exact a0
        · rw [m5 o, Mem.app, Mem.one]
    · refine ⟨_, rfl, .inr ⟨.inr ⟨u, _, rfl, SeqA.tup h1, .inr ⟨lo, hi, rfl, hb.imp (fun h => h.same s1) fun ⟨n, e, n0, h⟩ => ⟨n, e, n0, h.same s1⟩⟩⟩, fun H2 s2 => ?_⟩⟩
      o_args
      refine x_mkO ?_
      o_args
      refine newTup (by simp) fun v H3 nv s3 h3 => ?_
      o_args
      exact mkO_of T.X_InvalidNumber.o T.nX_InvalidNumber fun d H4 nd ss hx => hE v d H4 (((s1.trans s2).trans s3).trans ss) (ss _ _ h3) hx
def sp_Spans_drop (K : PySem.W.Frag) (C Ce : Addr) : Sp := fun vs H Q E => ∃ (e : Addr) (F : List Addr) (rs : List Run) (lo hi : V), vs = [.ref e, lo, hi] ∧ SpA C e F rs H ∧ rs.length < 20000 ∧
  ((∃ a b, lo = .int a ∧ hi = .int b ∧ 0 ≤ a ∧ a ≤ b ∧ ∀ H' rs', Ch [e] H H' → (∀ G, Al G H → e ∉ G → SpA C e G rs' H') → rs'.length ≤ rs.length + 2 → (∀ o, Mem o rs' ↔ Mem o rs ∧ ¬ (a ≤ o ∧ o < b)) → Q .non H') ∨ (BadEnds K H lo hi ∧ ErrT Ce lo hi H E))
theorem ok_Spans_drop (T : Txt K mg) : FnOk P w K mg base (L2.CX P w) 4 T.a_Spans_drop T.fd_Spans_drop ["self", "low", "high"] (sp_Spans_drop K T.c_Spans T.c_InvalidNumber) := by
  have S := sc_Spans_drop
  refine T.F_Spans_drop.okX S (fun vs H Q E h => ?_) (fun cdv A outer s H vs Q E hr h => ?_)
  · obtain ⟨e, F, rs, lo, hi, rfl, _⟩ := h
    rfl
  · obtain ⟨e, F, rs, lo, hi, rfl, ⟨dx, l, ts, he, hR, _, _, _, hO⟩, hz, h⟩ := h
    refine ⟨_, (pss_cons (ps_if (pt_not (pt_val (pe_call (ok_is_run T) (hr.mono (by decide)) rfl T.g_is_run T.F_is_run.kp T.B_is_run .nil pass0 (pa_cons (pe_tup (pa_cons (pv 1) (pa_cons (pv 2) pa_nil))) pa_nil)))) (pss_one (ps_raise rfl (takes_of rfl rfl rfl rfl) (pmk_oex T.X_InvalidNumber.o T.X_InvalidNumber.i T.X_InvalidNumber.t (ok_InvalidNumber_init_ T) (hr.mono (by decide)) T.B_InvalidNumber_init_ .nil pass0 rfl T.X_InvalidNumber.g (pa_cons (pe_tup (pa_cons (pv 1) (pa_cons (pv 2) pa_nil))) pa_nil)))) pss_nil)
      (pss_one (ps_fld (pv 0) (pe_call (ok_without T) (hr.mono (by decide)) rfl T.g_without T.F_without.kp T.B_without .nil pass0 (pa_cons (pe_fld (pv 0) rfl) (pa_cons (pe_call (ok_joined T) (hr.mono (by decide)) rfl T.g_joined T.F_joined.kp T.B_joined .nil pass0 (pa_cons (pe_lst (pa_cons (pe_tup (pa_cons (pv 1) (pa_cons (pv 2) pa_nil))) pa_nil)) pa_nil)) pa_nil))) rfl))), ?_⟩
    refine st_Spans_drop ?_
    o_args
    refine newTup (by simp) fun u H1 nu s1 h1 => ?_
    o_args
    rcases h with ⟨a, b, rfl, rfl, a0, ab, k⟩ | ⟨hb, hE⟩
    · refine ⟨_, rfl, .inl ⟨(a, b), ⟨u, rfl, .inl h1⟩, a0, ab, fun H2 s2 => ?_⟩⟩
      have S2 := s1.trans s2
      o_args
      refine fget (S2 _ _ he) T.cl_Spans T.n_Spans__runs rfl ?_
      have hR2 := hR.same S2
      o_args
      refine newTup (by simp) fun v H3 nv s3 h3 => ?_
      o_args
      refine newList (by simp) fun m H4 nm s4 h4 => ?_
      have hR4 := (hR2.same s3).same s4
      o_args
      refine ⟨m, [.ref v], [(a, b)], rfl, SeqA.lst h4, by simp, by simp, fun i x p hx hp => ?_, fun l' ts' rs' H5 nl nt s5 r5 z5 n5 m5 lo5 => ?_⟩
      · have ip := getq_lt hp
        simp at ip
        subst ip
        cases hx
        cases hp
        exact ⟨v, rfl, .inl (s4 _ _ h3)⟩
      · o_args
        simp at z5
        refine ⟨l, l', ts, ts', rs, rs', rfl, hR4.same s5, r5, hO, n5, by omega, by omega, fun l2 us out H6 nl2 nu2 s6 r6 z6 n6 m6 => ?_⟩
        have S5 := (((S2.trans s3).trans s4).trans s5)
        o_args
        refine fstore ((S5.trans s6) _ _ he) T.cl_Spans T.n_Spans__runs (Nat.le_of_ble_eq_true rfl) rfl fun H7 s7 h7 => ?_
        have tn : ∀ t ∈ us, H t = none := fun t ht => none_of S5 (nu2 t ht)
        have ln : H l2 = none := none_of S5 nl2
        have np : ∀ {b}, H b = none → b ∉ [e] := fun n z => by rw [List.mem_singleton.mp z, he] at n; cases n
        o_args
        refine k H7 out ((Ch.of (S5.trans s6)).trans (Ch.ofX (by simp) s7 h7)) (fun G A eG => ⟨dx, l2, us, h7, r6.ch (Ch.ofX (by simp) s7 h7) (np ln) (fun t ht => np (tn t ht)), eG, A.new ln, fun t ht => A.new (tn t ht), n6⟩) (by omega) (fun o => ?_)
        rw [m6 o, m5 o, Mem.one]
    · refine ⟨_, rfl, .inr ⟨.inr ⟨u, _, rfl, SeqA.tup h1, .inr ⟨lo, hi, rfl, hb.imp (fun h => h.same s1) fun ⟨n, e, n0, h⟩ => ⟨n, e, n0, h.same s1⟩⟩⟩, fun H2 s2 => ?_⟩⟩
      o_args
      refine x_mkO ?_
      o_args
      refine newTup (by simp) fun v H3 nv s3 h3 => ?_
      o_args
      exact mkO_of T.X_InvalidNumber.o T.nX_InvalidNumber fun d H4 nd ss hx => hE v d H4 (((s1.trans s2).trans s3).trans ss) (ss _ _ h3) hx
/-! the history of a set -/
abbrev Deed := Bool × Int × Int
def hasF (hist : List Deed) (o : Int) : Bool := hist.foldl (fun b d => if d.2.1 ≤ o ∧ o < d.2.2 then d.1 else b) false
theorem hasF_snoc {hist : List Deed} {d : Deed} {o : Int} : hasF (hist ++ [d]) o = if d.2.1 ≤ o ∧ o < d.2.2 then d.1 else hasF hist o := by
  unfold hasF
  rw [List.foldl_append]
  rfl
theorem hasF_cov : ∀ {hist : List Deed} {o : Int}, hasF hist o = true → ∃ d ∈ hist, d.2.1 ≤ o ∧ o < d.2.2 := by
  intro hist o
  suffices h : ∀ (hist : List Deed) (b : Bool), hist.foldl (fun b d => if d.2.1 ≤ o ∧ o < d.2.2 then d.1 else b) b = true → b = true ∨ ∃ d ∈ hist, d.2.1 ≤ o ∧ o < d.2.2 from fun e => (h hist false e).resolve_left (fun z => nomatch z)
  intro hist
  induction hist with
  | nil => exact fun b h => .inl h
  | cons d r ih =>
    intro b h
    rcases ih _ h with e | ⟨q, hq, c⟩
    · by_cases c : d.2.1 ≤ o ∧ o < d.2.2
      · exact .inr ⟨d, List.mem_cons_self, c⟩
      · exact .inl (by rw [← e]; exact (if_neg c).symm)
    · exact .inr ⟨q, List.mem_cons_of_mem _ hq, c⟩
theorem hasF_eq {hist : List Deed} {o p : Int} (h : ∀ d ∈ hist, (d.2.1 ≤ o ∧ o < d.2.2) ↔ (d.2.1 ≤ p ∧ p < d.2.2)) : hasF hist o = hasF hist p := by
  unfold hasF
  suffices g : ∀ (hist : List Deed) (b : Bool), (∀ d ∈ hist, (d.2.1 ≤ o ∧ o < d.2.2) ↔ (d.2.1 ≤ p ∧ p < d.2.2)) → hist.foldl (fun b d => if d.2.1 ≤ o ∧ o < d.2.2 then d.1 else b) b = hist.foldl (fun b d => if d.2.1 ≤ p ∧ p < d.2.2 then d.1 else b) b from g hist false h
  intro hist
  induction hist with
  | nil => exact fun _ _ => rfl
  | cons d r ih =>
    intro b h
    have e := h d List.mem_cons_self
    rw [List.foldl_cons, List.foldl_cons]
    by_cases c : d.2.1 ≤ o ∧ o < d.2.2
    · rw [if_pos c, if_pos (e.mp c)]; exact ih _ fun q hq => h q (List.mem_cons_of_mem _ hq)
    · rw [if_neg c, if_neg (fun z => c (e.mpr z))]; exact ih _ fun q hq => h q (List.mem_cons_of_mem _ hq)
/-- the ends in order -/
structure Ends' (hist : List Deed) (es : List Int) : Prop where
  so : es.Pairwise (· ≤ ·)
  lo : ∀ d ∈ hist, d.2.1 ∈ es ∧ d.2.2 ∈ es
theorem Ends'.gap {hist : List Deed} {es : List Int} (E : Ends' hist es) {k : Nat} {low high : Int} (hl : es[k]? = some low) (hh : es[k + 1]? = some high) : low ≤ high ∧ ∀ x ∈ es, x ≤ low ∨ high ≤ x := by
  have lk := (List.getElem?_eq_some_iff.mp hh).1
  have e1 := (List.getElem?_eq_some_iff.mp hl).2
  have e2 := (List.getElem?_eq_some_iff.mp hh).2
  have P := List.pairwise_iff_getElem.mp E.so
  refine ⟨by have := P k (k + 1) (by omega) lk (by omega); omega, fun x hx => ?_⟩
  obtain ⟨i, hi, e⟩ := List.mem_iff_getElem.mp hx
  rcases Nat.lt_trichotomy i k with c | c | c
  · left; have := P i k hi (by omega) c; omega
  · left; subst c; omega
  · right
    by_cases d : i = k + 1
    · subst d; omega
    · have := P (k + 1) i lk hi (by omega); omega
theorem Ends'.flat {hist : List Deed} {es : List Int} (E : Ends' hist es) {k : Nat} {low high : Int} (hl : es[k]? = some low) (hh : es[k + 1]? = some high) : ∀ o, low ≤ o → o < high → hasF hist o = hasF hist low := fun o c1 c2 => hasF_eq fun d hd => by
  obtain ⟨_, g⟩ := E.gap hl hh
  obtain ⟨h1, h2⟩ := E.lo d hd
  have := g _ h1
  have := g _ h2
  omega
theorem Ends'.first {hist : List Deed} {es : List Int} (E : Ends' hist es) {e0 : Int} (h0 : es[0]? = some e0) : ∀ x ∈ es, e0 ≤ x := fun x hx => by
  obtain ⟨i, hi, e⟩ := List.mem_iff_getElem.mp hx
  have e1 := (List.getElem?_eq_some_iff.mp h0).2
  have P := List.pairwise_iff_getElem.mp E.so
  rcases Nat.eq_zero_or_pos i with c | c
  · subst c; omega
  · have := P 0 i (by omega) hi c; omega
theorem Ends'.last {hist : List Deed} {es : List Int} (E : Ends' hist es) {n : Nat} {e1 : Int} (hn : es.length = n + 1) (h1 : es[n]? = some e1) : ∀ x ∈ es, x ≤ e1 := fun x hx => by
  obtain ⟨i, hi, e⟩ := List.mem_iff_getElem.mp hx
  have e1' := (List.getElem?_eq_some_iff.mp h1).2
  have P := List.pairwise_iff_getElem.mp E.so
  by_cases c : i = n
  · subst c; omega
  · have := P i n hi (by omega) (by omega); omega
/-- behind the last end the list is due -/
theorem Ends'.done {hist : List Deed} {es : List Int} {due : List Run} (E : Ends' hist es) (D : Due (hasF hist) es (es.length - 1) due) : ∀ o, Mem o due ↔ hasF hist o = true := fun o => by
  rw [D.mem o]
  refine ⟨fun h => h.1, fun h => ⟨h, ?_⟩⟩
  obtain ⟨d, hd, c1, c2⟩ := hasF_cov h
  obtain ⟨m1, m2⟩ := E.lo d hd
  have ln : 0 < es.length := List.length_pos_of_mem m1
  have h0 : es[0]? = some es[0] := List.getElem?_eq_getElem ln
  have h1 : es[es.length - 1]? = some es[es.length - 1] := List.getElem?_eq_getElem (by omega)
  have a := E.first h0 _ m1
  have b := E.last (n := es.length - 1) (by omega) h1 _ m2
  exact ⟨_, _, h0, h1, by omega, by omega⟩
theorem addDue_nil {low high : Int} : addDue low high [] = [(low, high)] := rfl
theorem addDue_snoc {low high : Int} {a : List Run} {r : Run} : addDue low high (a ++ [r]) = if r.2 = low then a ++ [(r.1, high)] else a ++ [r] ++ [(low, high)] := by
  unfold addDue
  rw [List.getLast?_concat, List.dropLast_concat]
/-! ### repr of data of any kind (behind guard) -/
section
open PySem.Spec PyProof.Rows
variable {X : Cx}
/-- what repr is asked of: data without dicts, its text within the line, its ints within the digits -/
def rReprD (K : PySem.W.Frag) : List V → Hp → VK → Prop := fun xs H Q => ∃ (x : V) (d : PyData), xs = [x] ∧ Dp K H x d ∧ d.showable = true ∧ d.hasDict = false ∧ d.depth ≤ 100 ∧ d.shown.length ≤ sizeLine ∧ (∀ i, d = .int i → i.natAbs.log2 < 1920) ∧ Q (.str d.shown) H
theorem call_reprD (still : X.A.guards = some []) (un : X.A.units + 150 < cLine) : CallR X (.builtin "repr") (rReprD X.K) := by
  intro pins s σ H xs us Q I rv h
  obtain ⟨x, d, rfl, hd, sh, nd, dp, sz, hi, q⟩ := h
  rcases rv with _ | ⟨r1, r2⟩
  cases r2
  cases hd with
  | non =>
    cases r1
    exact PySem.P.repr_of_none ⟨.str _, H, I.tok _, ⟨_, rfl⟩, by rw [PyData.shown_none] at q; exact q⟩
  | bl b =>
    cases r1
    exact PySem.P.repr_of_bool ⟨.str _, H, I.tok _, ⟨_, rfl⟩, by rw [PyData.shown_bool] at q; exact q⟩
  | int i =>
    obtain ⟨t, rfl⟩ := r1
    exact PySem.P.repr_of_int (hi i rfl) ⟨.str _, H, I.tok _, ⟨_, rfl⟩, by rw [PyData.shown_int] at q; exact q⟩
  | str z =>
    obtain ⟨t, rfl⟩ := r1
    rw [PyData.shown_str] at q sz
    exact PySem.P.repr_of_str ⟨.str _, H, I.tok _, ⟨_, rfl⟩, q⟩ sz
  | lst hs hr =>
    cases r1
    obtain ⟨as, hr⟩ := Dp.reads I _ _ _ (.lst hs hr) rfl
    exact repr_of_reads' hr sh (fun z => by rw [nd] at z; cases z) still (by omega) (fun _ _ z => z) (fun h' u tk keep => ⟨.str _, H, I.kept keep, ⟨u, rfl⟩, q⟩) sz
  | tup hs hr =>
    cases r1
    obtain ⟨as, hr⟩ := Dp.reads I _ _ _ (.tup hs hr) rfl
    exact repr_of_reads' hr sh (fun z => by rw [nd] at z; cases z) still (by omega) (fun _ _ z => z) (fun h' u tk keep => ⟨.str _, H, I.kept keep, ⟨u, rfl⟩, q⟩) sz
/-- in an except suite it is as still as outside -/
theorem still_suite {a : Addr} {pn : List (Addr × Obj)} (h : X.A.guards = some []) : (X.suite a pn).A.guards = some [] := h
end
theorem room_un {k : Nat} {A : Around} (r : Room k A) : A.units + 150 < cLine := by have := r.un; omega
theorem x_callS {σ : L2.St} {H : Hp} {Q : VK} {sp : Sp} {E : L2.St → XK} {t : TA} (q : t σ H fun vs H1 => sp vs H1 Q (E σ)) : tCallS sp E t σ H Q := q
theorem x_con {K : PySem.W.Frag} {te : TE} {f : Str} {σ : L2.St} {H : Hp} {Q : VK} (q : te σ H fun x H1 => ∃ a C dx fs v u, x = .ref a ∧ H1 a = some (.ins C dx fs) ∧ Cls K C ∧ Con K C f v u ∧ fs.lookup f = none ∧ Q v H1) : tCon K te f σ H Q := q
theorem x_neB {i j : Bool} {H : Hp} {Q : VK} (q : Q (.bl (!decide (i = j))) H) : rNe (.bl i) (.bl j) H Q := ⟨rfl, by
  have e : decide (V.bl i = V.bl j) = decide (i = j) := by cases i <;> cases j <;> decide +kernel
  rw [e]; exact q⟩
theorem x_eqB {i j : Bool} {H : Hp} {Q : VK} (q : Q (.bl (decide (i = j))) H) : rEq (.bl i) (.bl j) H Q := ⟨rfl, by
  have e : decide (V.bl i = V.bl j) = decide (i = j) := by cases i <;> cases j <;> decide +kernel
  rw [e]; exact q⟩
local macro_rules
  | `(tactic| w_up) => `(tactic| first | with_reducible refine x_callS ?_ | with_reducible refine x_con ?_ | with_reducible refine x_neB ?_ | with_reducible refine x_eqB ?_)
/-! ### what is drawn -/
def sp__law_is_whole : Sp := fun vs H Q _ => ∃ (i : Int), vs = [.int i] ∧ Q (.bl true) H
theorem ok__law_is_whole (T : Txt K mg) : FnOk P w K mg base CX0 1 T.a__law_is_whole T.fd__law_is_whole ["value"] (sp__law_is_whole) := by
  have S := sc__law_is_whole
  refine T.F__law_is_whole.ok S (fun vs H Q E h => ?_) (fun cdv A outer s H vs Q E hr h => ?_)
  · obtain ⟨i, rfl, _⟩ := h
    rfl
  · obtain ⟨i, rfl, k⟩ := h
    refine ⟨_, (pss_one (ps_ret (pe_and (pe_callB (id := "isinstance") call_isi (by rfl) T.b_isinstance (by decide +kernel) (pa_cons (pv 0) (pa_cons (pe_bltn (v := .ty "int") (u := .type "int") (by rfl) T.b_int (by decide +kernel) rfl) pa_nil))) (pe_one (pe_not (pe_callB (id := "isinstance") call_isi (by rfl) T.b_isinstance (by decide +kernel) (pa_cons (pv 0) (pa_cons (pe_bltn (v := .ty "bool") (u := .type "bool") (by rfl) T.b_bool (by decide +kernel) rfl) pa_nil)))))))), ?_⟩
    refine st__law_is_whole ?_
    o_args
    refine ⟨_, _, _, _, true, rfl, .ty _, .base (.int i), kit_ty (by decide +kernel), ?_⟩
    o_args
    refine ⟨_, _, _, _, false, rfl, .ty _, .base (.int i), kit_ty (by decide +kernel), ?_⟩
    o_args
    exact k
/-- at n: a list of ints -/
def IntL (n : Addr) (ns : List Int) (H : Hp) : Prop := H n = some (.lst (ns.map V.int))
def sp__law_end : Sp := fun vs H Q _ => ∃ (a n : Addr) (F : List Addr) (ns : List Int), vs = [.ref a, .ref n] ∧ Box a F H ∧ n ∈ F ∧ IntL n ns H ∧ ns.length < 50000 ∧ ∀ d H', 0 ≤ d → d ≤ 999999999900 → Box a F H' → Ch [a] H H' → Q (.int d) H'
theorem ok__law_end (T : Txt K mg) : FnOk P w K mg base CX0 2 T.a__law_end T.fd__law_end ["box", "ends"] (sp__law_end) := by
  have S := sc__law_end
  refine T.F__law_end.ok S (fun vs H Q E h => ?_) (fun cdv A outer s H vs Q E hr h => ?_)
  · obtain ⟨a, n, F, ns, rfl, _⟩ := h
    rfl
  · obtain ⟨a, n, F, ns, rfl, B, nF, hN, hz, k⟩ := h
    have na : n ∉ [a] := fun z => B.nin ((List.mem_singleton.mp z) ▸ nF)
    refine ⟨_, (pss_cons (ps_set (i := 2) S.nd rfl (Or.inl rfl) (pe_call (ok__law_draw T) (hr.mono (by decide)) rfl T.g__law_draw T.F__law_draw.kp T.B__law_draw .nil pass0 (pa_cons (pv 0) (pa_cons pe_int pa_nil))))
      (C8.pss_cut (ps_if (PW.pt (pw_and (pt_cmpR op_eq (pv 2) pe_int (nomark _)) (pw_and1 (pt_cmpR (op_neD hr.units) (pv 1) (pe_lst pa_nil) (nomark _))))) (pss_cons (ps_set (i := 3) S.nd rfl (Or.inl rfl) (pe_op op_sub (pe_op op_add (pe_ix ix_list (pv 1) (pe_call (ok__law_draw T) (hr.mono (by decide)) rfl T.g__law_draw T.F__law_draw.kp T.B__law_draw .nil pass0 (pa_cons (pv 0) (pa_cons (pe_callB (id := "len") (call_lenK (K := K) rfl) (by rfl) T.b_len (by decide +kernel) (pa_cons (pv 1) pa_nil)) pa_nil))) (fun _ _ => rfl)) (pe_call (ok__law_draw T) (hr.mono (by decide)) rfl T.g__law_draw T.F__law_draw.kp T.B__law_draw .nil pass0 (pa_cons (pv 0) (pa_cons pe_int pa_nil)))) pe_int))
      (pss_one (ps_ret (pe_callB (id := "min") (call_min2K rfl) (by rfl) T.b_min (by decide +kernel) (pa_cons (pe_callB (id := "max") (call_max2K rfl) (by rfl) T.b_max (by decide +kernel) (pa_cons (pv 3) (pa_cons pe_int pa_nil))) (pa_cons pe_int pa_nil)))))) pss_nil)
      (pss_cons (ps_if (pt_cmpR op_eq (pv 2) pe_int (nomark _)) (pss_cons (ps_set (i := 4) S.nd rfl (Or.inl rfl) (pe_call (ok__law_draw T) (hr.mono (by decide)) rfl T.g__law_draw T.F__law_draw.kp T.B__law_draw .nil pass0 (pa_cons (pv 0) (pa_cons pe_int pa_nil))))
      (pss_one (ps_ret (pe_callB (id := "min") (call_min2K rfl) (by rfl) T.b_min (by decide +kernel) (pa_cons (pe_op op_add (pe_op op_mul (pv 4) pe_int) (pe_call (ok__law_draw T) (hr.mono (by decide)) rfl T.g__law_draw T.F__law_draw.kp T.B__law_draw .nil pass0 (pa_cons (pv 0) (pa_cons pe_int pa_nil)))) (pa_cons pe_int pa_nil)))))) pss_nil)
      (pss_cons (ps_if (pt_cmpR op_eq (pv 2) pe_int (nomark _)) (pss_one (ps_ret (pe_call (ok__law_draw T) (hr.mono (by decide)) rfl T.g__law_draw T.F__law_draw.kp T.B__law_draw .nil pass0 (pa_cons (pv 0) (pa_cons pe_int pa_nil))))) pss_nil)
      (pss_one (ps_ret (pe_call (ok__law_draw T) (hr.mono (by decide)) rfl T.g__law_draw T.F__law_draw.kp T.B__law_draw .nil pass0 (pa_cons (pv 0) (pa_cons pe_int pa_nil))))))))), ?_⟩
    refine st__law_end ?_
    o_args
    refine ⟨a, F, 4, rfl, B, by decide, by decide, fun way H1 w0 w1 B1 c1 => ?_⟩
    have h1 := c1.at na hN
    o_args
    refine ⟨fun σ H' => σ = [some (.ref a), some (.ref n), some (.int way), none, none] ∧ Box a F H' ∧ Ch [a] H H', ?_, ?_⟩
    · o_args
      refine brD (fun q => ?_) (fun q => ?_)
      · o_args
        refine newList (by simp) fun e H2 ne s2 h2 => ?_
        o_args
        refine neLL (xs := ns) (ys := []) (SqL.of (s2 _ _ h1)) (SqL.of h2) ?_
        o_args
        refine brD (fun q2 => ?_) (fun q2 => ?_)
        · o_args
          exact ⟨rfl, B1.same s2, c1.trans (Ch.of s2)⟩
        · have nl : 0 < ns.length := by
            cases ns with
            | nil => exact absurd rfl q2
            | cons x r => exact Nat.succ_pos _
          have B2 := B1.same s2
          have n2 := s2 _ _ h1
          o_args
          refine lenA (.inl (SqL.of n2)) ?_
          o_args
          refine ⟨a, F, _, rfl, B2, by rw [List.length_map]; omega, by rw [List.length_map]; omega, fun j H3 j0 j1 B3 c3 => ?_⟩
          rw [List.length_map] at j1
          have n3 := c3.at na n2
          obtain ⟨jn, rfl⟩ : ∃ i : Nat, j = i := ⟨j.toNat, by omega⟩
          have jl : jn < ns.length := by omega
          o_args
          refine ixL n3 (show (ns.map V.int)[jn]? = some (.int ns[jn]) by rw [List.getElem?_map, List.getElem?_eq_getElem jl]; rfl) ?_
          generalize ns[jn] = x
          o_args
          refine ⟨a, F, 3, rfl, B3, by decide, by decide, fun d H4 d0 d1 B4 c4 => ?_⟩
          o_args
          exact k _ H4 (by omega) (by omega) B4 (((c1.trans (Ch.of s2)).trans c3).trans c4)
      · o_args
        exact ⟨rfl, B1, c1⟩
    rintro σ H2 ⟨rfl, B2, c2⟩
    o_args
    refine brD (fun q => ?_) (fun q => ?_)
    · o_args
      refine ⟨a, F, _, rfl, B2, by decide, by decide, fun u H3 u0 u1 B3 c3 => ?_⟩
      o_args
      refine ⟨a, F, _, rfl, B3, by decide, by decide, fun d H4 d0 d1 B4 c4 => ?_⟩
      o_args
      exact k _ H4 (by omega) (by omega) B4 ((c2.trans c3).trans c4)
    o_args
    refine brD (fun q => ?_) (fun q => ?_)
    · o_args
      refine ⟨a, F, _, rfl, B2, by decide, by decide, fun u H3 u0 u1 B3 c3 => ?_⟩
      o_args
      exact k _ H3 (by omega) (by omega) B3 (c2.trans c3)
    o_args
    refine ⟨a, F, _, rfl, B2, by decide, by decide, fun u H3 u0 u1 B3 c3 => ?_⟩
    o_args
    exact k _ H3 (by omega) (by omega) B3 (c2.trans c3)
def sp__law_pair : Sp := fun vs H Q _ => ∃ (a n : Addr) (F : List Addr) (ns : List Int), vs = [.ref a, .ref n] ∧ Box a F H ∧ n ∈ F ∧ IntL n ns H ∧ ns.length < 40000 ∧
  ∀ t lo hi ns' H', H t = none → 0 ≤ lo → lo ≤ hi → hi ≤ 999999999900 → H' t = some (.tup [.int lo, .int hi]) → IntL n ns' H' → ns'.length = ns.length + 2 → Box a F H' → Ch [a, n] H H' → Q (.ref t) H'
theorem ok__law_pair (T : Txt K mg) : FnOk P w K mg base CX0 3 T.a__law_pair T.fd__law_pair ["box", "ends"] (sp__law_pair) := by
  have S := sc__law_pair
  refine T.F__law_pair.ok S (fun vs H Q E h => ?_) (fun cdv A outer s H vs Q E hr h => ?_)
  · obtain ⟨a, n, F, ns, rfl, _⟩ := h
    rfl
  · obtain ⟨a, n, F, ns, rfl, B, nF, hN, hz, k⟩ := h
    have na : n ∉ [a] := fun z => B.nin ((List.mem_singleton.mp z) ▸ nF)
    refine ⟨_, (pss_cons (ps_set (i := 2) S.nd rfl (Or.inl rfl) (pe_call (ok__law_end T) (hr.mono (by decide)) rfl T.g__law_end T.F__law_end.kp T.B__law_end .nil pass0 (pa_cons (pv 0) (pa_cons (pv 1) pa_nil))))
      (pss_cons (ps_expr (pe_bm PySem.F.plainAttrs_list PySem.F.slot_list_append PySem.F.type_list_append mt_append (pv 1) (pa_cons (pv 2) pa_nil)))
      (pss_cons (ps_set (i := 3) S.nd rfl (Or.inl rfl) (pe_call (ok__law_end T) (hr.mono (by decide)) rfl T.g__law_end T.F__law_end.kp T.B__law_end .nil pass0 (pa_cons (pv 0) (pa_cons (pv 1) pa_nil))))
      (pss_cons (ps_expr (pe_bm PySem.F.plainAttrs_list PySem.F.slot_list_append PySem.F.type_list_append mt_append (pv 1) (pa_cons (pv 3) pa_nil)))
      (pss_one (ps_ret (pe_tup (pa_cons (pe_callB (id := "min") (call_min2K rfl) (by rfl) T.b_min (by decide +kernel) (pa_cons (pv 2) (pa_cons (pv 3) pa_nil))) (pa_cons (pe_callB (id := "max") (call_max2K rfl) (by rfl) T.b_max (by decide +kernel) (pa_cons (pv 2) (pa_cons (pv 3) pa_nil))) pa_nil))))))))), ?_⟩
    refine st__law_pair ?_
    o_args
    refine ⟨a, n, F, ns, rfl, B, nF, hN, by omega, fun one H1 o0 o1 B1 c1 => ?_⟩
    have h1 : H1 n = some (.lst (ns.map V.int)) := c1.at na hN
    o_args
    refine ⟨isList h1, ?_⟩
    o_args
    refine appList h1 (by rw [List.length_map]; omega) fun H2 s2 h2 => ?_
    have c2 : Ch [n] H1 H2 := Ch.ofX (by simp) s2 h2
    have B2 := B1.ch c2 (by simp [nF])
    have h2 : IntL n (ns ++ [one]) H2 := by rw [IntL, h2, List.map_append]; rfl
    o_args
    refine ⟨a, n, F, _, rfl, B2, nF, h2, by simp; omega, fun two H3 t0 t1 B3 c3 => ?_⟩
    have h3 : H3 n = some (.lst ((ns ++ [one]).map V.int)) := c3.at na h2
    o_args
    refine ⟨isList h3, ?_⟩
    o_args
    refine appList h3 (by simp; omega) fun H4 s4 h4 => ?_
    have c4 : Ch [n] H3 H4 := Ch.ofX (by simp) s4 h4
    have B4 := B3.ch c4 (by simp [nF])
    have C : Ch [a, n] H H4 := (((c1.more (by simp)).trans (c2.more (by simp))).trans (c3.more (by simp))).trans (c4.more (by simp))
    o_args
    refine newTup (by simp) fun t H5 nt s5 h5 => ?_
    o_args
    exact k t _ _ (ns ++ [one] ++ [two]) H5 (C.none nt) (by omega) (by omega) (by omega) h5 (by rw [IntL, s5 _ _ h4, List.map_append (l₂ := [two])]; rfl) (by simp) (B4.same s5) (C.trans (Ch.of s5))
/-! ### the history -/
def Hist (H : Hp) (ts : List Addr) (hs : List Deed) : Prop := ts.length = hs.length ∧ ∀ (i : Nat) t d, ts[i]? = some t → hs[i]? = some d → H t = some (.tup [.bl d.1, .int d.2.1, .int d.2.2])
/-- at h: the list of what was done -/
def HistA (h : Addr) (F : List Addr) (hs : List Deed) (H : Hp) : Prop := ∃ ts, H h = some (.lst (ts.map V.ref)) ∧ Hist H ts hs ∧ h ∉ F ∧ ∀ t ∈ ts, t ∉ F
section
variable {H H' : Hp} {ts F G : List Addr} {hs : List Deed} {t h x : Addr} {d : Deed}
theorem Hist.ch (A : Hist H ts hs) (c : Ch G H H') (n : ∀ t ∈ ts, t ∉ G) : Hist H' ts hs := ⟨A.1, fun i t r h1 h2 => c.at (n t (List.mem_of_getElem? h1)) (A.2 i t r h1 h2)⟩
theorem Hist.snoc (A : Hist H ts hs) (e : H t = some (.tup [.bl d.1, .int d.2.1, .int d.2.2])) : Hist H (ts ++ [t]) (hs ++ [d]) := ⟨by rw [List.length_append, List.length_append, A.1]; rfl, fun i a b h1 h2 => by
  rcases getq_app h1 with ⟨c, h1⟩ | ⟨c, z⟩
  · rw [List.getElem?_append_left (by have := A.1; omega)] at h2
    exact A.2 i a b h1 h2
  · subst z
    rw [c, A.1, List.getElem?_append_right (Nat.le_refl _), Nat.sub_self] at h2
    cases h2
    exact e⟩
theorem Hist.at (A : Hist H ts hs) {i : Nat} (e : hs[i]? = some d) : ∃ t, ts[i]? = some t ∧ (ts.map V.ref)[i]? = some (.ref t) ∧ H t = some (.tup [.bl d.1, .int d.2.1, .int d.2.2]) := by
  have l1 := getq_lt e
  have l2 : i < ts.length := by have := A.1; omega
  exact ⟨ts[i], List.getElem?_eq_getElem l2, by rw [List.getElem?_map, List.getElem?_eq_getElem l2]; rfl, A.2 i _ d (List.getElem?_eq_getElem l2) e⟩
theorem Hist.there (A : Hist H ts hs) (m : t ∈ ts) : ∃ d : Deed, H t = some (.tup [.bl d.1, .int d.2.1, .int d.2.2]) := by
  obtain ⟨i, hi⟩ := List.mem_iff_getElem?.mp m
  have l1 := getq_lt hi
  have l2 : i < hs.length := by have := A.1; omega
  exact ⟨_, A.2 i t hs[i] hi (List.getElem?_eq_getElem l2)⟩
theorem HistA.ch (A : HistA h F hs H) (c : Ch G H H') (n : ∀ b ∈ G, b ∈ F) : HistA h F hs H' := by
  obtain ⟨ts, h1, h2, h3, h4⟩ := A
  exact ⟨ts, c.at (fun z => h3 (n _ z)) h1, h2.ch c (fun t ht z => h4 t ht (n _ z)), h3, h4⟩
theorem HistA.same (A : HistA h F hs H) (s : Same H H') : HistA h F hs H' := A.ch (Ch.of (G := []) s) (fun _ h => nomatch h)
theorem HistA.own (A : HistA h F hs H) (hx : H x = none) (s : Same H H') : HistA h (x :: F) hs H' := by
  obtain ⟨ts, h1, h2, h3, h4⟩ := A
  refine ⟨ts, s _ _ h1, h2.ch (Ch.of (G := []) s) (fun _ _ z => nomatch z), fun z => ?_, fun t ht z => ?_⟩
  · rcases List.mem_cons.mp z with z | z
    · rw [z, hx] at h1; cases h1
    · exact h3 z
  · rcases List.mem_cons.mp z with z | z
    · obtain ⟨d, e⟩ := h2.there ht
      rw [z, hx] at e; cases e
    · exact h4 t ht z
theorem HistA.less (A : HistA h F hs H) (n : ∀ b ∈ G, b ∈ F) : HistA h G hs H := by
  obtain ⟨ts, h1, h2, h3, h4⟩ := A
  exact ⟨ts, h1, h2, fun z => h3 (n _ z), fun t ht z => h4 t ht (n _ z)⟩
theorem HistA.at_ (A : HistA h F hs H) : ∃ o, H h = some o := by
  obtain ⟨ts, h1, _⟩ := A
  exact ⟨_, h1⟩
/-- one more: what was appended is new -/
theorem HistA.push {H1 H2 : Hp} {ts : List Addr} (h1 : H h = some (.lst (ts.map V.ref))) (A : Hist H ts hs) (hF : h ∉ F) (tF : ∀ t ∈ ts, t ∉ F) (al : Al F H) (nt : H t = none) (s : Same H H1) (ht : H1 t = some (.tup [.bl d.1, .int d.2.1, .int d.2.2])) (x : SameX h H1 H2) (e : H2 h = some (.lst (ts.map V.ref ++ [.ref t]))) : HistA h F (hs ++ [d]) H2 := by
  have c : Ch [h] H H2 := (Ch.of s).trans (Ch.ofX (by simp) x e)
  have th : t ≠ h := (ne_of_none h1 nt).symm
  have ne : ∀ t ∈ ts, t ∉ [h] := fun t ht z => by
    obtain ⟨d, q⟩ := A.there ht
    rw [List.mem_singleton.mp z, h1] at q
    cases q
  refine ⟨ts ++ [t], by rw [e, List.map_append]; rfl, (A.ch c ne).snoc (x _ _ th ht), hF, fun u hu => ?_⟩
  rcases List.mem_append.mp hu with hu | hu
  · exact tF u hu
  · rw [List.mem_singleton.mp hu]; exact al.new nt
end
def sp__law_has (K : PySem.W.Frag) : Sp := fun vs H Q _ => ∃ (h : Addr) (F : List Addr) (hs : List Deed) (o : Int), vs = [.ref h, .int o] ∧ HistA h F hs H ∧ Q (.bl (hasF hs o)) H
theorem ok__law_has (T : Txt K mg) : FnOk P w K mg base CX0 1 T.a__law_has T.fd__law_has ["history", "offset"] (sp__law_has K) := by
  have S := sc__law_has
  refine T.F__law_has.ok S (fun vs H Q E h => ?_) (fun cdv A outer s H vs Q E hr h => ?_)
  · obtain ⟨h, F, hs, o, rfl, _⟩ := h
    rfl
  · obtain ⟨h, F, hs, o, rfl, ⟨ts, h1, A, _⟩, k⟩ := h
    refine ⟨_, (pss_cons (ps_set (i := 2) S.nd rfl (Or.inl rfl) pe_bl)
      (pss_cons (ps_for PassesOwn.never rfl (pi_list (pv 0)) (pg_name (i := 3) S.nd rfl (Or.inl rfl)) (pss_one (ps_if (pt_chain op_le op_lt (pe_ix ix_tup (pv 3) pe_int (fun _ _ => rfl)) (pv 1) (pe_ix ix_tup (pv 3) pe_int (fun _ _ => rfl))) (pss_one (ps_set (i := 2) S.nd rfl (Or.inl rfl) (pe_ix ix_tup (pv 3) pe_int (fun _ _ => rfl)))) pss_nil)))
      (pss_one (ps_ret (pv 2))))), ?_⟩
    refine st__law_has ?_
    o_args
    refine overL (SqL.of h1) (for_list (K := K) (a := h) (xs := ts.map V.ref) (fun i σ H' => ∃ v, σ = [some (.ref h), some (.int o), some (.bl (hasF (hs.take i) o)), v] ∧ H' = H) ⟨none, rfl, rfl⟩ (fun i σ H' _ ⟨_, _, e⟩ => by rw [e]; exact SqL.of h1) ?_ ?_)
    · rintro i x σ H' hx ⟨v, rfl, rfl⟩
      have il := getq_lt hx
      rw [List.length_map, A.1] at il
      obtain ⟨t, _, e, ht⟩ := A.at (List.getElem?_eq_getElem il)
      rw [e] at hx
      cases hx
      have tk : hasF (hs.take (i + 1)) o = if hs[i].2.1 ≤ o ∧ o < hs[i].2.2 then hs[i].1 else hasF (hs.take i) o := by
        rw [List.take_succ, List.getElem?_eq_getElem il]
        exact hasF_snoc
      generalize hs[i] = d at ht tk
      o_args
      refine brD (fun c1 => ?_) (fun c1 => ?_)
      · o_args
        refine brD (fun c2 => ?_) (fun c2 => ?_)
        · o_args
          exact ⟨_, by rw [tk, if_pos ⟨c1, c2⟩], rfl⟩
        · o_args
          exact ⟨_, by rw [tk, if_neg (fun z => c2 z.2)], rfl⟩
      · o_args
        exact ⟨_, by rw [tk, if_neg (fun z => c1 z.1)], rfl⟩
    · rintro σ H' ⟨v, rfl, rfl⟩
      rw [List.length_map, A.1, List.take_length]
      o_args
      exact k
/-- the data of a list of pairs -/
def pData (rs : List Run) : PyData := .list (rs.map fun r => .tuple [.int r.1, .int r.2])
theorem dp_pairs {K : PySem.W.Frag} {H : Hp} : ∀ {ts : List Addr} {rs : List Run}, Tups H ts rs → DpAll K H (ts.map V.ref) (rs.map fun r => .tuple [.int r.1, .int r.2])
  | [], [], _ => .nil
  | [], _ :: _, h => nomatch h.1
  | _ :: _, [], h => nomatch h.1
  | t :: ts, r :: rs, h => .cons (.tup (SqT.of (h.2 0 t r rfl rfl)) (.cons (.int _) (.cons (.int _) .nil))) (dp_pairs ⟨Nat.succ.inj h.1, fun i a b h1 h2 => h.2 (i + 1) a b h1 h2⟩)
theorem lay_pairs : ∀ rs : List Run, PyData.canLayAll0 (rs.map fun r => .tuple [.int r.1, .int r.2]) = true ∧ PyData.depthAll (rs.map fun r => .tuple [.int r.1, .int r.2]) ≤ 1
  | [] => ⟨by simp only [List.map_nil, PyData.canLayAll0], by simp only [List.map_nil, PyData.depthAll]; decide⟩
  | r :: rs => by
    obtain ⟨h1, h2⟩ := lay_pairs rs
    refine ⟨by simp only [List.map_cons, PyData.canLayAll0, PyData.canLay0, h1, Bool.and_self], ?_⟩
    rw [List.map_cons]
    unfold PyData.depthAll
    exact Nat.max_le.mpr ⟨by simp [PyData.depth, PyData.depthAll], h2⟩
theorem lay_pd (rs : List Run) : PySem.SeqAt.shaped (pData rs) = true := by
  obtain ⟨h1, h2⟩ := lay_pairs rs
  have e : PyData.depthAll (rs.map fun r => .tuple [.int r.1, .int r.2]) = 0 ∨ PyData.depthAll (rs.map fun r => .tuple [.int r.1, .int r.2]) = 1 := by
    generalize PyData.depthAll _ = n at h2
    omega
  unfold PySem.SeqAt.shaped pData
  rcases e with e | e
  · simp only [PyData.canLay0, PyData.depth, h1, e]
    decide
  · simp only [PyData.canLay0, PyData.depth, h1, e]
    decide
/-- a list of pairs against an empty one -/
theorem nePairs {K : PySem.W.Frag} {H : Hp} {Q : VK} {l m : Addr} {ts : List Addr} {rs : List Run} (h : RunsL l ts rs H) (g : H m = some (.lst [])) (q : Q (.bl (!decide (rs = []))) H) : rNeD K (.ref l) (.ref m) H Q :=
  ⟨_, .list [], .lst (SqL.of h.1) (dp_pairs h.2), .lst (SqL.of g) .nil, lay_pd rs, by decide +kernel, by
    rw [show PyData.eqv (.list (rs.map fun r => .tuple [.int r.1, .int r.2])) (.list []) = decide (rs = []) by
      simp only [PyData.eqv]
      cases rs with
      | nil => simp [PyData.eqvAll]
      | cons r rs => simp [PyData.eqvAll]]
    exact q⟩
def sp__law_due (K : PySem.W.Frag) : Sp := fun vs H Q _ => ∃ (h : Addr) (F : List Addr) (hs : List Deed), vs = [.ref h] ∧ HistA h F hs H ∧ hs.length < 10000 ∧
  ∀ l ts due H', H l = none → Same H H' → RunsL l ts due H' → Nrm due → (∀ o, Mem o due ↔ hasF hs o = true) → Q (.ref l) H'
set_option maxHeartbeats 0 in
theorem ok__law_due (T : Txt K mg) : FnOk P w K mg base CX0 2 T.a__law_due T.fd__law_due ["history"] (sp__law_due K) := by
  have S := sc__law_due
  refine T.F__law_due.ok S (fun vs H Q E h => ?_) (fun cdv A outer s H vs Q E hr h => ?_)
  · obtain ⟨h, F, hs, rfl, _⟩ := h
    rfl
  · obtain ⟨h, F, hs, rfl, ⟨ts, h1, A, _⟩, hz, k⟩ := h
    refine ⟨_, (pss_cons (ps_set (i := 1) S.nd rfl (Or.inl rfl) (pe_callB (id := "sorted") cr_sortedI (by rfl) T.b_sorted (by decide +kernel) (pa_cons (pe_op op_cat (pe_lc (own := [("deed", 6)]) (g := gName 6) (tt := tYes) rfl S.nd (pi_list (pv 0)) (blkOk_by (N := ["history", "ends", "due", "k", "low", "high", "deed"]) (sc := defScope s__law_due) (by decide +kernel)) (fun _ _ _ _ _ => pg_name (i := 6) S.nd rfl (Or.inl rfl)) (fun _ _ _ _ _ => pts_nil) (fun _ _ _ _ _ => (pe_ix (show IxR _ (rIxT K) from ix_tup) (pv 6) pe_int (fun _ _ => rfl)))) (pe_lc (own := [("deed", 6)]) (g := gName 6) (tt := tYes) rfl S.nd (pi_list (pv 0)) (blkOk_by (N := ["history", "ends", "due", "k", "low", "high", "deed"]) (sc := defScope s__law_due) (by decide +kernel)) (fun _ _ _ _ _ => pg_name (i := 6) S.nd rfl (Or.inl rfl)) (fun _ _ _ _ _ => pts_nil) (fun _ _ _ _ _ => (pe_ix (show IxR _ (rIxT K) from ix_tup) (pv 6) pe_int (fun _ _ => rfl))))) pa_nil)))
      (pss_cons (ps_set (i := 2) S.nd rfl (Or.inl rfl) (pe_lst pa_nil))
      (pss_cons (ps_for PassesOwn.never rfl (pi_range2 (by rfl) T.b_range (pa_cons pe_int (pa_cons (pe_callB (id := "len") (call_lenK (K := K) rfl) (by rfl) T.b_len (by decide +kernel) (pa_cons (pv 1) pa_nil)) pa_nil))) (pg_name (i := 3) S.nd rfl (Or.inl rfl)) (pss_cons (ps_set (i := 4) S.nd rfl (Or.inl rfl) (pe_ix ix_list (pv 1) (pe_op op_sub (pv 3) pe_int) (fun _ _ => rfl)))
      (pss_cons (ps_set (i := 5) S.nd rfl (Or.inl rfl) (pe_ix ix_list (pv 1) (pv 3) (fun _ _ => rfl)))
      (pss_one (ps_if (PW.pt (pw_and (pt_cmpR op_lt (pv 4) (pv 5) (nomark _)) (pw_and1 (pt_val (pe_call (ok__law_has T) (hr.mono (by decide)) rfl T.g__law_has T.F__law_has.kp T.B__law_has .nil pass0 (pa_cons (pv 0) (pa_cons (pv 4) pa_nil))))))) (pss_one (ps_if (PW.pt (pw_and (pt_cmpR (op_neD hr.units) (pv 2) (pe_lst pa_nil) (nomark _)) (pw_and1 (pt_cmpR op_eq (pe_ix ix_tup (pe_ix ix_list (pv 2) (pe_un un_neg pe_int) (fun _ _ => rfl)) pe_int (fun _ _ => rfl)) (pv 4) (nomark _))))) (pss_one (ps_asg (pe_tup (pa_cons (pe_ix ix_tup (pe_ix ix_list (pv 2) (pe_un un_neg pe_int) (fun _ _ => rfl)) pe_int (fun _ _ => rfl)) (pa_cons (pv 5) pa_nil))) (pg_sub (pv 2) (pe_un un_neg pe_int) set_list))) (pss_one (ps_expr (pe_bm PySem.F.plainAttrs_list PySem.F.slot_list_append PySem.F.type_list_append mt_append (pv 2) (pa_cons (pe_tup (pa_cons (pv 4) (pa_cons (pv 5) pa_nil))) pa_nil)))))) pss_nil)))))
      (pss_one (ps_ret (pv 2)))))), ?_⟩
    refine st__law_due ?_
    o_args
    have tz := A.1
    refine lcG (a := h) (xs := ts.map V.ref) (fun D i vs H' => SameX D H H' ∧ vs = ((hs.take i).map fun d => d.2.1).map V.int) (fun R h => ⟨_, rfl, h⟩) (SqL.of h1) (by rw [List.length_map]; omega) (fun D _ => ⟨SameX.upd, by simp⟩) (fun D i vs H' hD hP => SqL.of (hP.1 _ _ (ne_of_none h1 hD) h1)) (fun D i v vs H' hD hv hle hd hP => ?_) (fun D vs H1 hD hd hle hP => ?_)
    · obtain ⟨s, e1⟩ := hP
      have il := getq_lt hv
      rw [List.length_map, A.1] at il
      obtain ⟨t, _, e2, ht⟩ := A.at (List.getElem?_eq_getElem il)
      rw [e2] at hv
      cases hv
      have tk : hs.take (i + 1) = hs.take i ++ [hs[i]] := by rw [List.take_succ, List.getElem?_eq_getElem il]; rfl
      generalize hs[i] = d at tk ht
      have ht' := s _ _ (ne_of_none ht hD) ht
      intro Y N hY hN
      dsimp only [tYes]
      rw [if_pos rfl]
      o_args
      exact hY _ H' hd ⟨s.upd', by rw [e1, tk]; simp⟩
    obtain ⟨s, e1⟩ := hP
    rw [List.length_map, A.1, List.take_length] at e1
    subst e1
    have S1 := Same.ofX hD s
    have A1 : Hist H1 ts hs := A.ch (Ch.of (G := []) S1) (fun _ _ z => nomatch z)
    refine lcG (a := h) (xs := ts.map V.ref) (fun D i vs H' => SameX D H1 H' ∧ vs = ((hs.take i).map fun d => d.2.2).map V.int) (fun R h => ⟨_, rfl, h⟩) (SqL.of (S1 _ _ h1)) (by rw [List.length_map]; omega) (fun D _ => ⟨SameX.upd, by simp⟩) (fun D i vs H' hD hP => SqL.of (hP.1 _ _ (ne_of_none (S1 _ _ h1) hD) (S1 _ _ h1))) (fun D i v vs H' hD hv hle hd hP => ?_) (fun D2 vs H2 hD2 hd2 hle2 hP => ?_)
    · obtain ⟨s, e1⟩ := hP
      have il := getq_lt hv
      rw [List.length_map, A.1] at il
      obtain ⟨t, _, e2, ht⟩ := A1.at (List.getElem?_eq_getElem il)
      rw [e2] at hv
      cases hv
      have tk : hs.take (i + 1) = hs.take i ++ [hs[i]] := by rw [List.take_succ, List.getElem?_eq_getElem il]; rfl
      generalize hs[i] = d at tk ht
      have ht' := s _ _ (ne_of_none ht hD) ht
      intro Y N hY hN
      dsimp only [tYes]
      rw [if_pos rfl]
      o_args
      exact hY _ H' hd ⟨s.upd', by rw [e1, tk]; simp⟩
    obtain ⟨s2, e2⟩ := hP
    rw [List.length_map, A.1, List.take_length] at e2
    subst e2
    have S2 := Same.ofX hD2 s2
    refine catList (S2 _ _ hd) hd2 (by simp; omega) fun c H3 nc s3 h3 => ?_
    o_args
    rw [← List.map_append] at h3
    refine ⟨c, _, rfl, SqL.of h3, fun es p hp so np => ?_⟩
    have S4 : Same H3 (upd H3 p (.lst (es.map V.int))) := Same.new np
    have h4 : upd H3 p (.lst (es.map V.int)) p = some (.lst (es.map V.int)) := upd_same
    generalize upd H3 p (.lst (es.map V.int)) = H4 at S4 h4
    have S := ((S1.trans S2).trans s3).trans S4
    have E : Ends' hs es := ⟨so, fun d hd => ⟨hp.mem_iff.mpr (List.mem_append_left _ (List.mem_map.mpr ⟨d, hd, rfl⟩)), hp.mem_iff.mpr (List.mem_append_right _ (List.mem_map.mpr ⟨d, hd, rfl⟩))⟩⟩
    have le : es.length = hs.length + hs.length := by have := hp.length_eq; simpa using this
    have A4 : HistA h [] hs H4 := ⟨ts, S _ _ h1, A.ch (Ch.of (G := []) S) (fun _ _ z => nomatch z), (fun z => nomatch z), fun _ _ z => nomatch z⟩
    o_args
    refine newList (by simp) fun l H5 nl s5 h5 => ?_
    have p5 := s5 _ _ h4
    have A5 := A4.same s5
    have S5 := S.trans s5
    have HN : H l = none := none_of S nl
    o_args
    refine lenA (SeqA.lst p5) ?_
    o_args
    rw [List.length_map]
    refine ⟨1, es.length, rfl, ⟨by decide, by decide, by omega, by omega⟩, ?_⟩
    have lp : p ∉ [l] := fun z => ne_of_none h4 nl (List.mem_singleton.mp z)
    refine for_rangeK (lo := 1) (n := ((es.length : Int) - 1).toNat) (fun i σ H' => ∃ a b c ts' due, σ = [some (.ref h), some (.ref p), some (.ref l), a, b, c, none] ∧ Ch [l] H5 H' ∧ RunsL l ts' due H' ∧ due.length ≤ i ∧ Due (hasF hs) es i due) ⟨none, none, none, [], [], rfl, Ch.refl, ⟨h5, .nil⟩, Nat.le_refl _, Due.start⟩ ?_ ?_
    · rintro i σ H6 hi ⟨a, b, c', ts', due, rfl, c6, r6, z6, D⟩
      have i1 : i + 1 < es.length := by omega
      have el : es[i]? = some es[i] := List.getElem?_eq_getElem (by omega)
      have eh : es[i + 1]? = some es[i + 1] := List.getElem?_eq_getElem i1
      obtain ⟨lh, _⟩ := E.gap el eh
      have fl := E.flat el eh
      have e0 : es[0]? = some es[0] := List.getElem?_eq_getElem (by omega)
      have fst := E.first e0 _ (List.mem_of_getElem? el)
      have vl : (es.map V.int)[i]? = some (.int es[i]) := by rw [List.getElem?_map, el]; rfl
      have vh : (es.map V.int)[i + 1]? = some (.int es[i + 1]) := by rw [List.getElem?_map, eh]; rfl
      generalize es[i] = low at el lh fl fst vl
      generalize es[i + 1] = high at eh lh fl vh
      have p6 := c6.at lp p5
      have A6 : HistA h [l] hs H6 := (A4.own nl s5).ch c6 (fun _ h => h)
      have r6l := r6.len
      o_args
      refine ⟨p, es.map V.int, (1 + (i : Int)) - 1, .int low, rfl, rfl, SqL.of p6, by rw [show (1 + (i : Int)) - 1 = (i : Int) by omega]; exact atI_nat vl, ?_⟩
      o_args
      refine ⟨p, es.map V.int, 1 + (i : Int), .int high, rfl, rfl, SqL.of p6, by rw [show 1 + (i : Int) = ((i + 1 : Nat) : Int) by omega]; exact atI_nat vh, ?_⟩
      o_args
      have skip : ¬ (low < high ∧ hasF hs low = true) → ∀ H7, Ch [l] H5 H7 → RunsL l ts' due H7 → ∃ a b c ts' due, [some (V.ref h), some (.ref p), some (.ref l), some (.int (1 + (i : Int))), some (.int low), some (.int high), none] = [some (.ref h), some (.ref p), some (.ref l), a, b, c, none] ∧ Ch [l] H5 H7 ∧ RunsL l ts' due H7 ∧ due.length ≤ i + 1 ∧ Due (hasF hs) es (i + 1) due := fun n H7 c7 r7 => ⟨_, _, _, ts', due, rfl, c7, r7, by omega, D.skip el eh lh fl n⟩
      refine brD (fun q1 => ?_) (fun q1 => ?_)
      · o_args
        refine ⟨h, [l], hs, low, rfl, A6, ?_⟩
        o_args
        refine br2 (fun q2 => ?_) (fun q2 => ?_)
        · have DA := D.add el eh e0 fst q1 fl q2
          o_args
          refine newList (by simp) fun m H7 nm s7 h7 => ?_
          have r7 := r6.same s7
          o_args
          refine nePairs r7 h7 ?_
          o_args
          rcases snoc_or due with rfl | ⟨da, r, rfl⟩
          · have e0' : ts' = [] := List.eq_nil_of_length_eq_zero r6l
            subst e0'
            refine brDT rfl ?_
            o_args
            refine ⟨isList r7.1, ?_⟩
            o_args
            refine newTup (by simp) fun u H8 nu s8 h8 => ?_
            o_args
            refine appList (s8 _ _ r7.1) (by simp) fun H9 s9 h9 => ?_
            have ul : u ≠ l := (ne_of_none r7.1 nu).symm
            o_args
            exact ⟨_, _, _, [u], [(low, high)], rfl, c6.trans ((Ch.of (s7.trans s8)).trans (Ch.ofX (by simp) s9 h9)), ⟨h9, Tups.snoc (ts := []) (rs := []) .nil (s9 _ _ ul h8)⟩, by simp, DA⟩
          · obtain ⟨ta, tr, rfl⟩ : ∃ a x, ts' = a ++ [x] := (snoc_or ts').resolve_left fun z => by rw [z] at r6l; simp at r6l
            have hl7 : H7 l = some (.lst (ta.map V.ref ++ [V.ref tr])) := by rw [r7.1, List.map_append]; rfl
            obtain ⟨Ti, Tr⟩ := r7.2.init
            rw [addDue_snoc] at DA
            refine brDF (by simp) ?_
            o_args
            refine ixLast hl7 ?_
            o_args
            refine brD (fun q3 => ?_) (fun q3 => ?_)
            · rw [if_pos q3] at DA
              o_args
              refine ixLast hl7 ?_
              o_args
              refine newTup (by simp) fun u H8 nu s8 h8 => ?_
              o_args
              refine setLast (s8 _ _ hl7) fun H9 s9 h9 => ?_
              have ul : u ≠ l := (ne_of_none hl7 nu).symm
              have c9 : Ch [l] H8 H9 := Ch.ofX (by simp) s9 h9
              have Ti9 : Tups H9 ta da := (Ti.same s8).ch c9 fun t ht z => (Ti.lst_ne hl7 t ht) (List.mem_singleton.mp z)
              o_args
              exact ⟨_, _, _, ta ++ [u], da ++ [(r.1, high)], rfl, c6.trans ((Ch.of (s7.trans s8)).trans c9), ⟨by rw [h9, List.map_append]; rfl, Ti9.snoc (r := (r.1, high)) (s9 _ _ ul h8)⟩, by simp at z6 ⊢; omega, DA⟩
            · rw [if_neg q3] at DA
              o_args
              refine ⟨isList r7.1, ?_⟩
              o_args
              refine newTup (by simp) fun u H8 nu s8 h8 => ?_
              o_args
              refine appList (s8 _ _ r7.1) (by rw [List.length_map]; omega) fun H9 s9 h9 => ?_
              have ul : u ≠ l := (ne_of_none hl7 nu).symm
              have c9 : Ch [l] H8 H9 := Ch.ofX (by simp) s9 h9
              have T9 : Tups H9 (ta ++ [tr]) (da ++ [r]) := (r7.2.same s8).ch c9 fun t ht z => (r7.2.lst_ne r7.1 t ht) (List.mem_singleton.mp z)
              o_args
              exact ⟨_, _, _, ta ++ [tr] ++ [u], da ++ [r] ++ [(low, high)], rfl, c6.trans ((Ch.of (s7.trans s8)).trans c9), ⟨by rw [h9, List.map_append (l₂ := [u])]; rfl, T9.snoc (r := (low, high)) (s9 _ _ ul h8)⟩, by simp at z6 ⊢; omega, DA⟩
        · o_args
          exact skip (fun z => by rw [q2] at z; exact nomatch z.2) H6 c6 r6
      · o_args
        exact skip (fun z => q1 z.1) H6 c6 r6
    · rintro σ H6 ⟨a, b, c', ts', due, rfl, c6, r6, z6, D⟩
      rw [show ((es.length : Int) - 1).toNat = es.length - 1 by omega] at D
      o_args
      exact k l ts' due H6 HN (Ch.same ((((Ch.of S).trans (Ch.of s5)).trans c6).drop HN)) r6 D.nrm (E.done D)
def sp__law_pairs_are (K : PySem.W.Frag) : Sp := fun vs H Q _ => ∃ (l m : Addr) (ts us : List Addr) (rs : List Run), vs = [.ref l, .ref m] ∧ RunsL l ts rs H ∧ RunsL m us rs H ∧ rs.length < 50000 ∧ Q (.bl true) H
theorem ok__law_pairs_are (T : Txt K mg) : FnOk P w K mg base CX0 2 T.a__law_pairs_are T.fd__law_pairs_are ["told", "due"] (sp__law_pairs_are K) := by
  have S := sc__law_pairs_are
  refine T.F__law_pairs_are.ok S (fun vs H Q E h => ?_) (fun cdv A outer s H vs Q E hr h => ?_)
  · obtain ⟨l, m, ts, us, rs, rfl, _⟩ := h
    rfl
  · obtain ⟨l, m, ts, us, rs, rfl, hL, hM, hz, k⟩ := h
    have el := hL.len
    have em := hM.len
    refine ⟨_, (pss_cons (ps_if (PW.pt (pw_or (pt_not (pt_val (pe_callB (id := "isinstance") call_isi (by rfl) T.b_isinstance (by decide +kernel) (pa_cons (pv 0) (pa_cons (pe_bltn (v := .ty "list") (u := .type "list") (by rfl) T.b_list (by decide +kernel) rfl) pa_nil))))) (pw_or1 (pt_cmpR op_ne (pe_callB (id := "len") (call_lenK (K := K) rfl) (by rfl) T.b_len (by decide +kernel) (pa_cons (pv 0) pa_nil)) (pe_callB (id := "len") (call_lenK (K := K) rfl) (by rfl) T.b_len (by decide +kernel) (pa_cons (pv 1) pa_nil)) (nomark _))))) (pss_one (ps_ret pe_bl)) pss_nil)
      (pss_cons (ps_for PassesOwn.never rfl (pi_range1 (by rfl) T.b_range (pa_cons (pe_callB (id := "len") (call_lenK (K := K) rfl) (by rfl) T.b_len (by decide +kernel) (pa_cons (pv 1) pa_nil)) pa_nil)) (pg_name (i := 2) S.nd rfl (Or.inl rfl)) (pss_cons (ps_if (PW.pt (pw_or (pt_not (pt_val (pe_callB (id := "isinstance") call_isi (by rfl) T.b_isinstance (by decide +kernel) (pa_cons (pe_ix ix_list (pv 0) (pv 2) (fun _ _ => rfl)) (pa_cons (pe_bltn (v := .ty "tuple") (u := .type "tuple") (by rfl) T.b_tuple (by decide +kernel) rfl) pa_nil))))) (pw_or1 (pt_cmpR op_ne (pe_callB (id := "len") (call_lenK (K := K) rfl) (by rfl) T.b_len (by decide +kernel) (pa_cons (pe_ix ix_list (pv 0) (pv 2) (fun _ _ => rfl)) pa_nil)) pe_int (nomark _))))) (pss_one (ps_ret pe_bl)) pss_nil)
      (pss_cons (ps_if (PW.pt (pw_or (pt_not (pt_val (pe_call (ok__law_is_whole T) (hr.mono (by decide)) rfl T.g__law_is_whole T.F__law_is_whole.kp T.B__law_is_whole .nil pass0 (pa_cons (pe_ix ix_tup (pe_ix ix_list (pv 0) (pv 2) (fun _ _ => rfl)) pe_int (fun _ _ => rfl)) pa_nil)))) (pw_or1 (pt_not (pt_val (pe_call (ok__law_is_whole T) (hr.mono (by decide)) rfl T.g__law_is_whole T.F__law_is_whole.kp T.B__law_is_whole .nil pass0 (pa_cons (pe_ix ix_tup (pe_ix ix_list (pv 0) (pv 2) (fun _ _ => rfl)) pe_int (fun _ _ => rfl)) pa_nil))))))) (pss_one (ps_ret pe_bl)) pss_nil)
      (pss_one (ps_if (PW.pt (pw_or (pt_cmpR op_ne (pe_ix ix_tup (pe_ix ix_list (pv 0) (pv 2) (fun _ _ => rfl)) pe_int (fun _ _ => rfl)) (pe_ix ix_tup (pe_ix ix_list (pv 1) (pv 2) (fun _ _ => rfl)) pe_int (fun _ _ => rfl)) (nomark _)) (pw_or1 (pt_cmpR op_ne (pe_ix ix_tup (pe_ix ix_list (pv 0) (pv 2) (fun _ _ => rfl)) pe_int (fun _ _ => rfl)) (pe_ix ix_tup (pe_ix ix_list (pv 1) (pv 2) (fun _ _ => rfl)) pe_int (fun _ _ => rfl)) (nomark _))))) (pss_one (ps_ret pe_bl)) pss_nil)))))
      (pss_one (ps_ret pe_bl)))), ?_⟩
    refine st__law_pairs_are ?_
    o_args
    refine ⟨_, _, _, _, true, rfl, .ty _, .base (.lst hL.1), kit_ty (by decide +kernel), ?_⟩
    o_args
    refine lenA (SeqA.lst hL.1) ?_
    o_args
    refine lenA (SeqA.lst hM.1) ?_
    o_args
    rw [List.length_map, List.length_map, el, em]
    rw [decide_eq_true rfl]
    o_args
    refine lenA (SeqA.lst hM.1) ?_
    o_args
    rw [List.length_map, em]
    refine rngF (n := rs.length) (by omega) (by omega) (for_rangeK (lo := 0) (n := (rs.length : Int).toNat) (fun i σ H' => ∃ v, σ = [some (.ref l), some (.ref m), v] ∧ H' = H) ⟨none, rfl, rfl⟩ ?_ ?_)
    · rintro i σ H' hi ⟨v, rfl, rfl⟩
      have il : i < rs.length := by omega
      obtain ⟨t, _, e1, ht⟩ := hL.at (List.getElem?_eq_getElem il)
      obtain ⟨u, _, e2, hu⟩ := hM.at (List.getElem?_eq_getElem il)
      generalize rs[i] = r at ht hu
      have ix1 : ∀ {Q : VK}, Q (.ref t) H' → rIxL K (.ref l) (.int (0 + (i : Int))) H' Q := fun q => by rw [show (0 : Int) + (i : Int) = (i : Int) by omega]; exact ixL hL.1 e1 q
      have ix2 : ∀ {Q : VK}, Q (.ref u) H' → rIxL K (.ref m) (.int (0 + (i : Int))) H' Q := fun q => by rw [show (0 : Int) + (i : Int) = (i : Int) by omega]; exact ixL hM.1 e2 q
      o_args
      refine ix1 ?_
      o_args
      refine ⟨_, _, _, _, true, rfl, .ty _, .base (.tup ht), kit_ty (by decide +kernel), ?_⟩
      o_args
      refine ix1 ?_
      o_args
      refine lenA (SeqA.tup ht) ?_
      o_args
      refine brDT rfl ?_
      o_args
      refine ix1 ?_
      o_args
      refine ⟨_, rfl, ?_⟩
      o_args
      refine ix1 ?_
      o_args
      refine ⟨_, rfl, ?_⟩
      o_args
      refine ix1 ?_
      o_args
      refine ix2 ?_
      o_args
      rw [decide_eq_true rfl]
      o_args
      refine ix1 ?_
      o_args
      refine ix2 ?_
      o_args
      rw [decide_eq_true rfl]
      o_args
      exact ⟨_, rfl, rfl⟩
    · rintro σ H' ⟨v, rfl, rfl⟩
      o_args
      exact k
/-! ### what repr can show -/
structure Atom (d : PyData) : Prop where
  sh : d.showable = true
  nd : d.hasDict = false
  dp : d.depth ≤ 10
  ln : d.shown.length ≤ 2000
theorem lg_small {n : Int} (h : n.natAbs < 2 ^ 60) : n.natAbs.log2 < 1920 := by
  by_cases z : n.natAbs = 0
  · rw [z]
    decide
  · exact Nat.lt_trans ((Nat.log2_lt z).2 h) (by decide)
theorem Atom.int {n : Int} (h : n.natAbs < 2 ^ 60) : Atom (.int n) := ⟨by simp only [PyData.showable, lg_small h, decide_true], rfl, by simp only [PyData.depth]; omega, by
  have := PyProof.Rows.int_text_len_1921 (lg_small h)
  simp only [PyData.shown]
  exact Nat.le_trans this (by decide)⟩
theorem Atom.bl (b : Bool) : Atom (.bool b) := by cases b <;> exact ⟨rfl, rfl, by simp only [PyData.depth]; omega, by decide +kernel⟩
theorem Atom.non : Atom .none := ⟨rfl, rfl, by simp only [PyData.depth]; omega, by decide +kernel⟩
/-- x can be shown -/
def Rpr (K : PySem.W.Frag) (H : Hp) (x : V) : Prop := ∃ d, Dp K H x d ∧ d.showable = true ∧ d.hasDict = false ∧ d.depth ≤ 100 ∧ d.shown.length ≤ sizeLine ∧ (∀ i, d = .int i → i.natAbs.log2 < 1920)
theorem Rpr.int {K : PySem.W.Frag} {H : Hp} {n : Int} (h : n.natAbs < 2 ^ 60) : Rpr K H (.int n) := ⟨_, .int n, (Atom.int h).sh, rfl, Nat.le_trans (Atom.int h).dp (by decide), Nat.le_trans (Atom.int h).ln (by decide), fun i e => by cases e; exact lg_small h⟩
theorem atoms_sh : ∀ {ds : List PyData}, (∀ d ∈ ds, Atom d) → PyData.showableAll ds = true ∧ PyData.hasDictAll ds = false ∧ PyData.depthAll ds ≤ 10 ∧ ((PyData.shownAll ds).map (·.length)).sum ≤ 2000 * ds.length ∧ (PyData.shownAll ds).length = ds.length
  | [], _ => ⟨rfl, rfl, by simp only [PyData.depthAll]; omega, by simp [PyData.shownAll], by simp [PyData.shownAll]⟩
  | d :: ds, h => by
    obtain ⟨h1, h2, h3, h4, h5⟩ := atoms_sh (ds := ds) fun e he => h e (List.mem_cons_of_mem _ he)
    have A := h d List.mem_cons_self
    refine ⟨?_, ?_, ?_, ?_, ?_⟩
    · simp only [PyData.showableAll, A.sh, h1, Bool.and_self]
    · simp only [PyData.hasDictAll, A.nd, h2, Bool.or_self]
    · unfold PyData.depthAll
      exact Nat.max_le.mpr ⟨A.dp, h3⟩
    · have := A.ln
      simp only [PyData.shownAll, List.map_cons, List.sum_cons, List.length_cons]
      omega
    · simp only [PyData.shownAll, List.length_cons, h5]
theorem Rpr.tup {K : PySem.W.Frag} {H : Hp} {t : Addr} {xs : List V} {ds : List PyData} (h : H t = some (.tup xs)) (hd : DpAll K H xs ds) (ha : ∀ d ∈ ds, Atom d) (hl : ds.length ≤ 10) : Rpr K H (.ref t) := by
  obtain ⟨h1, h2, h3, h4, h5⟩ := atoms_sh ha
  refine ⟨.tuple ds, .tup (SqT.of h) hd, by simp only [PyData.showable, h1], by simp only [PyData.hasDict, h2], by simp only [PyData.depth]; omega, ?_, fun i e => nomatch e⟩
  simp only [PyData.shown]
  have := tupleText_len_le (PyData.shownAll ds)
  rw [sizeLine_eq]
  omega
/-- repr of one value twice -/
theorem Rpr.ask {K : PySem.W.Frag} {H : Hp} {x : V} (h : Rpr K H x) : ∃ z : Str, ∀ Q : VK, Q (.str z) H → rReprD K [x] H Q := by
  obtain ⟨d, h1, h2, h3, h4, h5, h6⟩ := h
  exact ⟨d.shown, fun Q q => ⟨x, d, rfl, h1, h2, h3, h4, h5, h6, q⟩⟩
theorem Rpr.ask2 {K : PySem.W.Frag} {H H' : Hp} {x y : V} {d : PyData} (h1 : Dp K H x d) (h2 : Dp K H' y d) (a : d.showable = true) (b : d.hasDict = false) (c : d.depth ≤ 100) (e : d.shown.length ≤ sizeLine) (f : ∀ i, d = .int i → i.natAbs.log2 < 1920) : ∃ z : Str, (∀ Q : VK, Q (.str z) H → rReprD K [x] H Q) ∧ ∀ Q : VK, Q (.str z) H' → rReprD K [y] H' Q :=
  ⟨d.shown, fun Q q => ⟨x, d, rfl, h1, a, b, c, e, f, q⟩, fun Q q => ⟨y, d, rfl, h2, a, b, c, e, f, q⟩⟩
/-! ### the law's looks at a set -/
def sp__law_agrees (K : PySem.W.Frag) (C : Addr) : Sp := fun vs H Q _ => ∃ (e h : Addr) (F G : List Addr) (rs : List Run) (hs : List Deed), vs = [.ref e, .ref h] ∧ SpA C e F rs H ∧ HistA h G hs H ∧ hs.length < 10000 ∧ rs.length < 20000 ∧ (∀ o, Mem o rs ↔ hasF hs o = true) ∧ ∀ H', Same H H' → Q (.bl true) H'
set_option maxHeartbeats 0 in
theorem ok__law_agrees (T : Txt K mg) : FnOk P w K mg base CX0 4 T.a__law_agrees T.fd__law_agrees ["spans", "history"] (sp__law_agrees K T.c_Spans) := by
  have S := sc__law_agrees
  refine T.F__law_agrees.ok S (fun vs H Q E h => ?_) (fun cdv A outer s H vs Q E hr h => ?_)
  · obtain ⟨e, h, F, G, rs, hs, rfl, _⟩ := h
    rfl
  · obtain ⟨e, h, F, G, rs, hs, rfl, hS, hA, z1, z2, hm, k⟩ := h
    have hS := hS.less (G := []) (fun _ z => nomatch z)
    have hA := hA.less (G := []) (fun _ z => nomatch z)
    obtain ⟨dx, l, ts, he, _⟩ := id hS
    refine ⟨_, (pss_cons (ps_set (i := 2) S.nd rfl (Or.inl rfl) (pe_call (ok__law_due T) (hr.mono (by decide)) rfl T.g__law_due T.F__law_due.kp T.B__law_due .nil pass0 (pa_cons (pv 1) pa_nil)))
      (pss_cons (ps_set (i := 3) S.nd rfl (Or.inl rfl) (pe_meth0 (pv 0) T.cl_Spans T.m_Spans_rows (ok_Spans_rows T) (hr.mono (by decide)) T.B_Spans_rows .nil pass0))
      (pss_cons (ps_if (pt_not (pt_val (pe_call (ok__law_pairs_are T) (hr.mono (by decide)) rfl T.g__law_pairs_are T.F__law_pairs_are.kp T.B__law_pairs_are .nil pass0 (pa_cons (pv 3) (pa_cons (pv 2) pa_nil))))) (pss_one (ps_ret pe_bl)) pss_nil)
      (pss_cons (ps_expr (pe_bm PySem.F.plainAttrs_list PySem.F.slot_list_append PySem.F.type_list_append mt_append (pv 3) (pa_cons (pe_tup (pa_cons pe_int (pa_cons pe_int pa_nil))) pa_nil)))
      (pss_cons (ps_if (pt_not (pt_val (pe_call (ok__law_pairs_are T) (hr.mono (by decide)) rfl T.g__law_pairs_are T.F__law_pairs_are.kp T.B__law_pairs_are .nil pass0 (pa_cons (pe_meth0 (pv 0) T.cl_Spans T.m_Spans_rows (ok_Spans_rows T) (hr.mono (by decide)) T.B_Spans_rows .nil pass0) (pa_cons (pv 2) pa_nil))))) (pss_one (ps_ret pe_bl)) pss_nil)
      (pss_cons (ps_if (pt_cmpR op_ne (pe_callB (id := "len") (call_lenOwn T.m_Spans_len_ (ok_Spans_len_ T) (hr.mono (by decide)) T.B_Spans_len_ pass0) (by rfl) T.b_len (by decide +kernel) (pa_cons (pv 0) pa_nil)) (pe_callB (id := "len") (call_lenK (K := K) rfl) (by rfl) T.b_len (by decide +kernel) (pa_cons (pv 2) pa_nil)) (nomark _)) (pss_one (ps_ret pe_bl)) pss_nil)
      (pss_cons (ps_set (i := 4) S.nd rfl (Or.inl rfl) (pe_meth0 (pv 0) T.cl_Spans T.m_Spans_total (ok_Spans_total T) (hr.mono (by decide)) T.B_Spans_total .nil pass0))
      (pss_cons (ps_if (PW.pt (pw_or (pt_not (pt_val (pe_call (ok__law_is_whole T) (hr.mono (by decide)) rfl T.g__law_is_whole T.F__law_is_whole.kp T.B__law_is_whole .nil pass0 (pa_cons (pv 4) pa_nil)))) (pw_or1 (pt_cmpR op_ne (pv 4) (pe_callB (id := "sum") (cr_sum rfl) (by rfl) T.b_sum (by decide +kernel) (pa_cons (pe_lc (own := [("pair", 9)]) (g := gName 9) (tt := tYes) rfl S.nd (pi_list (pv 2)) (blkOk_by (N := ["spans", "history", "due", "told", "many", "value", "deed", "end", "offset", "pair"]) (sc := defScope s__law_agrees) (by decide +kernel)) (fun _ _ _ _ _ => pg_name (i := 9) S.nd rfl (Or.inl rfl)) (fun _ _ _ _ _ => pts_nil) (fun _ _ _ _ _ => (pe_op op_sub (pe_ix (show IxR _ (rIxT K) from ix_tup) (pv 9) pe_int (fun _ _ => rfl)) (pe_ix (show IxR _ (rIxT K) from ix_tup) (pv 9) pe_int (fun _ _ => rfl))))) pa_nil)) (nomark _))))) (pss_one (ps_ret pe_bl)) pss_nil)
      (pss_cons (ps_for PassesOwn.never rfl (pi_list (pe_lst (pa_cons pe_non (pa_cons pe_bl (pa_cons pe_bl (pa_cons pe_str (pa_cons (pe_tup (pa_cons pe_int (pa_cons pe_int pa_nil))) (pa_cons (pe_lst (pa_cons pe_int pa_nil)) pa_nil)))))))) (pg_name (i := 5) S.nd rfl (Or.inl rfl)) (pss_one (ps_if (pt_cmpR (op_inOwn T.m_Spans_contains_ (ok_Spans_contains_ T) (hr.mono (by decide)) T.B_Spans_contains_ pass0) (pv 5) (pv 0) rfl) (pss_one (ps_ret pe_bl)) pss_nil)))
      (pss_cons (ps_for PassesOwn.never rfl (pi_list (pv 1)) (pg_name (i := 6) S.nd rfl (Or.inl rfl)) (pss_one (ps_for PassesOwn.never rfl (pi_list (pe_lst (pa_cons (pe_ix ix_tup (pv 6) pe_int (fun _ _ => rfl)) (pa_cons (pe_ix ix_tup (pv 6) pe_int (fun _ _ => rfl)) pa_nil)))) (pg_name (i := 7) S.nd rfl (Or.inl rfl)) (pss_one (ps_for PassesOwn.never rfl (pi_list (pe_lst (pa_cons (pe_op op_sub (pv 7) pe_int) (pa_cons (pv 7) (pa_cons (pe_op op_add (pv 7) pe_int) pa_nil))))) (pg_name (i := 8) S.nd rfl (Or.inl rfl)) (pss_one (ps_if (pt_cmpR op_ne (pe_cmpR (op_inOwn T.m_Spans_contains_ (ok_Spans_contains_ T) (hr.mono (by decide)) T.B_Spans_contains_ pass0) (pv 8) (pv 0) rfl) (pe_call (ok__law_has T) (hr.mono (by decide)) rfl T.g__law_has T.F__law_has.kp T.B__law_has .nil pass0 (pa_cons (pv 1) (pa_cons (pv 8) pa_nil))) (nomark _)) (pss_one (ps_ret pe_bl)) pss_nil)))))))
      (pss_one (ps_ret pe_bl)))))))))))), ?_⟩
    refine st__law_agrees ?_
    o_args
    refine ⟨h, _, hs, rfl, hA, z1, fun m us due H1 nm s1 r1 n1 m1 => ?_⟩
    have ed : due = rs := n1.uniq hS.offs.nrm fun o => by rw [m1 o, hm o]
    subst ed
    have S1 := hS.same s1
    have e1 := s1 _ _ he
    o_args
    refine ⟨e, dx, _, rfl, e1, rfl, ?_⟩
    o_args
    refine ⟨e, _, due, rfl, S1, fun t1 us1 H2 nt s2 r2 => ?_⟩
    have S2 := S1.own nt s2
    have r12 := r1.same s2
    have nm2 : m ∉ [t1] := fun z => ne_of_none r1.1 nt (List.mem_singleton.mp z)
    have A2 := (hA.same s1).own nt s2
    o_args
    refine ⟨t1, m, us1, us, due, rfl, r2, r12, by omega, ?_⟩
    o_args
    refine ⟨isList r2.1, ?_⟩
    o_args
    refine newTup (by simp) fun u H3 nu s3 h3 => ?_
    o_args
    refine appList (s3 _ _ r2.1) (by rw [List.length_map, r2.len]; omega) fun H4 s4 h4 => ?_
    have c4 : Ch [t1] H2 H4 := (Ch.of s3).trans (Ch.ofX (by simp) s4 h4)
    have S4 := S2.ch c4 (fun _ z => z)
    have A4 := A2.ch c4 (fun _ z => z)
    have r4 := r12.ch c4 nm2 (fun t ht z => (r12.2.lst_ne r2.1 t ht) (List.mem_singleton.mp z))
    have SS : Same H H4 := Ch.same (((Ch.of (s1.trans s2)).trans c4).drop (none_of s1 nt))
    have e4 := SS _ _ he
    have S4 := S4.less (G := []) (fun _ z => nomatch z)
    have A4 := A4.less (G := []) (fun _ z => nomatch z)
    clear S2 A2 r2 r12 c4 h3 h4 s3 s4 nu
    o_args
    refine ⟨e, dx, _, rfl, e4, rfl, ?_⟩
    o_args
    refine ⟨e, _, due, rfl, S4, fun t2 us2 H5 nt2 s5 r5 => ?_⟩
    have r45 := r4.same s5
    have S5 := S4.same s5
    have e5 := s5 _ _ e4
    have A5 := A4.same s5
    o_args
    refine ⟨t2, m, us2, us, due, rfl, r5, r45, by omega, ?_⟩
    o_args
    refine ⟨e, dx, _, rfl, e5, e, _, due, rfl, S5, _, rfl, by omega, by omega, ?_⟩
    o_args
    refine lenA (SeqA.lst r45.1) ?_
    o_args
    rw [List.length_map, r45.len, decide_eq_true rfl]
    o_args
    refine ⟨e, dx, _, rfl, e5, rfl, ?_⟩
    o_args
    refine ⟨e, _, due, rfl, S5, by omega, fun H6 s6 => ?_⟩
    have r6 := r45.same s6
    have S6 := S5.same s6
    have e6 := s6 _ _ e5
    have A6 := A5.same s6
    have SS6 := (SS.trans s5).trans s6
    clear S5 A5 r5 r45 s6 s5 S4 A4 r4 e4 e5
    o_args
    refine ⟨_, rfl, ?_⟩
    o_args
    refine lcG (a := m) (xs := us.map V.ref) (fun D i vs H' => SameX D H6 H' ∧ vs = ((due.take i).map fun r => r.2 - r.1).map V.int) (fun R h => ⟨_, rfl, h⟩) (SqL.of r6.1) (by rw [List.length_map, r6.len]; omega) (fun D _ => ⟨SameX.upd, by simp⟩) (fun D i vs H' hD hP => SqL.of (hP.1 _ _ (ne_of_none r6.1 hD) r6.1)) (fun D i v vs H' hD hv hle hd hP => ?_) (fun D vs H7 hD hd hle hP => ?_)
    · obtain ⟨s, e1⟩ := hP
      have il := getq_lt hv
      rw [List.length_map, r6.len] at il
      obtain ⟨t, _, e2, ht⟩ := r6.at (List.getElem?_eq_getElem il)
      rw [e2] at hv
      cases hv
      have tk : due.take (i + 1) = due.take i ++ [due[i]] := by rw [List.take_succ, List.getElem?_eq_getElem il]; rfl
      generalize due[i] = r at tk ht
      have ht' := s _ _ (ne_of_none ht hD) ht
      intro Y N hY hN
      dsimp only [tYes]
      rw [if_pos rfl]
      o_args
      exact hY _ H' hd ⟨s.upd', by rw [e1, tk]; simp⟩
    obtain ⟨s7, e7⟩ := hP
    rw [List.length_map, r6.len, List.take_length] at e7
    subst e7
    have S67 := Same.ofX hD s7
    have S7 := S6.same S67
    have e7 := S67 _ _ e6
    have A7 := A6.same S67
    have SS7 := SS6.trans S67
    refine ⟨D, _, rfl, SqL.of hd, ?_⟩
    o_args
    refine brDT rfl ?_
    clear S6 A6 r6 e6 SS6 s7 S67
    o_args
    refine newTup (by simp) fun u8 H8 n8 s8 h8 => ?_
    o_args
    refine newList (by simp) fun u9 H9 n9 s9 h9 => ?_
    o_args
    refine newList (by simp) fun u10 H10 n10 s10 h10 => ?_
    have t8 := s10 _ _ (s9 _ _ h8)
    have t9 := s10 _ _ h9
    have SA := (s8.trans s9).trans s10
    have S10 := S7.same SA
    have e10 := SA _ _ e7
    have A10 := A7.same SA
    have SS10 := SS7.trans SA
    clear S7 A7 e7 SS7 SA s8 s9 s10 h8 h9 n8 n9 hd
    have odd : ∀ (i : Nat) x, ([.non, .bl true, .bl false, .str "1", .ref u8, .ref u9] : List V)[i]? = some x → IntK K H10 x false := fun i x hx => by
      have := getq_lt hx
      have : i = 0 ∨ i = 1 ∨ i = 2 ∨ i = 3 ∨ i = 4 ∨ i = 5 := by simp at this; omega
      rcases this with rfl | rfl | rfl | rfl | rfl | rfl <;> cases hx
      · exact intK_no (.base .non) (i := false) (b := false) (by decide +kernel) (by decide +kernel) rfl
      · exact intK_no (.base (.bl true)) (i := true) (b := true) (by decide +kernel) (by decide +kernel) rfl
      · exact intK_no (.base (.bl false)) (i := true) (b := true) (by decide +kernel) (by decide +kernel) rfl
      · exact intK_no (.base (.str _)) (i := false) (b := false) (by decide +kernel) (by decide +kernel) rfl
      · exact intK_no (.base (.tup t8)) (i := false) (b := false) (by decide +kernel) (by decide +kernel) rfl
      · exact intK_no (.base (.lst t9)) (i := false) (b := false) (by decide +kernel) (by decide +kernel) rfl
    refine overL (SqL.of h10) (for_list (K := K) (a := u10) (xs := [.non, .bl true, .bl false, .str "1", .ref u8, .ref u9]) (fun i σ H' => ∃ v, σ = [some (.ref e), some (.ref h), some (.ref m), some (.ref t1), some (.int (sumR due)), v, none, none, none, none] ∧ H' = H10) ⟨none, rfl, rfl⟩ (fun i σ H' _ ⟨_, _, e⟩ => by rw [e]; exact SqL.of h10) ?_ ?_)
    · rintro i x σ H' hx ⟨v, rfl, rfl⟩
      o_args
      refine ⟨e, dx, _, rfl, e10, e, _, due, x, rfl, S10, .inr ⟨odd i x hx, false, rfl, ?_⟩⟩
      o_args
      refine brF rfl ?_
      o_args
      exact ⟨_, rfl, rfl⟩
    rintro σ H' ⟨v5, rfl, eH⟩
    obtain rfl : H10 = H' := eH.symm
    obtain ⟨hts, hh, HA, _⟩ := id A10
    have lz := HA.1
    have fine : ∀ (H' : Hp) (o : Int) (Q : VK) (E : XK), Same H10 H' → (∀ b H'', Same H' H'' → b = hasF hs o → Q (.bl (id b)) H'') → rOwnIn T.c_Spans id (sp_Spans_contains_ K T.c_Spans) E (.int o) (.ref e) H' Q := fun H' o Q E s q =>
      ⟨e, dx, _, rfl, s _ _ e10, e, _, due, .int o, rfl, S10.same s, .inl ⟨o, rfl, fun b H'' s2 hb => ⟨b, rfl, q b H'' s2 (by
        have := hm o
        cases b with
        | true => exact (this.mp (hb.mp rfl)).symm
        | false =>
          cases c : hasF hs o with
          | false => rfl
          | true => exact nomatch (hb.mpr (this.mpr c)))⟩⟩⟩
    o_args
    refine overL (SqL.of hh) (for_list (K := K) (a := h) (xs := hts.map V.ref) (fun i σ H' => ∃ a b c, σ = [some (.ref e), some (.ref h), some (.ref m), some (.ref t1), some (.int (sumR due)), v5, a, b, c, none] ∧ Same H10 H') ⟨none, none, none, rfl, Same.refl _⟩ (fun i σ H' _ ⟨_, _, _, _, s⟩ => SqL.of (s _ _ hh)) ?_ ?_)
    · rintro i x σ H11 hx ⟨a, b, c, rfl, s11⟩
      have il := getq_lt hx
      rw [List.length_map, lz] at il
      obtain ⟨t, _, e2, ht⟩ := HA.at (List.getElem?_eq_getElem il)
      rw [e2] at hx
      cases hx
      generalize hs[i] = d at ht
      have ht1 := s11 _ _ ht
      o_args
      refine newList (by simp) fun L H12 nL s12 h12 => ?_
      o_args
      refine overL (SqL.of h12) (for_list (K := K) (a := L) (xs := [.int d.2.1, .int d.2.2]) (fun i σ H' => ∃ b c, σ = [some (.ref e), some (.ref h), some (.ref m), some (.ref t1), some (.int (sumR due)), v5, some (.ref t), b, c, none] ∧ Same H12 H') ⟨_, _, rfl, Same.refl _⟩ (fun i σ H' _ ⟨_, _, _, s⟩ => SqL.of (s _ _ h12)) ?_ ?_)
      · rintro j y σ H13 hy ⟨b, c, rfl, s13⟩
        obtain ⟨z, rfl⟩ : ∃ z, y = .int z := by
          have hi := getq_lt hy
          match j, hi with
          | 0, _ => cases hy; exact ⟨_, rfl⟩
          | 1, _ => cases hy; exact ⟨_, rfl⟩
        o_args
        refine newList (by simp) fun M H14 nM s14 h14 => ?_
        o_args
        refine overL (SqL.of h14) (for_list (K := K) (a := M) (xs := [.int (z - 1), .int z, .int (z + 1)]) (fun i σ H' => ∃ c, σ = [some (.ref e), some (.ref h), some (.ref m), some (.ref t1), some (.int (sumR due)), v5, some (.ref t), some (.int z), c, none] ∧ Same H14 H') ⟨_, rfl, Same.refl _⟩ (fun i σ H' _ ⟨_, _, s⟩ => SqL.of (s _ _ h14)) ?_ ?_)
        · rintro q y σ H15 hy ⟨c, rfl, s15⟩
          obtain ⟨o, rfl⟩ : ∃ z, y = .int z := by
            have hi := getq_lt hy
            match q, hi with
            | 0, _ => cases hy; exact ⟨_, rfl⟩
            | 1, _ => cases hy; exact ⟨_, rfl⟩
            | 2, _ => cases hy; exact ⟨_, rfl⟩
          o_args
          refine fine H15 o _ _ ((((s11.trans s12).trans s13).trans s14).trans s15) fun b H16 s16 hb => ?_
          o_args
          refine ⟨h, _, hs, o, rfl, A10.same (((((s11.trans s12).trans s13).trans s14).trans s15).trans s16), ?_⟩
          o_args
          rw [show decide (id b = hasF hs o) = true from decide_eq_true hb]
          o_args
          exact ⟨_, rfl, s15.trans s16⟩
        · rintro σ H15 ⟨c, rfl, s15⟩
          o_args
          exact ⟨_, _, rfl, (s13.trans s14).trans s15⟩
      · rintro σ H13 ⟨b, c, rfl, s13⟩
        o_args
        exact ⟨_, _, _, rfl, (s11.trans s12).trans s13⟩
    · rintro σ H11 ⟨a, b, c, rfl, s11⟩
      o_args
      exact k H11 (SS10.trans s11)
/-! ### sets made -/
/-- C(x, ..), all pairs good -/
theorem make_spans {C Ce : Addr} {xs : List V} {ps : List Run} {H : Hp} {G' : Addr → Hp → Prop} {E : XK} (hl : xs.length = ps.length) (hz : xs.length < 50000) (hp : ∀ (i : Nat) x r, xs[i]? = some x → ps[i]? = some r → PairAt H x r ∧ 0 ≤ r.1 ∧ r.1 ≤ r.2)
    (k : ∀ e rs H', H e = none → Same H H' → (∀ G, Al G H → SpA C e G rs H') → rs.length ≤ ps.length → (∀ o, Mem o rs ↔ Mem o ps) → G' e H') :
    ∀ x dx, H x = none → H dx = none → dx ≠ x → starSp 1 (sp_Spans_init_ K C Ce) (.ref x :: xs) (upd (upd H dx (.own x)) x (.ins C dx [])) (fun v H2 => v = .non ∧ G' x H2) E := by
  intro x dx hx hdx ne
  have s0 : Same H (upd (upd H dx (.own x)) x (.ins C dx [])) := fun b o e => by rw [upd_ne (ne_of_none e hx), upd_ne (ne_of_none e hdx)]; exact e
  have h0 : upd (upd H dx (.own x)) x (.ins C dx []) x = some (.ins C dx []) := upd_same
  generalize upd (upd H dx (.own x)) x (.ins C dx []) = H0 at s0 h0
  refine ⟨[.ref x], xs, rfl, rfl, Nat.le_trans (Nat.le_of_lt hz) (by decide), fun p hp0 => ?_⟩
  have s1 : Same H0 (upd H0 p (.tup xs)) := Same.new hp0
  have h1 : upd H0 p (.tup xs) p = some (.tup xs) := upd_same
  generalize upd H0 p (.tup xs) = H1 at s1 h1
  have S := s0.trans s1
  refine ⟨x, p, dx, xs, rfl, s1 _ _ h0, h1, hz, .inl ⟨ps, hl, fun i y r a b => ⟨(hp i y r a b).1.same S, (hp i y r a b).2⟩, fun H' rs c hS z m => ⟨rfl, ?_⟩⟩⟩
  exact k x rs H' hx (Ch.same (((Ch.of S).trans c).drop hx)) (fun G A => hS G (A.same S) (A.new hx)) z m
/-- C(x, ..), one of them bad -/
theorem make_bad {C Ce : Addr} {xs : List V} {H : Hp} {R : Addr → VK} {E : XK} {j : Nat} {x0 : V} (hz : xs.length < 50000) (hj : xs[j]? = some x0) (hb : BadPair K H x0) (hg : ∀ (i : Nat) y, i < j → xs[i]? = some y → ∃ r : Run, PairAt H y r ∧ 0 ≤ r.1 ∧ r.1 ≤ r.2) (hE : Err Ce "number" x0 H E) :
    ∀ x dx, H x = none → H dx = none → dx ≠ x → starSp 1 (sp_Spans_init_ K C Ce) (.ref x :: xs) (upd (upd H dx (.own x)) x (.ins C dx [])) (R x) E := by
  intro x dx hx hdx ne
  have s0 : Same H (upd (upd H dx (.own x)) x (.ins C dx [])) := fun b o e => by rw [upd_ne (ne_of_none e hx), upd_ne (ne_of_none e hdx)]; exact e
  have h0 : upd (upd H dx (.own x)) x (.ins C dx []) x = some (.ins C dx []) := upd_same
  generalize upd (upd H dx (.own x)) x (.ins C dx []) = H0 at s0 h0
  refine ⟨[.ref x], xs, rfl, rfl, Nat.le_trans (Nat.le_of_lt hz) (by decide), fun p hp0 => ?_⟩
  have s1 : Same H0 (upd H0 p (.tup xs)) := Same.new hp0
  have h1 : upd H0 p (.tup xs) p = some (.tup xs) := upd_same
  generalize upd H0 p (.tup xs) = H1 at s1 h1
  have S := s0.trans s1
  refine ⟨x, p, dx, xs, rfl, s1 _ _ h0, h1, hz, .inr ⟨j, x0, hj, hb.same S, fun i y a b => ?_, fun d H2 s2 h => hE d H2 (S.trans s2) h⟩⟩
  obtain ⟨r, g1, g2⟩ := hg i y a b
  exact ⟨r, g1.same S, g2⟩
def sp__law_spans (K : PySem.W.Frag) (C : Addr) : Sp := fun vs H Q _ => ∃ (q : Addr) (xs : List V) (ps : List Run), vs = [.ref q] ∧ H q = some (.lst xs) ∧ xs.length = ps.length ∧ xs.length ≤ 8 ∧ (∀ (i : Nat) x r, xs[i]? = some x → ps[i]? = some r → PairAt H x r ∧ 0 ≤ r.1 ∧ r.1 ≤ r.2) ∧
  ∀ e rs H', H e = none → Same H H' → (∀ G, Al G H → SpA C e G rs H') → rs.length ≤ ps.length → (∀ o, Mem o rs ↔ Mem o ps) → Q (.ref e) H'
set_option maxHeartbeats 0 in
theorem ok__law_spans (T : Txt K mg) : FnOk P w K mg base CX0 7 T.a__law_spans T.fd__law_spans ["pairs"] (sp__law_spans K T.c_Spans) := by
  have S := sc__law_spans
  refine T.F__law_spans.ok S (fun vs H Q E h => ?_) (fun cdv A outer s H vs Q E hr h => ?_)
  · obtain ⟨q, xs, ps, rfl, _⟩ := h
    rfl
  · obtain ⟨q, xs, ps, rfl, hq, hl, h8, hp, k⟩ := h
    refine ⟨_, (pss_cons (ps_set (i := 1) S.nd rfl (Or.inl rfl) (pe_callB (id := "len") (call_lenK (K := K) rfl) (by rfl) T.b_len (by decide +kernel) (pa_cons (pv 0) pa_nil)))
      (pss_cons (ps_if (pt_cmpR op_eq (pv 1) pe_int (nomark _)) (pss_one (ps_ret (pe_makeR0 T.M_Spans (ok_Spans_init_ T) (hr.mono (by decide)) rfl T.g_Spans passL))) pss_nil)
      (pss_cons (ps_if (pt_cmpR op_eq (pv 1) pe_int (nomark _)) (pss_one (ps_ret (StX.pe_makeR T.M_Spans (ok_Spans_init_ T) (hr.mono (by decide)) rfl T.g_Spans passL (pa_cons (pe_ix ix_list (pv 0) pe_int (fun _ _ => rfl)) pa_nil)))) pss_nil)
      (pss_cons (ps_if (pt_cmpR op_eq (pv 1) pe_int (nomark _)) (pss_one (ps_ret (StX.pe_makeR T.M_Spans (ok_Spans_init_ T) (hr.mono (by decide)) rfl T.g_Spans passL (pa_cons (pe_ix ix_list (pv 0) pe_int (fun _ _ => rfl)) (pa_cons (pe_ix ix_list (pv 0) pe_int (fun _ _ => rfl)) pa_nil))))) pss_nil)
      (pss_cons (ps_if (pt_cmpR op_eq (pv 1) pe_int (nomark _)) (pss_one (ps_ret (StX.pe_makeR T.M_Spans (ok_Spans_init_ T) (hr.mono (by decide)) rfl T.g_Spans passL (pa_cons (pe_ix ix_list (pv 0) pe_int (fun _ _ => rfl)) (pa_cons (pe_ix ix_list (pv 0) pe_int (fun _ _ => rfl)) (pa_cons (pe_ix ix_list (pv 0) pe_int (fun _ _ => rfl)) pa_nil)))))) pss_nil)
      (pss_cons (ps_if (pt_cmpR op_eq (pv 1) pe_int (nomark _)) (pss_one (ps_ret (StX.pe_makeR T.M_Spans (ok_Spans_init_ T) (hr.mono (by decide)) rfl T.g_Spans passL (pa_cons (pe_ix ix_list (pv 0) pe_int (fun _ _ => rfl)) (pa_cons (pe_ix ix_list (pv 0) pe_int (fun _ _ => rfl)) (pa_cons (pe_ix ix_list (pv 0) pe_int (fun _ _ => rfl)) (pa_cons (pe_ix ix_list (pv 0) pe_int (fun _ _ => rfl)) pa_nil))))))) pss_nil)
      (pss_cons (ps_if (pt_cmpR op_eq (pv 1) pe_int (nomark _)) (pss_one (ps_ret (StX.pe_makeR T.M_Spans (ok_Spans_init_ T) (hr.mono (by decide)) rfl T.g_Spans passL (pa_cons (pe_ix ix_list (pv 0) pe_int (fun _ _ => rfl)) (pa_cons (pe_ix ix_list (pv 0) pe_int (fun _ _ => rfl)) (pa_cons (pe_ix ix_list (pv 0) pe_int (fun _ _ => rfl)) (pa_cons (pe_ix ix_list (pv 0) pe_int (fun _ _ => rfl)) (pa_cons (pe_ix ix_list (pv 0) pe_int (fun _ _ => rfl)) pa_nil)))))))) pss_nil)
      (pss_cons (ps_if (pt_cmpR op_eq (pv 1) pe_int (nomark _)) (pss_one (ps_ret (StX.pe_makeR T.M_Spans (ok_Spans_init_ T) (hr.mono (by decide)) rfl T.g_Spans passL (pa_cons (pe_ix ix_list (pv 0) pe_int (fun _ _ => rfl)) (pa_cons (pe_ix ix_list (pv 0) pe_int (fun _ _ => rfl)) (pa_cons (pe_ix ix_list (pv 0) pe_int (fun _ _ => rfl)) (pa_cons (pe_ix ix_list (pv 0) pe_int (fun _ _ => rfl)) (pa_cons (pe_ix ix_list (pv 0) pe_int (fun _ _ => rfl)) (pa_cons (pe_ix ix_list (pv 0) pe_int (fun _ _ => rfl)) pa_nil))))))))) pss_nil)
      (pss_cons (ps_if (pt_cmpR op_eq (pv 1) pe_int (nomark _)) (pss_one (ps_ret (StX.pe_makeR T.M_Spans (ok_Spans_init_ T) (hr.mono (by decide)) rfl T.g_Spans passL (pa_cons (pe_ix ix_list (pv 0) pe_int (fun _ _ => rfl)) (pa_cons (pe_ix ix_list (pv 0) pe_int (fun _ _ => rfl)) (pa_cons (pe_ix ix_list (pv 0) pe_int (fun _ _ => rfl)) (pa_cons (pe_ix ix_list (pv 0) pe_int (fun _ _ => rfl)) (pa_cons (pe_ix ix_list (pv 0) pe_int (fun _ _ => rfl)) (pa_cons (pe_ix ix_list (pv 0) pe_int (fun _ _ => rfl)) (pa_cons (pe_ix ix_list (pv 0) pe_int (fun _ _ => rfl)) pa_nil)))))))))) pss_nil)
      (pss_one (ps_ret (StX.pe_makeR T.M_Spans (ok_Spans_init_ T) (hr.mono (by decide)) rfl T.g_Spans passL (pa_cons (pe_ix ix_list (pv 0) pe_int (fun _ _ => rfl)) (pa_cons (pe_ix ix_list (pv 0) pe_int (fun _ _ => rfl)) (pa_cons (pe_ix ix_list (pv 0) pe_int (fun _ _ => rfl)) (pa_cons (pe_ix ix_list (pv 0) pe_int (fun _ _ => rfl)) (pa_cons (pe_ix ix_list (pv 0) pe_int (fun _ _ => rfl)) (pa_cons (pe_ix ix_list (pv 0) pe_int (fun _ _ => rfl)) (pa_cons (pe_ix ix_list (pv 0) pe_int (fun _ _ => rfl)) (pa_cons (pe_ix ix_list (pv 0) pe_int (fun _ _ => rfl)) pa_nil)))))))))))))))))))), ?_⟩
    refine st__law_spans ?_
    o_args
    refine lenA (SeqA.lst hq) ?_
    match xs, h8 with
    | [], _ =>
      rw [show (([] : List V).length : Int) = 0 from rfl]
      o_args
      exact make_spans hl (by simp) hp k
    | [x0], _ =>
      rw [show (([x0] : List V).length : Int) = 1 from rfl]
      o_args
      exact make_spans hl (by simp) hp k
    | [x0, x1], _ =>
      rw [show (([x0, x1] : List V).length : Int) = 2 from rfl]
      o_args
      exact make_spans hl (by simp) hp k
    | [x0, x1, x2], _ =>
      rw [show (([x0, x1, x2] : List V).length : Int) = 3 from rfl]
      o_args
      exact make_spans hl (by simp) hp k
    | [x0, x1, x2, x3], _ =>
      rw [show (([x0, x1, x2, x3] : List V).length : Int) = 4 from rfl]
      o_args
      exact make_spans hl (by simp) hp k
    | [x0, x1, x2, x3, x4], _ =>
      rw [show (([x0, x1, x2, x3, x4] : List V).length : Int) = 5 from rfl]
      o_args
      exact make_spans hl (by simp) hp k
    | [x0, x1, x2, x3, x4, x5], _ =>
      rw [show (([x0, x1, x2, x3, x4, x5] : List V).length : Int) = 6 from rfl]
      o_args
      exact make_spans hl (by simp) hp k
    | [x0, x1, x2, x3, x4, x5, x6], _ =>
      rw [show (([x0, x1, x2, x3, x4, x5, x6] : List V).length : Int) = 7 from rfl]
      o_args
      exact make_spans hl (by simp) hp k
    | [x0, x1, x2, x3, x4, x5, x6, x7], _ =>
      rw [show (([x0, x1, x2, x3, x4, x5, x6, x7] : List V).length : Int) = 8 from rfl]
      o_args
      exact make_spans hl (by simp) hp k
/-! ### what is refused -/
/-- a value that is no pair and can be shown -/
def BadV (K : PySem.W.Frag) (H : Hp) (v : V) : Prop := BadPair K H v ∧ Rpr K H v
theorem less_neg {K : PySem.W.Frag} {H : Hp} {n lo : Int} (h : n < lo) : Less K H (.int n) lo := .inl ⟨n, rfl, h⟩
theorem less_bl {K : PySem.W.Frag} {H : Hp} {b : Bool} {lo : Int} : Less K H (.bl b) lo := .inr (intK_no (.base (.bl b)) (i := true) (b := true) (by decide +kernel) (by decide +kernel) rfl)
theorem less_non {K : PySem.W.Frag} {H : Hp} {lo : Int} : Less K H .non lo := .inr (intK_no (.base .non) (i := false) (b := false) (by decide +kernel) (by decide +kernel) rfl)
theorem less_str {K : PySem.W.Frag} {H : Hp} {z : Str} {lo : Int} : Less K H (.str z) lo := .inr (intK_no (.base (.str _)) (i := false) (b := false) (by decide +kernel) (by decide +kernel) rfl)
theorem less_tup {K : PySem.W.Frag} {H : Hp} {t : Addr} {xs : List V} {lo : Int} (h : H t = some (.tup xs)) : Less K H (.ref t) lo := .inr (intK_no (.base (.tup h)) (i := false) (b := false) (by decide +kernel) (by decide +kernel) rfl)
theorem noseq {K : PySem.W.Frag} {H : Hp} {x : V} {n : String} (t : TyX K H x (.type n)) (h1 : kitB n "list" = some false) (h2 : kitB n "tuple" = some false) : BadPair K H x := .inl (seqK_ty t h1 h2)
theorem bad2 {K : PySem.W.Frag} {H : Hp} {t : Addr} {a b : V} (h : H t = some (.tup [a, b])) (e : BadEnds K H a b) : BadPair K H (.ref t) := .inr ⟨t, _, rfl, SeqA.tup h, .inr ⟨a, b, rfl, e⟩⟩
theorem atoms2 {a b : PyData} (h1 : Atom a) (h2 : Atom b) : ∀ d ∈ [a, b], Atom d := fun d hd => by
  rcases List.mem_cons.mp hd with e | hd
  · rw [e]; exact h1
  · rw [List.mem_singleton.mp hd]; exact h2
theorem Atom.str {z : Str} (h : (PyData.str z).shown.length ≤ 2000) : Atom (.str z) := ⟨rfl, rfl, by simp only [PyData.depth]; omega, h⟩
def sp__law_bad_pair (K : PySem.W.Frag) : Sp := fun vs H Q _ => ∃ (a : Addr) (F : List Addr), vs = [.ref a] ∧ Box a F H ∧ Al F H ∧ ∀ v H', (∀ H'', Ch (a :: F) H' H'' → BadV K H'' v) → Box a F H' → Ch [a] H H' → Q v H'
set_option maxHeartbeats 0 in
theorem ok__law_bad_pair (T : Txt K mg) : FnOk P w K mg base CX0 2 T.a__law_bad_pair T.fd__law_bad_pair ["box"] (sp__law_bad_pair K) := by
  have S := sc__law_bad_pair
  refine T.F__law_bad_pair.ok S (fun vs H Q E h => ?_) (fun cdv A outer s H vs Q E hr h => ?_)
  · obtain ⟨a, F, rfl, _⟩ := h
    rfl
  · obtain ⟨a, F, rfl, B, A0, k⟩ := h
    refine ⟨_, (pss_cons (ps_set (i := 1) S.nd rfl (Or.inl rfl) (pe_call (ok__law_draw T) (hr.mono (by decide)) rfl T.g__law_draw T.F__law_draw.kp T.B__law_draw .nil pass0 (pa_cons (pv 0) (pa_cons pe_int pa_nil))))
      (pss_cons (ps_set (i := 2) S.nd rfl (Or.inl rfl) (pe_op op_add pe_int (pe_call (ok__law_draw T) (hr.mono (by decide)) rfl T.g__law_draw T.F__law_draw.kp T.B__law_draw .nil pass0 (pa_cons (pv 0) (pa_cons pe_int pa_nil)))))
      (pss_cons (ps_set (i := 3) S.nd rfl (Or.inl rfl) (pe_call (ok__law_draw T) (hr.mono (by decide)) rfl T.g__law_draw T.F__law_draw.kp T.B__law_draw .nil pass0 (pa_cons (pv 0) (pa_cons pe_int pa_nil))))
      (pss_cons (ps_if (pt_cmpR op_eq (pv 3) pe_int (nomark _)) (pss_one (ps_ret (pe_tup (pa_cons (pe_op op_add (pv 1) (pv 2)) (pa_cons (pv 1) pa_nil))))) pss_nil)
      (pss_cons (ps_if (pt_cmpR op_eq (pv 3) pe_int (nomark _)) (pss_one (ps_ret (pe_tup (pa_cons (pe_op op_sub pe_int (pv 2)) (pa_cons (pv 1) pa_nil))))) pss_nil)
      (pss_cons (ps_if (pt_cmpR op_eq (pv 3) pe_int (nomark _)) (pss_one (ps_ret (pe_tup (pa_cons (pv 1) pa_nil)))) pss_nil)
      (pss_cons (ps_if (pt_cmpR op_eq (pv 3) pe_int (nomark _)) (pss_one (ps_ret (pe_tup (pa_cons (pv 1) (pa_cons (pe_op op_add (pv 1) (pv 2)) (pa_cons (pe_op op_add (pv 1) (pv 2)) pa_nil)))))) pss_nil)
      (pss_cons (ps_if (pt_cmpR op_eq (pv 3) pe_int (nomark _)) (pss_one (ps_ret (pv 1))) pss_nil)
      (pss_cons (ps_if (pt_cmpR op_eq (pv 3) pe_int (nomark _)) (pss_one (ps_ret pe_non)) pss_nil)
      (pss_cons (ps_if (pt_cmpR op_eq (pv 3) pe_int (nomark _)) (pss_one (ps_ret (pe_tup (pa_cons pe_bl (pa_cons (pe_op op_add (pv 1) pe_int) pa_nil))))) pss_nil)
      (pss_cons (ps_if (pt_cmpR op_eq (pv 3) pe_int (nomark _)) (pss_one (ps_ret (pe_tup (pa_cons pe_int (pa_cons pe_bl pa_nil))))) pss_nil)
      (pss_cons (ps_if (pt_cmpR op_eq (pv 3) pe_int (nomark _)) (pss_one (ps_ret (pe_tup (pa_cons pe_str (pa_cons (pv 1) pa_nil))))) pss_nil)
      (pss_cons (ps_if (pt_cmpR op_eq (pv 3) pe_int (nomark _)) (pss_one (ps_ret pe_str)) pss_nil)
      (pss_cons (ps_if (pt_cmpR op_eq (pv 3) pe_int (nomark _)) (pss_one (ps_ret (pe_tup pa_nil))) pss_nil)
      (pss_one (ps_ret (pe_tup (pa_cons (pv 1) (pa_cons pe_non pa_nil))))))))))))))))))), ?_⟩
    refine st__law_bad_pair ?_
    o_args
    refine ⟨a, F, _, rfl, B, by decide, by decide, fun lo H1 l0 l1 B1 c1 => ?_⟩
    o_args
    refine ⟨a, F, _, rfl, B1, by decide, by decide, fun m H2 m0 m1 B2 c2 => ?_⟩
    o_args
    refine ⟨a, F, _, rfl, B2, by decide, by decide, fun way H3 w0 w1 B3 c3 => ?_⟩
    have C3 := (c1.trans c2).trans c3
    have fin : ∀ v, (∀ H'', BadV K H'' v) → Q v H3 := fun v h => k v H3 (fun H'' _ => h H'') B3 C3
    have tp : ∀ {xs ds t H4}, H3 t = none → Same H3 H4 → H4 t = some (.tup xs) → (∀ H'', DpAll K H'' xs ds) → (∀ d ∈ ds, Atom d) → ds.length ≤ 10 → (∀ H'' : Hp, H'' t = some (.tup xs) → BadPair K H'' (.ref t)) → Q (.ref t) H4 := fun {xs ds t H4} nt s ht dp at' dl bp => by
      have tF : t ∉ a :: F := ((Al.cons B.al.choose_spec A0).ch C3).new nt
      refine k _ H4 (fun H'' c => ?_) (B3.same s) (C3.trans (Ch.of s))
      have h2 := c.at tF ht
      exact ⟨bp _ h2, .tup h2 (dp _) at' dl⟩
    clear c1 c2 c3 B B1 B2 k
    o_args
    refine brD (fun q => ?_) (fun q => ?_)
    · o_args
      refine newTup (by simp) fun t H4 nt s4 h4 => ?_
      o_args
      exact tp nt s4 h4 (fun _ => .cons (.int _) (.cons (.int _) .nil)) (atoms2 (.int (by omega)) (.int (by omega))) (by simp) fun H'' h => bad2 h (.inr ⟨_, rfl, by omega, less_neg (by omega)⟩)
    o_args
    refine brD (fun q => ?_) (fun q => ?_)
    · o_args
      refine newTup (by simp) fun t H4 nt s4 h4 => ?_
      o_args
      exact tp nt s4 h4 (fun _ => .cons (.int _) (.cons (.int _) .nil)) (atoms2 (.int (by omega)) (.int (by omega))) (by simp) fun H'' h => bad2 h (.inl (less_neg (by omega)))
    o_args
    refine brD (fun q => ?_) (fun q => ?_)
    · o_args
      refine newTup (by simp) fun t H4 nt s4 h4 => ?_
      o_args
      exact tp nt s4 h4 (ds := [.int lo]) (fun _ => .cons (.int _) .nil) (fun d hd => by rw [List.mem_singleton.mp hd]; exact .int (by omega)) (by simp) fun H'' h => .inr ⟨_, _, rfl, SeqA.tup h, .inl (by simp)⟩
    o_args
    refine brD (fun q => ?_) (fun q => ?_)
    · o_args
      refine newTup (by simp) fun t H4 nt s4 h4 => ?_
      o_args
      exact tp nt s4 h4 (ds := [.int lo, .int (lo + (1 + m)), .int (lo + (1 + m))]) (fun _ => .cons (.int _) (.cons (.int _) (.cons (.int _) .nil))) (fun d hd => by
        rcases List.mem_cons.mp hd with e | hd
        · rw [e]; exact .int (by omega)
        · exact atoms2 (.int (by omega)) (.int (by omega)) d hd) (by simp) fun H'' h => .inr ⟨_, _, rfl, SeqA.tup h, .inl (by simp)⟩
    o_args
    refine brD (fun q => ?_) (fun q => ?_)
    · o_args
      exact fin _ fun H'' => ⟨noseq (.base (.int lo)) (by decide +kernel) (by decide +kernel), .int (by omega)⟩
    o_args
    refine brD (fun q => ?_) (fun q => ?_)
    · o_args
      exact fin _ fun H'' => ⟨noseq (.base .non) (by decide +kernel) (by decide +kernel), .none, .non, rfl, rfl, by decide +kernel, by decide +kernel, fun i e => nomatch e⟩
    o_args
    refine brD (fun q => ?_) (fun q => ?_)
    · o_args
      refine newTup (by simp) fun t H4 nt s4 h4 => ?_
      o_args
      exact tp nt s4 h4 (fun _ => .cons (.bl true) (.cons (.int _) .nil)) (atoms2 (.bl true) (.int (by omega))) (by simp) fun H'' h => bad2 h (.inl less_bl)
    o_args
    refine brD (fun q => ?_) (fun q => ?_)
    · o_args
      refine newTup (by simp) fun t H4 nt s4 h4 => ?_
      o_args
      exact tp nt s4 h4 (fun _ => .cons (.int 0) (.cons (.bl true) .nil)) (atoms2 (.int (by decide)) (.bl true)) (by simp) fun H'' h => bad2 h (.inr ⟨_, rfl, by omega, less_bl⟩)
    o_args
    refine brD (fun q => ?_) (fun q => ?_)
    · o_args
      refine newTup (by simp) fun t H4 nt s4 h4 => ?_
      o_args
      exact tp nt s4 h4 (fun _ => .cons (.str _) (.cons (.int _) .nil)) (atoms2 (.str (by decide +kernel)) (.int (by omega))) (by simp) fun H'' h => bad2 h (.inl less_str)
    o_args
    refine brD (fun q => ?_) (fun q => ?_)
    · o_args
      exact fin _ fun H'' => ⟨noseq (.base (.str _)) (by decide +kernel) (by decide +kernel), .str "01", .str _, rfl, rfl, by decide +kernel, by decide +kernel, fun i e => nomatch e⟩
    o_args
    refine brD (fun q => ?_) (fun q => ?_)
    · o_args
      refine newTup (by simp) fun t H4 nt s4 h4 => ?_
      o_args
      exact tp nt s4 h4 (ds := []) (fun _ => .nil) (fun d hd => nomatch hd) (by simp) fun H'' h => .inr ⟨_, _, rfl, SeqA.tup h, .inl (by simp)⟩
    o_args
    refine newTup (by simp) fun t H4 nt s4 h4 => ?_
    o_args
    exact tp nt s4 h4 (fun _ => .cons (.int _) (.cons .non .nil)) (atoms2 (.int (by omega)) .non) (by simp) fun H'' h => bad2 h (.inr ⟨_, rfl, by omega, less_non⟩)
/-- two ends that make no run; the pair of them can be shown -/
def BadE (K : PySem.W.Frag) (H : Hp) (x y : V) : Prop := BadEnds K H x y ∧ ∃ a b, Dp K H x a ∧ Dp K H y b ∧ Atom a ∧ Atom b
def sp__law_bad_ends (K : PySem.W.Frag) : Sp := fun vs H Q _ => ∃ (a : Addr) (F : List Addr), vs = [.ref a] ∧ Box a F H ∧ Al F H ∧ ∀ t x y H', H' t = some (.tup [x, y]) → t ∉ a :: F → (∀ H'', Ch (a :: F) H' H'' → BadE K H'' x y) → Box a F H' → Ch [a] H H' → Q (.ref t) H'
set_option maxHeartbeats 0 in
theorem ok__law_bad_ends (T : Txt K mg) : FnOk P w K mg base CX0 2 T.a__law_bad_ends T.fd__law_bad_ends ["box"] (sp__law_bad_ends K) := by
  have S := sc__law_bad_ends
  refine T.F__law_bad_ends.ok S (fun vs H Q E h => ?_) (fun cdv A outer s H vs Q E hr h => ?_)
  · obtain ⟨a, F, rfl, _⟩ := h
    rfl
  · obtain ⟨a, F, rfl, B, A0, k⟩ := h
    refine ⟨_, (pss_cons (ps_set (i := 1) S.nd rfl (Or.inl rfl) (pe_call (ok__law_draw T) (hr.mono (by decide)) rfl T.g__law_draw T.F__law_draw.kp T.B__law_draw .nil pass0 (pa_cons (pv 0) (pa_cons pe_int pa_nil))))
      (pss_cons (ps_set (i := 2) S.nd rfl (Or.inl rfl) (pe_op op_add pe_int (pe_call (ok__law_draw T) (hr.mono (by decide)) rfl T.g__law_draw T.F__law_draw.kp T.B__law_draw .nil pass0 (pa_cons (pv 0) (pa_cons pe_int pa_nil)))))
      (pss_cons (ps_set (i := 3) S.nd rfl (Or.inl rfl) (pe_lst (pa_cons (pe_tup (pa_cons (pe_op op_add (pv 1) (pv 2)) (pa_cons (pv 1) pa_nil))) (pa_cons (pe_tup (pa_cons (pe_op op_sub pe_int (pv 2)) (pa_cons (pv 1) pa_nil))) (pa_cons (pe_tup (pa_cons pe_bl (pa_cons (pe_op op_add (pv 1) pe_int) pa_nil))) (pa_cons (pe_tup (pa_cons (pv 1) (pa_cons pe_non pa_nil))) (pa_cons (pe_tup (pa_cons pe_str (pa_cons (pv 1) pa_nil))) (pa_cons (pe_tup (pa_cons pe_int (pa_cons pe_bl pa_nil))) pa_nil))))))))
      (pss_cons (ps_set (i := 3) S.nd rfl (Or.inl rfl) (pe_op op_cat (pv 3) (pe_lst (pa_cons (pe_tup (pa_cons pe_non (pa_cons (pv 1) pa_nil))) (pa_cons (pe_tup (pa_cons (pe_op op_sub pe_int (pv 2)) (pa_cons (pe_op op_sub pe_int (pv 2)) pa_nil))) (pa_cons (pe_tup (pa_cons (pe_tup (pa_cons pe_int (pa_cons pe_int pa_nil))) (pa_cons (pv 1) pa_nil))) (pa_cons (pe_tup (pa_cons (pv 1) (pa_cons pe_str pa_nil))) pa_nil)))))))
      (pss_one (ps_ret (pe_ix ix_list (pv 3) (pe_call (ok__law_draw T) (hr.mono (by decide)) rfl T.g__law_draw T.F__law_draw.kp T.B__law_draw .nil pass0 (pa_cons (pv 0) (pa_cons pe_int pa_nil))) (fun _ _ => rfl)))))))), ?_⟩
    refine st__law_bad_ends ?_
    o_args
    refine ⟨a, F, _, rfl, B, by decide, by decide, fun lo H1 l0 l1 B1 c1 => ?_⟩
    o_args
    refine ⟨a, F, _, rfl, B1, by decide, by decide, fun m H2 m0 m1 B2 c2 => ?_⟩
    have C2 := c1.trans c2
    have A2 := (Al.cons B.al.choose_spec A0).ch C2
    o_args
    refine newTup (by simp) fun t1 G1 n1 s1 h1 => ?_
    o_args
    refine newTup (by simp) fun t2 G2 n2 s2 h2 => ?_
    o_args
    refine newTup (by simp) fun t3 G3 n3 s3 h3 => ?_
    o_args
    refine newTup (by simp) fun t4 G4 n4 s4 h4 => ?_
    o_args
    refine newTup (by simp) fun t5 G5 n5 s5 h5 => ?_
    o_args
    refine newTup (by simp) fun t6 G6 n6 s6 h6 => ?_
    o_args
    refine newList (by simp) fun l1 G7 n7 s7 h7 => ?_
    o_args
    refine newTup (by simp) fun t7 G8 n8 s8 h8 => ?_
    o_args
    refine newTup (by simp) fun t8 G9 n9 s9 h9 => ?_
    o_args
    refine newTup (by simp) fun t9a G10 n10 s10 h10 => ?_
    o_args
    refine newTup (by simp) fun t9 G11 n11 s11 h11 => ?_
    o_args
    refine newTup (by simp) fun t10 G12 n12 s12 h12 => ?_
    o_args
    refine newList (by simp) fun l2 G13 n13 s13 h13 => ?_
    have g7 := s13 _ _ (s12 _ _ (s11 _ _ (s10 _ _ (s9 _ _ (s8 _ _ h7)))))
    refine catList g7 h13 (by simp) fun L H3 nL sL hL => ?_
    o_args
    have z13 := s13.trans sL
    have z12 := s12.trans z13
    have z11 := s11.trans z12
    have z10 := s10.trans z11
    have z9 := s9.trans z10
    have z8 := s8.trans z9
    have z7 := s7.trans z8
    have z6 := s6.trans z7
    have z5 := s5.trans z6
    have z4 := s4.trans z5
    have z3 := s3.trans z4
    have z2 := s2.trans z3
    have z1 := s1.trans z2
    have q1 := z2 _ _ h1
    have q2 := z3 _ _ h2
    have q3 := z4 _ _ h3
    have q4 := z5 _ _ h4
    have q5 := z6 _ _ h5
    have q6 := z7 _ _ h6
    have q7 := z9 _ _ h8
    have q8 := z10 _ _ h9
    have q9a := z11 _ _ h10
    have q9 := z12 _ _ h11
    have q10 := z13 _ _ h12
    have B3 := B2.same z1
    have C3 := C2.trans (Ch.of (G := [a]) z1)
    have new : ∀ {t G}, Same H2 G → G t = none → t ∉ a :: F := fun s n => A2.new (none_of s n)
    have y1 := s1
    have y2 := y1.trans s2
    have y3 := y2.trans s3
    have y4 := y3.trans s4
    have y5 := y4.trans s5
    have y6 := y5.trans s6
    have y7 := y6.trans s7
    have y8 := y7.trans s8
    have y9 := y8.trans s9
    have y10 := y9.trans s10
    have y11 := y10.trans s11
    have f1 := new (Same.refl _) n1
    have f2 := new y1 n2
    have f3 := new y2 n3
    have f4 := new y3 n4
    have f5 := new y4 n5
    have f6 := new y5 n6
    have f7 := new y7 n8
    have f8 := new y8 n9
    have f9a := new y9 n10
    have f9 := new y10 n11
    have f10 := new y11 n12
    have fL := new ((y11.trans s12).trans s13) nL
    have na : ∀ {t}, t ∉ a :: F → t ∉ [a] := fun h z => h (by rw [List.mem_singleton.mp z]; exact List.mem_cons_self)
    refine ⟨a, F, _, rfl, B3, by decide, by decide, fun d H4 d0 d1 B4 c4 => ?_⟩
    have hL4 := c4.at (na fL) hL
    obtain ⟨j, rfl⟩ : ∃ j : Nat, d = j := ⟨d.toNat, by omega⟩
    have jl : j < 10 := by omega
    have key : ∃ t x y, ([V.ref t1, .ref t2, .ref t3, .ref t4, .ref t5, .ref t6] ++ [V.ref t7, .ref t8, .ref t9, .ref t10])[j]? = some (.ref t) ∧ H4 t = some (.tup [x, y]) ∧ t ∉ a :: F ∧ ∀ H'', Ch (a :: F) H4 H'' → BadE K H'' x y := by
      have at4 : ∀ {t o}, t ∉ a :: F → H3 t = some o → H4 t = some o := fun f h => c4.at (na f) h
      match j, jl with
      | 0, _ => exact ⟨t1, _, _, rfl, at4 f1 q1, f1, fun H'' _ => ⟨.inr ⟨_, rfl, by omega, less_neg (by omega)⟩, _, _, .int _, .int _, .int (by omega), .int (by omega)⟩⟩
      | 1, _ => exact ⟨t2, _, _, rfl, at4 f2 q2, f2, fun H'' _ => ⟨.inl (less_neg (by omega)), _, _, .int _, .int _, .int (by omega), .int (by omega)⟩⟩
      | 2, _ => exact ⟨t3, _, _, rfl, at4 f3 q3, f3, fun H'' _ => ⟨.inl less_bl, _, _, .bl _, .int _, .bl _, .int (by omega)⟩⟩
      | 3, _ => exact ⟨t4, _, _, rfl, at4 f4 q4, f4, fun H'' _ => ⟨.inr ⟨_, rfl, by omega, less_non⟩, _, _, .int _, .non, .int (by omega), .non⟩⟩
      | 4, _ => exact ⟨t5, _, _, rfl, at4 f5 q5, f5, fun H'' _ => ⟨.inl less_str, _, _, .str _, .int _, .str (by decide +kernel), .int (by omega)⟩⟩
      | 5, _ => exact ⟨t6, _, _, rfl, at4 f6 q6, f6, fun H'' _ => ⟨.inr ⟨_, rfl, by omega, less_bl⟩, _, _, .int _, .bl _, .int (by omega), .bl _⟩⟩
      | 6, _ => exact ⟨t7, _, _, rfl, at4 f7 q7, f7, fun H'' _ => ⟨.inl less_non, _, _, .non, .int _, .non, .int (by omega)⟩⟩
      | 7, _ => exact ⟨t8, _, _, rfl, at4 f8 q8, f8, fun H'' _ => ⟨.inl (less_neg (by omega)), _, _, .int _, .int _, .int (by omega), .int (by omega)⟩⟩
      | 8, _ => exact ⟨t9, _, _, rfl, at4 f9 q9, f9, fun H'' c => by
          have h9 := c.at f9a (at4 f9a q9a)
          exact ⟨.inl (less_tup h9), .tuple [.int 0, .int 1], _, .tup (SqT.of h9) (.cons (.int 0) (.cons (.int 1) .nil)), .int _, ⟨by decide +kernel, by decide +kernel, by decide +kernel, by decide +kernel⟩, .int (by omega)⟩⟩
      | 9, _ => exact ⟨t10, _, _, rfl, at4 f10 q10, f10, fun H'' _ => ⟨.inr ⟨_, rfl, by omega, less_str⟩, _, _, .int _, .str _, .int (by omega), .str (by decide +kernel)⟩⟩
    obtain ⟨t, x, y, e1, e2, e3, e4⟩ := key
    o_args
    refine ixL hL4 e1 ?_
    exact k t x y H4 e2 e3 e4 B4 (C3.trans c4)
/-! ### refusals -/
mutual
theorem Dp.sm {K : PySem.W.Frag} {H H' : Hp} (s : Same H H') : ∀ (d : PyData) (x : V), Dp K H x d → Dp K H' x d
  | _, _, .non => .non
  | _, _, .bl b => .bl b
  | _, _, .int i => .int i
  | _, _, .str x => .str x
  | _, _, .lst h hs => .lst (s.seq h) (DpAll.sm s _ _ hs)
  | _, _, .tup h hs => .tup (sqT_sm h s) (DpAll.sm s _ _ hs)
theorem DpAll.sm {K : PySem.W.Frag} {H H' : Hp} (s : Same H H') : ∀ (ds : List PyData) (xs : List V), DpAll K H xs ds → DpAll K H' xs ds
  | _, _, .nil => .nil
  | _, _, .cons h hs => .cons (Dp.sm s _ _ h) (DpAll.sm s _ _ hs)
end
/-- what a tuple of two is shown as, wherever it lies -/
theorem shown_tup {K : PySem.W.Frag} {a b : PyData} (ha : Atom a) (hb : Atom b) : ∃ z : Str, ∀ (H : Hp) (t : Addr) (x y : V), H t = some (.tup [x, y]) → Dp K H x a → Dp K H y b → ∀ Q : VK, Q (.str z) H → rReprD K [.ref t] H Q := by
  obtain ⟨h1, h2, h3, h4, h5⟩ := atoms_sh (atoms2 ha hb)
  refine ⟨(PyData.tuple [a, b]).shown, fun H t x y h da db Q q => ⟨.ref t, .tuple [a, b], rfl, .tup (SqT.of h) (.cons da (.cons db .nil)), by simp only [PyData.showable, h1], by simp only [PyData.hasDict, h2], by simp only [PyData.depth]; omega, ?_, (fun _ e => nomatch e), q⟩⟩
  simp only [PyData.shown]
  have := tupleText_len_le (PyData.shownAll [a, b])
  have e : ([a, b] : List PyData).length = 2 := rfl
  rw [sizeLine_eq]
  omega
def sp__law_call_refuses (K : PySem.W.Frag) (C : Addr) : Sp := fun vs H Q _ => ∃ (e t : Addr) (F : List Addr) (rs : List Run) (x y : V) (g : Bool), vs = [.ref e, .ref t, .bl g] ∧ SpA C e F rs H ∧ rs.length < 20000 ∧ H t = some (.tup [x, y]) ∧ (∀ H', Same H H' → BadE K H' x y) ∧ ∀ H', Same H H' → Q (.bl true) H'
set_option maxHeartbeats 0 in
theorem ok__law_call_refuses (T : Txt K mg) : FnStill P w K mg base 6 T.a__law_call_refuses T.fd__law_call_refuses ["spans", "bad", "adds"] (sp__law_call_refuses K T.c_Spans) := by
  have S := sc__law_call_refuses
  refine still_fn T.F__law_call_refuses S (fun vs H Q E h => ?_) (fun cdv A outer s H vs Q E hg hr h => ?_)
  · obtain ⟨e, t, F, rs, x, y, g, rfl, _⟩ := h
    rfl
  · obtain ⟨e, t, F, rs, x, y, g, rfl, hS, hz, ht, hb, k⟩ := h
    obtain ⟨dx, l, ts, he, _⟩ := id hS
    obtain ⟨hb0, a, b, da, db, ha, hb'⟩ := hb H (Same.refl _)
    have hu := room_un hr
    refine ⟨_, (pss_cons (ps_try_cl rfl rfl takes0 (fun W pn xe tk po => (pss_one (ps_if (pt_val (pv 2)) (pss_one (ps_expr (pe_methX (pv 0) T.cl_Spans T.m_Spans_put (ok_Spans_put T) (hr.mono (by decide)) T.B_Spans_put (fun σ => passAt tk σ) (pa_cons (pe_ix (show IxR _ (rIxT K) from ix_tup) (pv 1) pe_int (fun _ _ => rfl)) (pa_cons (pe_ix (show IxR _ (rIxT K) from ix_tup) (pv 1) pe_int (fun _ _ => rfl)) pa_nil))))) (pss_one (ps_expr (pe_methX (pv 0) T.cl_Spans T.m_Spans_drop (ok_Spans_drop T) (hr.mono (by decide)) T.B_Spans_drop (fun σ => passAt tk σ) (pa_cons (pe_ix (show IxR _ (rIxT K) from ix_tup) (pv 1) pe_int (fun _ _ => rfl)) (pa_cons (pe_ix (show IxR _ (rIxT K) from ix_tup) (pv 1) pe_int (fun _ _ => rfl)) pa_nil))))))))
      (ClOk.named (i := 3) S.nd rfl rfl ⟨rfl, by decide, .inl T.X_InvalidNumber.g⟩ (fun a oe cls d pn hz hf => (pss_cons (ps_if (PW.pt (pw_or (pt_not (pt_val (pe_callB (id := "isinstance") (call_isX hz hf) (by rfl) T.b_isinstance (by decide +kernel) (pa_cons (pv 3) (pa_cons (pe_glob (v := .ref T.c_LossError) rfl T.X_LossError.g rfl) pa_nil))))) (pw_or (pt_not (pt_val (pe_callB (id := "isinstance") (call_isX hz hf) (by rfl) T.b_isinstance (by decide +kernel) (pa_cons (pv 3) (pa_cons (pe_bltn (v := .ty "ValueError") (u := .type "ValueError") (by rfl) T.b_ValueError (by decide +kernel) rfl) pa_nil))))) (pw_or1 (pt_val (pe_callB (id := "isinstance") (call_isX hz hf) (by rfl) T.b_isinstance (by decide +kernel) (pa_cons (pv 3) (pa_cons (pe_glob (v := .ref T.c_InvalidSetting) rfl T.X_InvalidSetting.g rfl) pa_nil)))))))) (pss_one (ps_ret pe_bl)) pss_nil)
      (pss_one (ps_ret (pe_cmpR op_eq (pe_callB (id := "repr") (show CallR _ (.builtin "repr") (rReprD K) from call_reprD hg hu) (by rfl) T.b_repr (by decide +kernel) (pa_cons (pe_xg hz hf (pv 3)) pa_nil)) (pe_callB (id := "repr") (show CallR _ (.builtin "repr") (rReprD K) from call_reprD hg hu) (by rfl) T.b_repr (by decide +kernel) (pa_cons (pe_tup (pa_cons (pe_ix (show IxR _ (rIxT K) from ix_tup) (pv 1) pe_int (fun _ _ => rfl)) (pa_cons (pe_ix (show IxR _ (rIxT K) from ix_tup) (pv 1) pe_int (fun _ _ => rfl)) pa_nil))) pa_nil)) (nomark _))))))
      ClOk.nil))
      (pss_one (ps_ret pe_bl))), ?_⟩
    refine st__law_call_refuses ?_
    o_args
    obtain ⟨z, sh⟩ := shown_tup (K := K) ha hb'
    cases g
    · o_args
      refine ⟨e, dx, _, rfl, he, rfl, ?_⟩
      o_args
      refine ⟨e, F, rs, x, y, rfl, hS, hz, .inr ⟨hb0, fun u d H2 s2 hu2 hx => ?_⟩⟩
      refine ⟨true, T.Me_InvalidNumber_InvalidNumber, fun _ _ _ => ?_, fun z => nomatch z⟩
      o_args
      refine errX (fun u r => r) T.X_InvalidNumber.e hx T.Kt_InvalidNumber_LossError ?_
      o_args
      refine errX (fun u r => r) T.X_InvalidNumber.e hx T.Kv_InvalidNumber ?_
      o_args
      refine errX (fun u r => r) T.X_InvalidNumber.e hx T.Kt_InvalidNumber_InvalidSetting ?_
      o_args
      refine errF T.X_InvalidNumber.x T.nX_InvalidNumber hx rfl ?_
      o_args
      have ht2 := s2 _ _ ht
      refine sh H2 u x y hu2 (Dp.sm s2 _ _ da) (Dp.sm s2 _ _ db) _ ?_
      o_args
      refine newTup (by simp) fun v H3 nv s3 h3 => ?_
      o_args
      refine sh H3 v x y h3 (Dp.sm (s2.trans s3) _ _ da) (Dp.sm (s2.trans s3) _ _ db) _ ?_
      refine x_eqS ?_
      rw [decide_eq_true rfl]
      exact k H3 (s2.trans s3)
    · o_args
      refine ⟨e, dx, _, rfl, he, rfl, ?_⟩
      o_args
      refine ⟨e, F, rs, x, y, rfl, hS, hz, .inr ⟨hb0, fun u d H2 s2 hu2 hx => ?_⟩⟩
      refine ⟨true, T.Me_InvalidNumber_InvalidNumber, fun _ _ _ => ?_, fun z => nomatch z⟩
      o_args
      refine errX (fun u r => r) T.X_InvalidNumber.e hx T.Kt_InvalidNumber_LossError ?_
      o_args
      refine errX (fun u r => r) T.X_InvalidNumber.e hx T.Kv_InvalidNumber ?_
      o_args
      refine errX (fun u r => r) T.X_InvalidNumber.e hx T.Kt_InvalidNumber_InvalidSetting ?_
      o_args
      refine errF T.X_InvalidNumber.x T.nX_InvalidNumber hx rfl ?_
      o_args
      have ht2 := s2 _ _ ht
      refine sh H2 u x y hu2 (Dp.sm s2 _ _ da) (Dp.sm s2 _ _ db) _ ?_
      o_args
      refine newTup (by simp) fun v H3 nv s3 h3 => ?_
      o_args
      refine sh H3 v x y h3 (Dp.sm (s2.trans s3) _ _ da) (Dp.sm (s2.trans s3) _ _ db) _ ?_
      refine x_eqS ?_
      rw [decide_eq_true rfl]
      exact k H3 (s2.trans s3)
/-- a good pair, bad ones behind -/
def sp__law_new_refuses (K : PySem.W.Frag) (C : Addr) : Sp := fun vs H Q _ => ∃ (a n : Addr) (F : List Addr) (ns : List Int), vs = [.ref a, .ref n] ∧ Box a F H ∧ Al F H ∧ n ∈ F ∧ IntL n ns H ∧ ns.length < 30000 ∧
  ∀ ns' H', IntL n ns' H' → ns'.length = ns.length + 4 → Box a F H' → Ch [a, n] H H' → Q (.bl true) H'
set_option maxHeartbeats 0 in
theorem ok__law_new_refuses (T : Txt K mg) : FnStill P w K mg base 7 T.a__law_new_refuses T.fd__law_new_refuses ["box", "ends"] (sp__law_new_refuses K T.c_Spans) := by
  have S := sc__law_new_refuses
  refine still_fn T.F__law_new_refuses S (fun vs H Q E h => ?_) (fun cdv A outer s H vs Q E hg hr h => ?_)
  · obtain ⟨a, n, F, ns, rfl, _⟩ := h
    rfl
  · obtain ⟨a, n, F, ns, rfl, B, A0, nF, hN, hz, k⟩ := h
    have hu := room_un hr
    have na : n ∉ [a] := fun z => B.nin ((List.mem_singleton.mp z) ▸ nF)
    have Aan : Al [a, n] H := .cons B.al.choose_spec (.cons hN .nil)
    refine ⟨_, (pss_cons (ps_set (i := 2) S.nd rfl (Or.inl rfl) (pe_call (ok__law_pair T) (hr.mono (by decide)) rfl T.g__law_pair T.F__law_pair.kp T.B__law_pair .nil pass0 (pa_cons (pv 0) (pa_cons (pv 1) pa_nil))))
      (pss_cons (ps_set (i := 3) S.nd rfl (Or.inl rfl) (pe_call (ok__law_pair T) (hr.mono (by decide)) rfl T.g__law_pair T.F__law_pair.kp T.B__law_pair .nil pass0 (pa_cons (pv 0) (pa_cons (pv 1) pa_nil))))
      (pss_cons (ps_set (i := 4) S.nd rfl (Or.inl rfl) (pe_call (ok__law_bad_pair T) (hr.mono (by decide)) rfl T.g__law_bad_pair T.F__law_bad_pair.kp T.B__law_bad_pair .nil pass0 (pa_cons (pv 0) pa_nil)))
      (pss_cons (ps_set (i := 5) S.nd rfl (Or.inl rfl) (pe_call (ok__law_bad_pair T) (hr.mono (by decide)) rfl T.g__law_bad_pair T.F__law_bad_pair.kp T.B__law_bad_pair .nil pass0 (pa_cons (pv 0) pa_nil)))
      (pss_cons (ps_set (i := 6) S.nd rfl (Or.inl rfl) (pe_call (ok__law_draw T) (hr.mono (by decide)) rfl T.g__law_draw T.F__law_draw.kp T.B__law_draw .nil pass0 (pa_cons (pv 0) (pa_cons pe_int pa_nil))))
      (pss_cons (ps_try_cl rfl rfl takes0 (fun W pn xe tk po => (pss_one (ps_if (pt_cmpR op_eq (pv 6) pe_int (nomark _)) (pss_one (ps_expr (pe_makeRX T.M_Spans (ok_Spans_init_ T) (hr.mono (by decide)) rfl T.g_Spans (fun σ => passAt tk σ) (pa_cons (pv 4) (pa_cons (pv 2) (pa_cons (pv 3) (pa_cons (pv 5) pa_nil))))))) (pss_one (ps_if (pt_cmpR op_eq (pv 6) pe_int (nomark _)) (pss_one (ps_expr (pe_makeRX T.M_Spans (ok_Spans_init_ T) (hr.mono (by decide)) rfl T.g_Spans (fun σ => passAt tk σ) (pa_cons (pv 2) (pa_cons (pv 4) (pa_cons (pv 5) (pa_cons (pv 3) pa_nil))))))) (pss_one (ps_if (pt_cmpR op_eq (pv 6) pe_int (nomark _)) (pss_one (ps_expr (pe_makeRX T.M_Spans (ok_Spans_init_ T) (hr.mono (by decide)) rfl T.g_Spans (fun σ => passAt tk σ) (pa_cons (pv 2) (pa_cons (pv 3) (pa_cons (pv 4) (pa_cons (pv 5) pa_nil))))))) (pss_one (ps_expr (pe_makeRX T.M_Spans (ok_Spans_init_ T) (hr.mono (by decide)) rfl T.g_Spans (fun σ => passAt tk σ) (pa_cons (pv 2) (pa_cons (pv 3) (pa_cons (pv 4) pa_nil)))))))))))))
      (ClOk.named (i := 7) S.nd rfl rfl ⟨rfl, by decide, .inl T.X_InvalidNumber.g⟩ (fun a oe cls d pn hz hf => (pss_cons (ps_if (PW.pt (pw_or (pt_not (pt_val (pe_callB (id := "isinstance") (call_isX hz hf) (by rfl) T.b_isinstance (by decide +kernel) (pa_cons (pv 7) (pa_cons (pe_glob (v := .ref T.c_LossError) rfl T.X_LossError.g rfl) pa_nil))))) (pw_or (pt_not (pt_val (pe_callB (id := "isinstance") (call_isX hz hf) (by rfl) T.b_isinstance (by decide +kernel) (pa_cons (pv 7) (pa_cons (pe_bltn (v := .ty "ValueError") (u := .type "ValueError") (by rfl) T.b_ValueError (by decide +kernel) rfl) pa_nil))))) (pw_or1 (pt_val (pe_callB (id := "isinstance") (call_isX hz hf) (by rfl) T.b_isinstance (by decide +kernel) (pa_cons (pv 7) (pa_cons (pe_glob (v := .ref T.c_InvalidSetting) rfl T.X_InvalidSetting.g rfl) pa_nil)))))))) (pss_one (ps_ret pe_bl)) pss_nil)
      (pss_one (ps_ret (pe_cmpR op_eq (pe_callB (id := "repr") (show CallR _ (.builtin "repr") (rReprD K) from call_reprD hg hu) (by rfl) T.b_repr (by decide +kernel) (pa_cons (pe_xg hz hf (pv 7)) pa_nil)) (pe_callB (id := "repr") (show CallR _ (.builtin "repr") (rReprD K) from call_reprD hg hu) (by rfl) T.b_repr (by decide +kernel) (pa_cons (pv 4) pa_nil)) (nomark _))))))
      ClOk.nil))
      (pss_one (ps_ret pe_bl)))))))), ?_⟩
    refine st__law_new_refuses ?_
    o_args
    refine ⟨a, n, F, ns, rfl, B, nF, hN, by omega, fun g1 p1 q1 ns1 H1 n1 l1 u1 _ h1 N1 z1 B1 c1 => ?_⟩
    o_args
    refine ⟨a, n, F, ns1, rfl, B1, nF, N1, by omega, fun g2 p2 q2 ns2 H2 n2 l2 u2 _ h2 N2 z2 B2 c2 => ?_⟩
    have A2 := A0.ch (c1.trans c2)
    o_args
    refine ⟨a, F, rfl, B2, A2, fun bad H3 b3 B3 c3 => ?_⟩
    o_args
    refine ⟨a, F, rfl, B3, A2.ch c3, fun worse H4 _ B4 c4 => ?_⟩
    o_args
    refine ⟨a, F, 4, rfl, B4, by decide, by decide, fun place H5 w0 w1 B5 c5 => ?_⟩
    have C35 := c4.trans c5
    have C25 := c3.trans C35
    have C05 := (c1.trans c2).trans (C25.more (F := [a, n]) (by simp))
    have g1n : g1 ∉ [a, n] := Aan.new n1
    have g2n : g2 ∉ [a, n] := (Aan.ch c1).new n2
    have h1' := C25.at (fun z => g1n (by simp at z; simp [z])) (c2.at g1n h1)
    have h2' := C25.at (fun z => g2n (by simp at z; simp [z])) h2
    obtain ⟨bp, br⟩ := b3 H5 (C35.more (by simp))
    have N5 : IntL n ns2 H5 := C25.at na N2
    have pg1 : PairAt H5 (.ref g1) (p1, q1) ∧ 0 ≤ (p1, q1).1 ∧ (p1, q1).1 ≤ (p1, q1).2 := ⟨⟨g1, rfl, .inl h1'⟩, l1, u1⟩
    have pg2 : PairAt H5 (.ref g2) (p2, q2) ∧ 0 ≤ (p2, q2).1 ∧ (p2, q2).1 ≤ (p2, q2).2 := ⟨⟨g2, rfl, .inl h2'⟩, l2, u2⟩
    o_args
    refine brD (fun w => ?_) (fun w => ?_)
    · o_args
      refine x_makeRX ?_
      o_args
      refine make_bad (xs := [bad, .ref g1, .ref g2, worse]) (j := 0) (by simp) rfl bp (fun i y z => absurd z (Nat.not_lt_zero _)) (fun d H6 s6 hx => ?_)
      refine ⟨true, T.Me_InvalidNumber_InvalidNumber, fun _ _ _ => ?_, fun z => nomatch z⟩
      o_args
      refine errX (fun u r => r) T.X_InvalidNumber.e hx T.Kt_InvalidNumber_LossError ?_
      o_args
      refine errX (fun u r => r) T.X_InvalidNumber.e hx T.Kv_InvalidNumber ?_
      o_args
      refine errX (fun u r => r) T.X_InvalidNumber.e hx T.Kt_InvalidNumber_InvalidSetting ?_
      o_args
      refine errF T.X_InvalidNumber.x T.nX_InvalidNumber hx rfl ?_
      obtain ⟨z, ask⟩ := (b3 H6 ((C35.more (by simp)).trans (Ch.of s6))).2.ask
      o_args
      refine ask _ ?_
      o_args
      refine ask _ ?_
      refine x_eqS ?_
      rw [decide_eq_true rfl]
      exact k ns2 H6 (s6 _ _ N5) (by omega) (B5.same s6) (C05.trans (Ch.of s6))
    o_args
    refine brD (fun w => ?_) (fun w => ?_)
    · o_args
      refine x_makeRX ?_
      o_args
      refine make_bad (xs := [.ref g1, bad, worse, .ref g2]) (j := 1) (by simp) rfl bp (fun i y z hy => by
        obtain rfl : i = 0 := by omega
        cases hy
        exact ⟨_, pg1⟩) (fun d H6 s6 hx => ?_)
      refine ⟨true, T.Me_InvalidNumber_InvalidNumber, fun _ _ _ => ?_, fun z => nomatch z⟩
      o_args
      refine errX (fun u r => r) T.X_InvalidNumber.e hx T.Kt_InvalidNumber_LossError ?_
      o_args
      refine errX (fun u r => r) T.X_InvalidNumber.e hx T.Kv_InvalidNumber ?_
      o_args
      refine errX (fun u r => r) T.X_InvalidNumber.e hx T.Kt_InvalidNumber_InvalidSetting ?_
      o_args
      refine errF T.X_InvalidNumber.x T.nX_InvalidNumber hx rfl ?_
      obtain ⟨z, ask⟩ := (b3 H6 ((C35.more (by simp)).trans (Ch.of s6))).2.ask
      o_args
      refine ask _ ?_
      o_args
      refine ask _ ?_
      refine x_eqS ?_
      rw [decide_eq_true rfl]
      exact k ns2 H6 (s6 _ _ N5) (by omega) (B5.same s6) (C05.trans (Ch.of s6))
    o_args
    refine brD (fun w => ?_) (fun w => ?_)
    · o_args
      refine x_makeRX ?_
      o_args
      refine make_bad (xs := [.ref g1, .ref g2, bad, worse]) (j := 2) (by simp) rfl bp (fun i y z hy => by
        match i, z with
        | 0, _ =>
          cases hy
          exact ⟨_, pg1⟩
        | 1, _ =>
          cases hy
          exact ⟨_, pg2⟩) (fun d H6 s6 hx => ?_)
      refine ⟨true, T.Me_InvalidNumber_InvalidNumber, fun _ _ _ => ?_, fun z => nomatch z⟩
      o_args
      refine errX (fun u r => r) T.X_InvalidNumber.e hx T.Kt_InvalidNumber_LossError ?_
      o_args
      refine errX (fun u r => r) T.X_InvalidNumber.e hx T.Kv_InvalidNumber ?_
      o_args
      refine errX (fun u r => r) T.X_InvalidNumber.e hx T.Kt_InvalidNumber_InvalidSetting ?_
      o_args
      refine errF T.X_InvalidNumber.x T.nX_InvalidNumber hx rfl ?_
      obtain ⟨z, ask⟩ := (b3 H6 ((C35.more (by simp)).trans (Ch.of s6))).2.ask
      o_args
      refine ask _ ?_
      o_args
      refine ask _ ?_
      refine x_eqS ?_
      rw [decide_eq_true rfl]
      exact k ns2 H6 (s6 _ _ N5) (by omega) (B5.same s6) (C05.trans (Ch.of s6))
    · o_args
      refine x_makeRX ?_
      o_args
      refine make_bad (xs := [.ref g1, .ref g2, bad]) (j := 2) (by simp) rfl bp (fun i y z hy => by
        match i, z with
        | 0, _ =>
          cases hy
          exact ⟨_, pg1⟩
        | 1, _ =>
          cases hy
          exact ⟨_, pg2⟩) (fun d H6 s6 hx => ?_)
      refine ⟨true, T.Me_InvalidNumber_InvalidNumber, fun _ _ _ => ?_, fun z => nomatch z⟩
      o_args
      refine errX (fun u r => r) T.X_InvalidNumber.e hx T.Kt_InvalidNumber_LossError ?_
      o_args
      refine errX (fun u r => r) T.X_InvalidNumber.e hx T.Kv_InvalidNumber ?_
      o_args
      refine errX (fun u r => r) T.X_InvalidNumber.e hx T.Kt_InvalidNumber_InvalidSetting ?_
      o_args
      refine errF T.X_InvalidNumber.x T.nX_InvalidNumber hx rfl ?_
      obtain ⟨z, ask⟩ := (b3 H6 ((C35.more (by simp)).trans (Ch.of s6))).2.ask
      o_args
      refine ask _ ?_
      o_args
      refine ask _ ?_
      refine x_eqS ?_
      rw [decide_eq_true rfl]
      exact k ns2 H6 (s6 _ _ N5) (by omega) (B5.same s6) (C05.trans (Ch.of s6))
/-! ### a play -/
/-- a box, a list of ends, a set and its history, each apart -/
def St4 (C a e h n : Addr) (m : Nat) (H : Hp) : Prop := ∃ (ns : List Int) (rs : List Run) (hs : List Deed), Box a [n, e, h] H ∧ IntL n ns H ∧ SpA C e [a, n, h] rs H ∧ HistA h [a, n, e] hs H ∧ (∀ o, Mem o rs ↔ hasF hs o = true) ∧ ns.length ≤ m ∧ rs.length ≤ m ∧ hs.length ≤ m
theorem St4.ne {C a e h n : Addr} {m : Nat} {H : Hp} (S : St4 C a e h n m H) : n ≠ a ∧ e ≠ a ∧ h ≠ a ∧ e ≠ n ∧ h ≠ n ∧ e ≠ h := by
  obtain ⟨ns, rs, hs, B, N, S, A, _⟩ := S
  have b := B.nin
  obtain ⟨_, _, _, _, _, s, _⟩ := S
  obtain ⟨_, _, _, t, _⟩ := A
  simp only [List.mem_cons, List.not_mem_nil, or_false, not_or] at b s t
  exact ⟨Ne.symm b.1, s.1, t.1, s.2.1, t.2.1, s.2.2⟩
theorem St4.more {C a e h n : Addr} {m m' : Nat} {H : Hp} (S : St4 C a e h n m H) (z : m ≤ m') : St4 C a e h n m' H := by
  obtain ⟨ns, rs, hs, B, N, S, A, M, z1, z2, z3⟩ := S
  exact ⟨ns, rs, hs, B, N, S, A, M, by omega, by omega, by omega⟩
/-- only the box was drawn from -/
theorem St4.box {C a e h n : Addr} {m : Nat} {H H' : Hp} (S : St4 C a e h n m H) (B : Box a [n, e, h] H') (c : Ch [a] H H') : St4 C a e h n m H' := by
  obtain ⟨n1, n2, n3, n4, n5, n6⟩ := S.ne
  obtain ⟨ns, rs, hs, _, N, S, A, M, z⟩ := S
  exact ⟨ns, rs, hs, B, c.at (by simp [n1]) N, S.ch c (by simp), A.ch c (by simp), M, z⟩
theorem St4.same {C a e h n : Addr} {m : Nat} {H H' : Hp} (S : St4 C a e h n m H) (s : Same H H') : St4 C a e h n m H' := by
  obtain ⟨ns, rs, hs, B, N, S, A, M, z⟩ := S
  exact ⟨ns, rs, hs, B.same s, s _ _ N, S.same s, A.same s, M, z⟩
def sp__law_plays (K : PySem.W.Frag) (C : Addr) : Sp := fun vs H Q _ => ∃ (a e h n : Addr) (r : Int), vs = [.ref a, .ref e, .ref h, .ref n, .int r] ∧ St4 C a e h n 100 H ∧ 0 ≤ r ∧ r ≤ 20 ∧ ∀ H', St4 C a e h n 200 H' → Ch [a, e, h, n] H H' → Q (.bl true) H'
set_option maxHeartbeats 0 in
theorem ok__law_plays (T : Txt K mg) : FnStill P w K mg base 8 T.a__law_plays T.fd__law_plays ["box", "spans", "history", "ends", "rounds"] (sp__law_plays K T.c_Spans) := by
  have S := sc__law_plays
  refine still_fn T.F__law_plays S (fun vs H Q E h => ?_) (fun cdv A outer s H vs Q E hg hr h => ?_)
  · obtain ⟨a, e, h, n, r, rfl, _⟩ := h
    rfl
  · obtain ⟨a, e, h, n, r, rfl, S0, r0, r1, k⟩ := h
    obtain ⟨n1, n2, n3, n4, n5, n6⟩ := S0.ne
    refine ⟨_, (pss_cons (ps_for PassesOwn.never rfl (pi_range1 (by rfl) T.b_range (pa_cons (pv 4) pa_nil)) (pg_name (i := 5) S.nd rfl (Or.inl rfl)) (pss_cons (ps_set (i := 6) S.nd rfl (Or.inl rfl) (pe_call (ok__law_draw T) (hr.mono (by decide)) rfl T.g__law_draw T.F__law_draw.kp T.B__law_draw .nil pass0 (pa_cons (pv 0) (pa_cons pe_int pa_nil))))
      (C8.pss_cut (ps_if (pt_cmpR op_lt (pv 6) pe_int (nomark _)) (pss_cons (ps_set (i := 7) S.nd rfl (Or.inl rfl) (pe_call (ok__law_pair T) (hr.mono (by decide)) rfl T.g__law_pair T.F__law_pair.kp T.B__law_pair .nil pass0 (pa_cons (pv 0) (pa_cons (pv 3) pa_nil))))
      (pss_cons (ps_if (pt_cmpR op_notN (pe_meth (pv 1) T.cl_Spans T.m_Spans_put (ok_Spans_put T) (hr.mono (by decide)) T.B_Spans_put .nil passL (pa_cons (pe_ix ix_tup (pv 7) pe_int (fun _ _ => rfl)) (pa_cons (pe_ix ix_tup (pv 7) pe_int (fun _ _ => rfl)) pa_nil))) pe_non (nomark _)) (pss_one (ps_ret pe_bl)) pss_nil)
      (pss_one (ps_expr (pe_bm PySem.F.plainAttrs_list PySem.F.slot_list_append PySem.F.type_list_append mt_append (pv 2) (pa_cons (pe_tup (pa_cons pe_bl (pa_cons (pe_ix ix_tup (pv 7) pe_int (fun _ _ => rfl)) (pa_cons (pe_ix ix_tup (pv 7) pe_int (fun _ _ => rfl)) pa_nil)))) pa_nil)))))) (pss_one (ps_if (pt_cmpR op_lt (pv 6) pe_int (nomark _)) (pss_cons (ps_set (i := 7) S.nd rfl (Or.inl rfl) (pe_call (ok__law_pair T) (hr.mono (by decide)) rfl T.g__law_pair T.F__law_pair.kp T.B__law_pair .nil pass0 (pa_cons (pv 0) (pa_cons (pv 3) pa_nil))))
      (pss_cons (ps_if (pt_cmpR op_notN (pe_meth (pv 1) T.cl_Spans T.m_Spans_drop (ok_Spans_drop T) (hr.mono (by decide)) T.B_Spans_drop .nil passL (pa_cons (pe_ix ix_tup (pv 7) pe_int (fun _ _ => rfl)) (pa_cons (pe_ix ix_tup (pv 7) pe_int (fun _ _ => rfl)) pa_nil))) pe_non (nomark _)) (pss_one (ps_ret pe_bl)) pss_nil)
      (pss_one (ps_expr (pe_bm PySem.F.plainAttrs_list PySem.F.slot_list_append PySem.F.type_list_append mt_append (pv 2) (pa_cons (pe_tup (pa_cons pe_bl (pa_cons (pe_ix ix_tup (pv 7) pe_int (fun _ _ => rfl)) (pa_cons (pe_ix ix_tup (pv 7) pe_int (fun _ _ => rfl)) pa_nil)))) pa_nil)))))) (pss_one (ps_if (pt_not (pt_val (pe_still hg (ok__law_call_refuses T) (hr.mono (by decide)) rfl T.g__law_call_refuses T.F__law_call_refuses.kp T.B__law_call_refuses .nil pass0 (pa_cons (pv 1) (pa_cons (pe_call (ok__law_bad_ends T) (hr.mono (by decide)) rfl T.g__law_bad_ends T.F__law_bad_ends.kp T.B__law_bad_ends .nil pass0 (pa_cons (pv 0) pa_nil)) (pa_cons (pe_cmpR op_eq (pv 6) pe_int (nomark _)) pa_nil)))))) (pss_one (ps_ret pe_bl)) pss_nil)))))
      (pss_one (ps_if (PW.pt (pw_and (pt_cmpR op_gt (pe_call (ok__law_draw T) (hr.mono (by decide)) rfl T.g__law_draw T.F__law_draw.kp T.B__law_draw .nil pass0 (pa_cons (pv 0) (pa_cons pe_int pa_nil))) pe_int (nomark _)) (pw_and1 (pt_not (pt_val (pe_call (ok__law_agrees T) (hr.mono (by decide)) rfl T.g__law_agrees T.F__law_agrees.kp T.B__law_agrees .nil pass0 (pa_cons (pv 1) (pa_cons (pv 2) pa_nil)))))))) (pss_one (ps_ret pe_bl)) pss_nil)))))
      (pss_one (ps_ret pe_bl))), ?_⟩
    refine st__law_plays ?_
    o_args
    refine rngF (n := r) (by omega) (by omega) (for_rangeK (lo := 0) (n := r.toNat) (fun i σ H' => ∃ u v w, σ = [some (.ref a), some (.ref e), some (.ref h), some (.ref n), some (.int r), u, v, w] ∧ St4 T.c_Spans a e h n (100 + 2 * i) H' ∧ Ch [a, e, h, n] H H') ⟨none, none, none, rfl, S0, Ch.refl⟩ ?_ ?_)
    · rintro i σ H1 hi ⟨u, v, w, rfl, S1, c1⟩
      obtain ⟨ns, rs, hs, B1, N1, P1, A1, M1, z1, z2, z3⟩ := id S1
      o_args
      refine ⟨a, _, 8, rfl, B1, by decide, by decide, fun way H2 w0 w1 B2 c2 => ?_⟩
      have S2 := S1.box B2 c2
      o_args
      refine ⟨fun σ H' => ∃ w, σ = [some (.ref a), some (.ref e), some (.ref h), some (.ref n), some (.int r), some (.int (0 + (i : Int))), some (.int way), w] ∧ St4 T.c_Spans a e h n (100 + 2 * (i + 1)) H' ∧ Ch [a, e, h, n] H2 H', ?_, ?_⟩
      · clear B1 N1 P1 A1 M1 z1 z2 z3 c1 S1 c2
        obtain ⟨ns, rs, hs, _, N2, P2, A2, M2, z1, z2, z3⟩ := id S2
        o_args
        refine brD (fun q => ?_) (fun q => ?_)
        · o_args
          refine ⟨a, n, _, ns, rfl, B2, by simp, N2, by omega, fun t lo hi ns' H3 nt l0 lh hh ht N3 y1 B3 c3 => ?_⟩
          have P3 := P2.ch c3 (by simp)
          have A3 := A2.ch c3 (by simp)
          obtain ⟨dx, l, ts, he, _⟩ := id P3
          have te : t ≠ e := fun z => by
            obtain ⟨o, q⟩ := P2.at_
            rw [← z, nt] at q
            cases q
          o_args
          refine ⟨e, dx, _, rfl, he, rfl, ?_⟩
          o_args
          refine ⟨e, _, rs, _, _, rfl, P3, by omega, .inl ⟨lo, hi, rfl, rfl, l0, lh, fun H4 rs' c4 P4 y2 m4 => ?_⟩⟩
          have ht4 := c4.at (by simp [te]) ht
          have B4 := B3.ch c4 (by simp)
          have N4 : IntL n ns' H4 := c4.at (by simp [n4.symm]) N3
          have A4 := A3.ch c4 (by simp)
          have P4 := P4 [a, n, h] (.cons B3.al.choose_spec (.cons N3 (.cons A3.at_.choose_spec .nil))) (by simp [n2, n4, n6])
          have al4 : Al [a, n, e] H4 := .cons B4.al.choose_spec (.cons N4 (.cons P4.at_.choose_spec .nil))
          clear P3 A3 B3 N3 he
          o_args
          obtain ⟨us, h4, T4, hF, tF⟩ := id A4
          refine ⟨isList h4, ?_⟩
          o_args
          refine newTup (by simp) fun u H5 nu s5 h5 => ?_
          o_args
          refine appList (s5 _ _ h4) (by rw [List.length_map, T4.1]; omega) fun H6 s6 h6 => ?_
          have A6 := HistA.push (d := (true, lo, hi)) h4 T4 hF tF al4 nu s5 h5 s6 h6
          have c6 : Ch [h] H4 H6 := (Ch.of s5).trans (Ch.ofX (by simp) s6 h6)
          o_args
          refine ⟨_, rfl, ⟨ns', rs', hs ++ [(true, lo, hi)], B4.ch c6 (by simp), c6.at (by simp [n5.symm]) N4, P4.ch c6 (by simp), A6, fun o => ?_, by omega, by omega, by simp; omega⟩, ((c3.more (by simp)).trans (c4.more (by simp))).trans (c6.more (by simp))⟩
          rw [m4 o, hasF_snoc, M2 o]
          by_cases c : lo ≤ o ∧ o < hi
          · simp [c]
          · simp [c]
        o_args
        refine brD (fun q => ?_) (fun q => ?_)
        · o_args
          refine ⟨a, n, _, ns, rfl, B2, by simp, N2, by omega, fun t lo hi ns' H3 nt l0 lh hh ht N3 y1 B3 c3 => ?_⟩
          have P3 := P2.ch c3 (by simp)
          have A3 := A2.ch c3 (by simp)
          obtain ⟨dx, l, ts, he, _⟩ := id P3
          have te : t ≠ e := fun z => by
            obtain ⟨o, q⟩ := P2.at_
            rw [← z, nt] at q
            cases q
          o_args
          refine ⟨e, dx, _, rfl, he, rfl, ?_⟩
          o_args
          refine ⟨e, _, rs, _, _, rfl, P3, by omega, .inl ⟨lo, hi, rfl, rfl, l0, lh, fun H4 rs' c4 P4 y2 m4 => ?_⟩⟩
          have ht4 := c4.at (by simp [te]) ht
          have B4 := B3.ch c4 (by simp)
          have N4 : IntL n ns' H4 := c4.at (by simp [n4.symm]) N3
          have A4 := A3.ch c4 (by simp)
          have P4 := P4 [a, n, h] (.cons B3.al.choose_spec (.cons N3 (.cons A3.at_.choose_spec .nil))) (by simp [n2, n4, n6])
          have al4 : Al [a, n, e] H4 := .cons B4.al.choose_spec (.cons N4 (.cons P4.at_.choose_spec .nil))
          clear P3 A3 B3 N3 he
          o_args
          obtain ⟨us, h4, T4, hF, tF⟩ := id A4
          refine ⟨isList h4, ?_⟩
          o_args
          refine newTup (by simp) fun u H5 nu s5 h5 => ?_
          o_args
          refine appList (s5 _ _ h4) (by rw [List.length_map, T4.1]; omega) fun H6 s6 h6 => ?_
          have A6 := HistA.push (d := (false, lo, hi)) h4 T4 hF tF al4 nu s5 h5 s6 h6
          have c6 : Ch [h] H4 H6 := (Ch.of s5).trans (Ch.ofX (by simp) s6 h6)
          o_args
          refine ⟨_, rfl, ⟨ns', rs', hs ++ [(false, lo, hi)], B4.ch c6 (by simp), c6.at (by simp [n5.symm]) N4, P4.ch c6 (by simp), A6, fun o => ?_, by omega, by omega, by simp; omega⟩, ((c3.more (by simp)).trans (c4.more (by simp))).trans (c6.more (by simp))⟩
          rw [m4 o, hasF_snoc, M2 o]
          by_cases c : lo ≤ o ∧ o < hi
          · simp [c]
          · simp [c]
        o_args
        refine ⟨a, _, rfl, B2, .cons N2 (.cons P2.at_.choose_spec (.cons A2.at_.choose_spec .nil)), fun t x y H3 ht tF bE B3 c3 => ?_⟩
        have S3 := S2.box B3 c3
        o_args
        refine ⟨e, t, _, rs, x, y, _, rfl, P2.ch c3 (by simp), by omega, ht, fun H' s => bE H' (Ch.of s), fun H4 s4 => ?_⟩
        o_args
        exact ⟨_, rfl, (S3.same s4).more (by omega), (c3.more (by simp)).trans (Ch.of s4)⟩
      · rintro σ H3 ⟨w, rfl, S3, c3⟩
        obtain ⟨ns, rs, hs, B3, N3, P3, A3, M3, z1, z2, z3⟩ := id S3
        o_args
        refine ⟨a, _, 3, rfl, B3, by decide, by decide, fun d H4 d0 d1 B4 c4 => ?_⟩
        have S4 := S3.box B4 c4
        have c04 := ((c1.trans (c2.more (F := [a, e, h, n]) (by simp))).trans c3).trans (c4.more (F := [a, e, h, n]) (by simp))
        o_args
        refine brD (fun q => ?_) (fun q => ?_)
        · o_args
          refine ⟨e, h, _, _, rs, hs, rfl, P3.ch c4 (by simp), A3.ch c4 (by simp), by omega, by omega, M3, fun H5 s5 => ?_⟩
          o_args
          exact ⟨_, _, _, rfl, S4.same s5, c04.trans (Ch.of s5)⟩
        · o_args
          exact ⟨_, _, _, rfl, S4, c04⟩
    · rintro σ H1 ⟨u, v, w, rfl, S1, c1⟩
      o_args
      exact k H1 (S1.more (by omega)) c1
/-! ### a comb -/
theorem mul_step {p q s : Int} (s0 : 0 ≤ s) (h : p < q) : p * s + s ≤ q * s := by
  have : (p + 1) * s ≤ q * s := Int.mul_le_mul_of_nonneg_right (by omega) s0
  rw [Int.add_mul, Int.one_mul] at this
  exact this
def combR (low step width p : Int) : Run := (low + p * step, low + p * step + width)
def combL (low step width : Int) (m : Nat) : List Run := (List.range m).map fun (p : Nat) => combR low step width (p : Int)
theorem comb_len {low step width : Int} {m : Nat} : (combL low step width m).length = m := by simp [combL]
theorem comb_nrm {low step width : Int} {m : Nat} (w0 : 0 < width) (sw : width < step) : Nrm (combL low step width m) := by
  refine ⟨fun r hr => ?_, ?_⟩
  · obtain ⟨p, _, rfl⟩ := List.mem_map.mp hr
    simp only [combR]
    omega
  · rw [combL, List.pairwise_map]
    refine List.Pairwise.imp (fun {p q} h => ?_) List.pairwise_lt_range
    have := mul_step (p := (p : Int)) (q := (q : Int)) (s := step) (by omega) (by omega)
    simp only [combR]
    omega
theorem comb_mem {low step width o : Int} {m : Nat} : Mem o (combL low step width m) ↔ ∃ p : Nat, p < m ∧ (combR low step width p).1 ≤ o ∧ o < (combR low step width p).2 := by
  constructor
  · rintro ⟨r, hr, c⟩
    obtain ⟨p, hp, rfl⟩ := List.mem_map.mp hr
    exact ⟨p, List.mem_range.mp hp, c⟩
  · rintro ⟨p, hp, c⟩
    exact ⟨_, List.mem_map.mpr ⟨p, List.mem_range.mpr hp, rfl⟩, c⟩
/-- the place of the k-th tooth -/
def plc (t : Bool) (m k : Nat) : Nat := if t then m - 1 - k else k
theorem plc_lt {t : Bool} {m j : Nat} (h : j < m) : plc t m j < m := by
  cases t <;> simp [plc] <;> omega
theorem plc_plc {t : Bool} {m j : Nat} (h : j < m) : plc t m (plc t m j) = j := by
  cases t <;> simp [plc] <;> omega
/-- a set and its history, apart from each other and from the box -/
def Sh (C a e h : Addr) (rs : List Run) (hs : List Deed) (m : Nat) (H : Hp) : Prop := SpA C e [a, h] rs H ∧ HistA h [a, e] hs H ∧ (∀ o, Mem o rs ↔ hasF hs o = true) ∧ rs.length ≤ m ∧ hs.length ≤ m
theorem Sh.box {C a e h : Addr} {rs : List Run} {hs : List Deed} {m : Nat} {H H' : Hp} (S : Sh C a e h rs hs m H) (c : Ch [a] H H') : Sh C a e h rs hs m H' := ⟨S.1.ch c (by simp), S.2.1.ch c (by simp), S.2.2⟩
theorem Sh.same {C a e h : Addr} {rs : List Run} {hs : List Deed} {m : Nat} {H H' : Hp} (S : Sh C a e h rs hs m H) (s : Same H H') : Sh C a e h rs hs m H' := ⟨S.1.same s, S.2.1.same s, S.2.2⟩
theorem Sh.ne {C a e h : Addr} {rs : List Run} {hs : List Deed} {m : Nat} {H : Hp} (S : Sh C a e h rs hs m H) : e ≠ a ∧ h ≠ a ∧ e ≠ h := by
  obtain ⟨S, A, _⟩ := S
  obtain ⟨_, _, _, _, _, s, _⟩ := S
  obtain ⟨_, _, _, t, _⟩ := A
  simp only [List.mem_cons, List.not_mem_nil, or_false, not_or] at s t
  exact ⟨s.1, t.1, s.2⟩
def sp__law_comb_agrees (K : PySem.W.Frag) (C : Addr) : Sp := fun vs H Q _ => ∃ (a : Addr) (F : List Addr), vs = [.ref a] ∧ Box a F H ∧ Al F H ∧ ∀ H', Box a F H' → Ch [a] H H' → Q (.bl true) H'
set_option maxHeartbeats 0 in
theorem ok__law_comb_agrees (T : Txt K mg) : FnOk P w K mg base CX0 7 T.a__law_comb_agrees T.fd__law_comb_agrees ["box"] (sp__law_comb_agrees K T.c_Spans) := by
  have S := sc__law_comb_agrees
  refine T.F__law_comb_agrees.ok S (fun vs H Q E h => ?_) (fun cdv A outer s H vs Q E hr h => ?_)
  · obtain ⟨a, F, rfl, _⟩ := h
    rfl
  · obtain ⟨a, F, rfl, B0, A0, k⟩ := h
    refine ⟨_, (pss_cons (ps_set (i := 1) S.nd rfl (Or.inl rfl) (pe_call (ok__law_draw T) (hr.mono (by decide)) rfl T.g__law_draw T.F__law_draw.kp T.B__law_draw .nil pass0 (pa_cons (pv 0) (pa_cons pe_int pa_nil))))
      (pss_cons (ps_set (i := 2) S.nd rfl (Or.inl rfl) (pe_op op_add pe_int (pe_call (ok__law_draw T) (hr.mono (by decide)) rfl T.g__law_draw T.F__law_draw.kp T.B__law_draw .nil pass0 (pa_cons (pv 0) (pa_cons pe_int pa_nil)))))
      (pss_cons (ps_set (i := 3) S.nd rfl (Or.inl rfl) (pe_op op_add (pe_op op_add (pv 2) pe_int) (pe_call (ok__law_draw T) (hr.mono (by decide)) rfl T.g__law_draw T.F__law_draw.kp T.B__law_draw .nil pass0 (pa_cons (pv 0) (pa_cons pe_int pa_nil)))))
      (pss_cons (ps_set (i := 4) S.nd rfl (Or.inl rfl) (pe_call (ok__law_draw T) (hr.mono (by decide)) rfl T.g__law_draw T.F__law_draw.kp T.B__law_draw .nil pass0 (pa_cons (pv 0) (pa_cons pe_int pa_nil))))
      (pss_cons (ps_set (i := 5) S.nd rfl (Or.inl rfl) (pe_cmpR op_eq (pe_call (ok__law_draw T) (hr.mono (by decide)) rfl T.g__law_draw T.F__law_draw.kp T.B__law_draw .nil pass0 (pa_cons (pv 0) (pa_cons pe_int pa_nil))) pe_int (nomark _)))
      (pss_cons (ps_set (i := 6) S.nd rfl (Or.inl rfl) (pe_lst pa_nil))
      (pss_cons (ps_set (i := 7) S.nd rfl (Or.inl rfl) (pe_makeR0 T.M_Spans (ok_Spans_init_ T) (hr.mono (by decide)) rfl T.g_Spans passL))
      (pss_cons (ps_for PassesOwn.never rfl (pi_range1 (by rfl) T.b_range (pa_cons (pv 4) pa_nil)) (pg_name (i := 8) S.nd rfl (Or.inl rfl)) (pss_cons (ps_set (i := 9) S.nd rfl (Or.inl rfl) (pv 8))
      (C8.pss_cut (ps_if (pt_val (pv 5)) (pss_one (ps_set (i := 9) S.nd rfl (Or.inl rfl) (pe_op op_sub (pe_op op_sub (pv 4) pe_int) (pv 8)))) pss_nil)
      (pss_cons (ps_set (i := 10) S.nd rfl (Or.inl rfl) (pe_tup (pa_cons (pe_op op_add (pv 1) (pe_op op_mul (pv 9) (pv 3))) (pa_cons (pe_op op_add (pe_op op_add (pv 1) (pe_op op_mul (pv 9) (pv 3))) (pv 2)) pa_nil))))
      (pss_cons (ps_expr (pe_meth (pv 7) T.cl_Spans T.m_Spans_put (ok_Spans_put T) (hr.mono (by decide)) T.B_Spans_put .nil passL (pa_cons (pe_ix ix_tup (pv 10) pe_int (fun _ _ => rfl)) (pa_cons (pe_ix ix_tup (pv 10) pe_int (fun _ _ => rfl)) pa_nil))))
      (pss_one (ps_expr (pe_bm PySem.F.plainAttrs_list PySem.F.slot_list_append PySem.F.type_list_append mt_append (pv 6) (pa_cons (pe_tup (pa_cons pe_bl (pa_cons (pe_ix ix_tup (pv 10) pe_int (fun _ _ => rfl)) (pa_cons (pe_ix ix_tup (pv 10) pe_int (fun _ _ => rfl)) pa_nil)))) pa_nil)))))))))
      (pss_cons (ps_if (PW.pt (pw_or (pt_not (pt_val (pe_call (ok__law_pairs_are T) (hr.mono (by decide)) rfl T.g__law_pairs_are T.F__law_pairs_are.kp T.B__law_pairs_are .nil pass0 (pa_cons (pe_meth0 (pv 7) T.cl_Spans T.m_Spans_rows (ok_Spans_rows T) (hr.mono (by decide)) T.B_Spans_rows .nil pass0) (pa_cons (pe_call (ok__law_due T) (hr.mono (by decide)) rfl T.g__law_due T.F__law_due.kp T.B__law_due .nil pass0 (pa_cons (pv 6) pa_nil)) pa_nil))))) (pw_or1 (pt_cmpR op_ne (pe_callB (id := "len") (call_lenOwn T.m_Spans_len_ (ok_Spans_len_ T) (hr.mono (by decide)) T.B_Spans_len_ pass0) (by rfl) T.b_len (by decide +kernel) (pa_cons (pv 7) pa_nil)) (pv 4) (nomark _))))) (pss_one (ps_ret pe_bl)) pss_nil)
      (pss_cons (ps_set (i := 11) S.nd rfl (Or.inl rfl) (pe_op op_add (pv 1) (pe_call (ok__law_draw T) (hr.mono (by decide)) rfl T.g__law_draw T.F__law_draw.kp T.B__law_draw .nil pass0 (pa_cons (pv 0) (pa_cons (pe_op op_add (pe_op op_mul (pv 3) (pv 4)) pe_int) pa_nil)))))
      (pss_cons (ps_set (i := 12) S.nd rfl (Or.inl rfl) (pe_op op_add (pv 11) (pe_call (ok__law_draw T) (hr.mono (by decide)) rfl T.g__law_draw T.F__law_draw.kp T.B__law_draw .nil pass0 (pa_cons (pv 0) (pa_cons (pe_op op_add (pe_op op_mul (pv 3) (pv 4)) pe_int) pa_nil)))))
      (pss_cons (ps_set (i := 13) S.nd rfl (Or.inl rfl) (pe_cmpR op_eq (pe_call (ok__law_draw T) (hr.mono (by decide)) rfl T.g__law_draw T.F__law_draw.kp T.B__law_draw .nil pass0 (pa_cons (pv 0) (pa_cons pe_int pa_nil))) pe_int (nomark _)))
      (C8.pss_cut (ps_if (pt_val (pv 13)) (pss_one (ps_expr (pe_meth (pv 7) T.cl_Spans T.m_Spans_put (ok_Spans_put T) (hr.mono (by decide)) T.B_Spans_put .nil passL (pa_cons (pv 11) (pa_cons (pv 12) pa_nil))))) (pss_one (ps_expr (pe_meth (pv 7) T.cl_Spans T.m_Spans_drop (ok_Spans_drop T) (hr.mono (by decide)) T.B_Spans_drop .nil passL (pa_cons (pv 11) (pa_cons (pv 12) pa_nil))))))
      (pss_cons (ps_expr (pe_bm PySem.F.plainAttrs_list PySem.F.slot_list_append PySem.F.type_list_append mt_append (pv 6) (pa_cons (pe_tup (pa_cons (pv 13) (pa_cons (pv 11) (pa_cons (pv 12) pa_nil)))) pa_nil)))
      (pss_one (ps_ret (pe_call (ok__law_pairs_are T) (hr.mono (by decide)) rfl T.g__law_pairs_are T.F__law_pairs_are.kp T.B__law_pairs_are .nil pass0 (pa_cons (pe_meth0 (pv 7) T.cl_Spans T.m_Spans_rows (ok_Spans_rows T) (hr.mono (by decide)) T.B_Spans_rows .nil pass0) (pa_cons (pe_call (ok__law_due T) (hr.mono (by decide)) rfl T.g__law_due T.F__law_due.kp T.B__law_due .nil pass0 (pa_cons (pv 6) pa_nil)) pa_nil))))))))))))))))))), ?_⟩
    refine st__law_comb_agrees ?_
    o_args
    refine ⟨a, F, _, rfl, B0, by decide, by decide, fun low H1 l0 l1 B1 c1 => ?_⟩
    o_args
    refine ⟨a, F, _, rfl, B1, by decide, by decide, fun wd H2 wd0 wd1 B2 c2 => ?_⟩
    o_args
    refine ⟨a, F, _, rfl, B2, by decide, by decide, fun sd H3 sd0 sd1 B3 c3 => ?_⟩
    o_args
    refine ⟨a, F, _, rfl, B3, by decide, by decide, fun many H4 m0 m1 B4 c4 => ?_⟩
    o_args
    refine ⟨a, F, _, rfl, B4, by decide, by decide, fun td H5 _ _ B5 c5 => ?_⟩
    have C5 := (((c1.trans c2).trans c3).trans c4).trans c5
    have A5 := A0.ch C5
    clear B0 B1 B2 B3 B4 c1 c2 c3 c4 c5
    o_args
    refine newList (by simp) fun h H6 nh s6 h6 => ?_
    o_args
    obtain ⟨width, ew⟩ : ∃ w, w = 1 + wd := ⟨_, rfl⟩
    obtain ⟨step, es⟩ : ∃ w, w = 1 + wd + 1 + sd := ⟨_, rfl⟩
    obtain ⟨tn, et⟩ : ∃ w, w = decide (td = 1) := ⟨_, rfl⟩
    rw [← es, ← ew, ← et]
    obtain ⟨m, rfl⟩ : ∃ m : Nat, many = m := ⟨many.toNat, by omega⟩
    refine make_spans (xs := []) (ps := []) rfl (by simp) (fun i x r q => nomatch q) (fun e rs0 H8 ne s8 P8 z8 M8 => ?_)
    have e0 : rs0 = [] := List.eq_nil_of_length_eq_zero (by simpa using z8)
    subst e0
    have N0e : H e = none := C5.none (none_of s6 ne)
    have N0h : H h = none := C5.none nh
    have B8 : Box a (e :: h :: F) H8 := (B5.own nh s6).own ne s8
    have a5 := B5.al.choose_spec
    have nha : h ≠ a := fun z => by rw [z] at nh; exact absurd (nh.symm.trans B5.al.choose_spec) (fun z => nomatch z)
    have nea : e ≠ a := fun z => by rw [z] at ne; exact absurd (ne.symm.trans (s6 _ _ B5.al.choose_spec)) (fun z => nomatch z)
    have neh : e ≠ h := (ne_of_none h6 ne).symm
    have A6 : Al [a, h] H6 := .cons (B5.same s6).al.choose_spec (.cons h6 .nil)
    have S8 : Sh T.c_Spans a e h [] [] 0 H8 := ⟨P8 [a, h] A6, ⟨[], s8 _ _ h6, ⟨rfl, fun _ _ _ q => nomatch q⟩, by simp [nha, neh.symm], fun _ q => nomatch q⟩, fun o => ⟨fun z => absurd z Mem.nil, fun z => nomatch z⟩, Nat.le_refl _, Nat.le_refl _⟩
    have C8 : Ch [a] H H8 := C5.trans (Ch.of (s6.trans s8))
    o_args
    refine rngF (n := (m : Int)) (by omega) (by omega) (for_rangeK (lo := 0) (n := (m : Int).toNat) (fun i σ H' => ∃ u v w rs hs, σ = [some (.ref a), some (.int low), some (.int width), some (.int step), some (.int (m : Int)), some (.bl tn), some (.ref h), some (.ref e), u, v, w, none, none, none] ∧ Box a (e :: h :: F) H' ∧ Sh T.c_Spans a e h rs hs i H' ∧ (∀ o, Mem o rs ↔ ∃ j : Nat, j < i ∧ (combR low step width (plc tn m j)).1 ≤ o ∧ o < (combR low step width (plc tn m j)).2) ∧ Ch [e, h] H8 H') ⟨none, none, none, [], [], rfl, B8, S8, fun o => ⟨fun z => absurd z Mem.nil, fun ⟨j, q, _⟩ => absurd q (Nat.not_lt_zero _)⟩, Ch.refl⟩ ?_ ?_)
    · rintro i σ H9 hi ⟨u, v, w, rs, hs, rfl, B9, S9, M9, c9⟩
      have im : i < m := by omega
      o_args
      refine ⟨fun σ H' => σ = [some (.ref a), some (.int low), some (.int width), some (.int step), some (.int (m : Int)), some (.bl tn), some (.ref h), some (.ref e), some (.int (0 + (i : Int))), some (.int ((plc tn m i : Nat) : Int)), w, none, none, none] ∧ H' = H9, ?_, ?_⟩
      · cases tn
        · o_args
          exact ⟨by rw [show (0 : Int) + (i : Int) = ((plc false m i : Nat) : Int) from Int.zero_add _], rfl⟩
        · o_args
          exact ⟨by rw [show (m : Int) - 1 - (0 + (i : Int)) = ((plc true m i : Nat) : Int) by simp only [plc, if_true]; omega], rfl⟩
      · rintro σ H' ⟨rfl, rfl⟩
        have M10 : ∀ o, (∃ j : Nat, j < i + 1 ∧ (combR low step width (plc tn m j)).1 ≤ o ∧ o < (combR low step width (plc tn m j)).2) ↔ Mem o rs ∨ (low + ((plc tn m i : Nat) : Int) * step ≤ o ∧ o < low + ((plc tn m i : Nat) : Int) * step + width) := fun o => by
          rw [M9 o]
          constructor
          · rintro ⟨j, jl, c⟩
            by_cases z : j = i
            · rw [z] at c
              exact .inr c
            · exact .inl ⟨j, by omega, c⟩
          · rintro (⟨j, jl, c⟩ | c)
            · exact ⟨j, by omega, c⟩
            · exact ⟨i, by omega, c⟩
        have pl : ((plc tn m i : Nat) : Int) < 71 ∧ 0 ≤ ((plc tn m i : Nat) : Int) := ⟨by have := plc_lt (t := tn) im; omega, by omega⟩
        generalize ((plc tn m i : Nat) : Int) = p at pl M10
        obtain ⟨p1, p0⟩ := pl
        have ps0 : 0 ≤ p * step := Int.mul_nonneg p0 (by omega)
        have hi1 := S9.2.2.2.1
        have hi2 := S9.2.2.2.2
        obtain ⟨dx, l, ts, he, _⟩ := id S9.1
        o_args
        refine x_mulL (by omega) ?_
        o_args
        refine x_mulL (by omega) ?_
        o_args
        refine newTup (by simp) fun t H10 nt s10 ht => ?_
        have S10 := S9.same s10
        have B10 := B9.same s10
        have he10 := s10 _ _ he
        have te : t ≠ e := (ne_of_none he nt).symm
        o_args
        refine ⟨e, dx, _, rfl, he10, rfl, ?_⟩
        o_args
        refine ⟨e, _, rs, _, _, rfl, S10.1, by omega, .inl ⟨low + p * step, low + p * step + width, rfl, rfl, by omega, by omega, fun H11 rs' c11 P11 y11 m11 => ?_⟩⟩
        have ht11 := c11.at (by simp [te]) ht
        have B11 := B10.ch c11 (by simp)
        have A11 := S10.2.1.ch c11 (by simp)
        have P11 := P11 [a, h] (.cons B10.al.choose_spec (.cons S10.2.1.at_.choose_spec .nil)) (by simp [nea, neh])
        have al11 : Al [a, e] H11 := .cons B11.al.choose_spec (.cons P11.at_.choose_spec .nil)
        o_args
        obtain ⟨us, h11, T11, hF, tF⟩ := id A11
        refine ⟨isList h11, ?_⟩
        o_args
        refine newTup (by simp) fun u H12 nu s12 h12 => ?_
        o_args
        refine appList (s12 _ _ h11) (by rw [List.length_map, T11.1]; omega) fun H13 s13 h13 => ?_
        have A13 := HistA.push (d := (true, low + p * step, low + p * step + width)) h11 T11 hF tF al11 nu s12 h12 s13 h13
        have c13 : Ch [h] H11 H13 := (Ch.of s12).trans (Ch.ofX (by simp) s13 h13)
        o_args
        refine ⟨_, _, _, rs', hs ++ [(true, low + p * step, low + p * step + width)], rfl, B11.ch c13 (by simp), ⟨P11.ch c13 (by simp), A13, fun o => ?_, by omega, by simp; omega⟩, fun o => ?_, ((c9.trans (Ch.of s10)).trans (c11.more (by simp))).trans (c13.more (by simp))⟩
        · rw [m11 o, hasF_snoc, S9.2.2.1 o]
          by_cases c : low + p * step ≤ o ∧ o < low + p * step + width
          · simp [c]
          · simp [c]
        · rw [m11 o, M10 o]
    · rintro σ H9 ⟨u, v, w, rs, hs, rfl, B9, S9, M9, c9⟩
      rw [Int.toNat_natCast] at S9 M9
      have er : rs = combL low step width m := S9.1.offs.nrm.uniq (comb_nrm (by omega) (by omega)) fun o => by
        rw [M9 o, comb_mem]
        constructor
        · rintro ⟨j, jl, c⟩
          exact ⟨plc tn m j, plc_lt jl, c⟩
        · rintro ⟨p, pl, c⟩
          exact ⟨plc tn m p, plc_lt pl, by rw [plc_plc pl]; exact c⟩
      have lm : rs.length = m := by rw [er, comb_len]
      have C9 : Ch [a] H H9 := ((C8.more (F := [e, h, a]) (by simp)).trans (c9.more (by simp))).drop N0e |>.drop N0h
      clear er M9 c9
      have hi1 := S9.2.2.2.1
      have hi2 := S9.2.2.2.2
      obtain ⟨dx, l, ts, he, _⟩ := id S9.1
      o_args
      refine ⟨e, dx, _, rfl, he, rfl, ?_⟩
      o_args
      refine ⟨e, _, rs, rfl, S9.1, fun t1 us1 H10 nt1 s10 r10 => ?_⟩
      o_args
      refine ⟨h, _, hs, rfl, S9.2.1.same s10, by omega, fun m1 us due H11 nm s11 r11 n11 m11 => ?_⟩
      have ed : due = rs := n11.uniq S9.1.offs.nrm fun o => by rw [m11 o, S9.2.2.1 o]
      subst ed
      have s911 := s10.trans s11
      o_args
      refine ⟨t1, m1, us1, us, due, rfl, r10.same s11, r11, by omega, ?_⟩
      have S11 := S9.same s911
      have B11 := B9.same s911
      have he11 := s911 _ _ he
      have C11 : Ch [a] H H11 := C9.trans (Ch.of s911)
      clear S9 B9 he C9 r10 r11 n11 m11 s10 s11 nt1 nm
      o_args
      refine ⟨e, dx, _, rfl, he11, e, _, due, rfl, S11.1, _, rfl, by omega, by omega, ?_⟩
      rw [lm]
      have sm0 : 0 ≤ step * (m : Int) := Int.mul_nonneg (by omega) (by omega)
      have sm1 : step * (m : Int) ≤ 700 := Int.le_trans (Int.mul_le_mul (show step ≤ 10 by omega) (show (m : Int) ≤ 70 by omega) (by omega) (by decide)) (by decide)
      o_args
      refine brDT rfl ?_
      o_args
      refine x_mulL (by omega) ?_
      o_args
      refine ⟨a, _, _, rfl, B11, by omega, by omega, fun x1 H12 x10 x11 B12 c12 => ?_⟩
      o_args
      refine x_mulL (by omega) ?_
      o_args
      refine ⟨a, _, _, rfl, B12, by omega, by omega, fun x2 H13 x20 x21 B13 c13 => ?_⟩
      o_args
      refine ⟨a, _, _, rfl, B13, by decide, by decide, fun x3 H14 x30 x31 B14 c14 => ?_⟩
      have c1114 := (c12.trans c13).trans c14
      have S14 := S11.box c1114
      have C14 := C11.trans c1114
      have he14 := c1114.at (by simp [nea]) he11
      clear S11 B11 B12 B13 C11 c12 c13 c14 c1114 he11
      o_args
      obtain ⟨ad, ea⟩ : ∃ w, w = decide (x3 = 1) := ⟨_, rfl⟩
      rw [← ea]
      clear ea
      refine ⟨fun σ H' => ∃ rs', σ = [some (.ref a), some (.int low), some (.int width), some (.int step), some (.int (m : Int)), some (.bl tn), some (.ref h), some (.ref e), u, v, w, some (.int (low + x1)), some (.int (low + x1 + x2)), some (.bl ad)] ∧ SpA T.c_Spans e [a, h] rs' H' ∧ Ch [e] H14 H' ∧ rs'.length ≤ due.length + 2 ∧ ∀ o, Mem o rs' ↔ hasF (hs ++ [(ad, low + x1, low + x1 + x2)]) o = true, ?_, ?_⟩
      · cases ad
        · o_args
          refine ⟨e, dx, _, rfl, he14, rfl, ?_⟩
          o_args
          refine ⟨e, _, due, _, _, rfl, S14.1, by omega, .inl ⟨low + x1, low + x1 + x2, rfl, rfl, by omega, by omega, fun H15 rs' c15 P15 y15 m15 => ?_⟩⟩
          o_args
          refine ⟨rs', rfl, P15 [a, h] (.cons B14.al.choose_spec (.cons S14.2.1.at_.choose_spec .nil)) (by simp [nea, neh]), c15, by omega, fun o => ?_⟩
          rw [m15 o, hasF_snoc, S14.2.2.1 o]
          by_cases c : low + x1 ≤ o ∧ o < low + x1 + x2
          · simp [c]
          · simp [c]
        · o_args
          refine ⟨e, dx, _, rfl, he14, rfl, ?_⟩
          o_args
          refine ⟨e, _, due, _, _, rfl, S14.1, by omega, .inl ⟨low + x1, low + x1 + x2, rfl, rfl, by omega, by omega, fun H15 rs' c15 P15 y15 m15 => ?_⟩⟩
          o_args
          refine ⟨rs', rfl, P15 [a, h] (.cons B14.al.choose_spec (.cons S14.2.1.at_.choose_spec .nil)) (by simp [nea, neh]), c15, by omega, fun o => ?_⟩
          rw [m15 o, hasF_snoc, S14.2.2.1 o]
          by_cases c : low + x1 ≤ o ∧ o < low + x1 + x2
          · simp [c]
          · simp [c]
      · rintro σ H15 ⟨rs', rfl, P15, c15, y15, m15⟩
        have A15 := S14.2.1.ch c15 (by simp)
        have B15 := B14.ch c15 (by simp)
        have al15 : Al [a, e] H15 := .cons B15.al.choose_spec (.cons P15.at_.choose_spec .nil)
        o_args
        obtain ⟨us, h15, T15, hF, tF⟩ := id A15
        refine ⟨isList h15, ?_⟩
        o_args
        refine newTup (by simp) fun t H16 nt s16 h16 => ?_
        o_args
        refine appList (s16 _ _ h15) (by rw [List.length_map, T15.1]; omega) fun H17 s17 h17 => ?_
        have A17 := HistA.push (d := (ad, low + x1, low + x1 + x2)) h15 T15 hF tF al15 nt s16 h16 s17 h17
        have c17 : Ch [h] H15 H17 := (Ch.of s16).trans (Ch.ofX (by simp) s17 h17)
        have P17 := P15.ch c17 (by simp)
        have B17 := B15.ch c17 (by simp)
        have C17 : Ch [a] H H17 := (((C14.more (F := [e, h, a]) (by simp)).trans (c15.more (by simp))).trans (c17.more (by simp))).drop N0e |>.drop N0h
        obtain ⟨dx', l', ts', he', _⟩ := id P17
        o_args
        refine ⟨e, dx', _, rfl, he', rfl, ?_⟩
        o_args
        refine ⟨e, _, rs', rfl, P17, fun t2 us2 H18 nt2 s18 r18 => ?_⟩
        o_args
        refine ⟨h, _, _, rfl, A17.same s18, by simp; omega, fun m2 us3 due2 H19 nm2 s19 r19 n19 m19 => ?_⟩
        have ed : due2 = rs' := n19.uniq P17.offs.nrm fun o => by rw [m19 o, m15 o]
        subst ed
        o_args
        refine ⟨t2, m2, us2, us3, due2, rfl, r18.same s19, r19, by omega, ?_⟩
        o_args
        exact k H19 ((B17.same (s18.trans s19)).less (fun b hb => by simp [hb])) (C17.trans (Ch.of (s18.trans s19)))
/-! ### the law -/
theorem hasF_all : ∀ {ps : List Run} {o : Int}, hasF (ps.map fun r => (true, r.1, r.2)) o = true ↔ Mem o ps := by
  intro ps o
  suffices g : ∀ (ps : List Run) (b : Bool), (ps.map fun r => ((true, r.1, r.2) : Deed)).foldl (fun b d => if d.2.1 ≤ o ∧ o < d.2.2 then d.1 else b) b = true ↔ b = true ∨ Mem o ps from (g ps false).trans ⟨fun q => q.resolve_left (fun z => nomatch z), .inr⟩
  intro ps
  induction ps with
  | nil => exact fun b => ⟨.inl, fun q => q.resolve_right Mem.nil⟩
  | cons r rs ih =>
    intro b
    rw [List.map_cons, List.foldl_cons, ih, Mem.cons]
    by_cases c : r.1 ≤ o ∧ o < r.2
    · simp [c]
    · simp [c]
theorem Ch.newS {ls : List Addr} {H H' : Hp} (c : Ch ls H H') (n : ∀ l ∈ ls, H l = Option.none) : Same H H' := fun b o e => c.1 b o (fun z => by rw [n b z] at e; cases e) e
theorem SameX.none_of {H H' : Hp} {D l : Addr} (s : SameX D H H') (h : H' l = Option.none) (ne : l ≠ D) : H l = Option.none := by
  cases q : H l with
  | none => rfl
  | some o => rw [s l o ne q] at h; cases h
def sp_law (K : PySem.W.Frag) : Sp := fun vs H Q _ => ∃ (a : Addr) (ns : List Int), vs = [.ref a] ∧ SqL K H a (ns.map V.int) ∧ ns.length ≤ 63 ∧ ∀ H', Q (.bl true) H'
set_option maxHeartbeats 0 in
theorem ok_law (T : Txt K mg) : FnStill P w K mg base 9 T.a_law T.fd_law ["script"] (sp_law K) := by
  have S := sc_law
  refine still_fn T.F_law S (fun vs H Q E h => ?_) (fun cdv A outer s H vs Q E hg hr h => ?_)
  · obtain ⟨s, ns, rfl, _⟩ := h
    rfl
  · obtain ⟨s, ns0, rfl, hS, _, k⟩ := h
    refine ⟨_, (pss_cons (ps_set (i := 1) S.nd rfl (Or.inr rfl) (pe_call (ok__law_box T) (hr.mono (by decide)) rfl T.g__law_box T.F__law_box.kp T.B__law_box .nil pass0 (pa_cons (pv 0) pa_nil)))
      (pss_cons (ps_set (i := 2) S.nd rfl (Or.inr rfl) (pe_lst pa_nil))
      (pss_cons (ps_set (i := 3) S.nd rfl (Or.inl rfl) (pe_op op_add pe_int (pe_call (ok__law_draw T) (hr.mono (by decide)) rfl T.g__law_draw T.F__law_draw.kp T.B__law_draw .nil pass0 (pa_cons (pv 1) (pa_cons pe_int pa_nil)))))
      (pss_cons (ps_set (i := 4) S.nd rfl (Or.inl rfl) (pe_call (ok__law_draw T) (hr.mono (by decide)) rfl T.g__law_draw T.F__law_draw.kp T.B__law_draw .nil pass0 (pa_cons (pv 1) (pa_cons pe_int pa_nil))))
      (pss_cons (ps_setLc (i := 5) (own := [("k", 12)]) (g := gName 12) (tt := tYes) rfl S.nd rfl rfl (sw_true rfl rfl rfl (by decide +kernel)) (pi_range1 (by rfl) T.b_range (pa_cons (pv 4) pa_nil)) (blkOk_by (N := ["script", "box", "ends", "rounds", "many", "pairs", "spans", "pair", "listed", "other", "history", "before", "k"]) (sc := defScope s_law) (by decide +kernel)) (fun _ _ _ _ _ => pg_name (i := 12) S.nd rfl (Or.inl rfl)) (fun _ _ _ _ _ => pts_nil) (fun _ _ _ _ _ => (pe_call (ok__law_pair T) (hr.mono (by decide)) rfl T.g__law_pair T.F__law_pair.kp T.B__law_pair .nil pass0 (pa_cons (pv 1) (pa_cons (pv 2) pa_nil)))))
      (pss_cons (ps_set (i := 6) S.nd rfl (Or.inl rfl) (pe_call (ok__law_spans T) (hr.mono (by decide)) rfl T.g__law_spans T.F__law_spans.kp T.B__law_spans .nil pass0 (pa_cons (pv 5) pa_nil)))
      (pss_cons (ps_setLc (i := 8) (own := [("pair", 7)]) (g := gName 7) (tt := tYes) rfl S.nd rfl rfl (sw_true rfl rfl rfl (by decide +kernel)) (pi_list (pv 5)) (blkOk_by (N := ["script", "box", "ends", "rounds", "many", "pairs", "spans", "pair", "listed", "other", "history", "before", "k"]) (sc := defScope s_law) (by decide +kernel)) (fun _ _ _ _ _ => pg_name (i := 7) S.nd rfl (Or.inl rfl)) (fun _ _ _ _ _ => pts_nil) (fun _ _ _ _ _ => (pe_callTy (T := "list") (call_listK (K := K) rfl) (by rfl) T.b_list (by decide +kernel) (pa_cons (pv 7) pa_nil))))
      (pss_cons (ps_set (i := 9) S.nd rfl (Or.inl rfl) (pe_call (ok__law_spans T) (hr.mono (by decide)) rfl T.g__law_spans T.F__law_spans.kp T.B__law_spans .nil pass0 (pa_cons (pv 8) pa_nil)))
      (pss_cons (ps_for PassesOwn.never rfl (pi_list (pv 8)) (pg_name (i := 7) S.nd rfl (Or.inl rfl)) (pss_one (ps_asg (pe_op op_add (pe_ix ix_seq (pv 7) pe_int (fun _ _ => rfl)) pe_int) (pg_sub (pv 7) pe_int set_list))))
      (pss_cons (ps_setLc (i := 10) (own := [("pair", 7)]) (g := gName 7) (tt := tYes) rfl S.nd rfl rfl (sw_true rfl rfl rfl (by decide +kernel)) (pi_list (pv 5)) (blkOk_by (N := ["script", "box", "ends", "rounds", "many", "pairs", "spans", "pair", "listed", "other", "history", "before", "k"]) (sc := defScope s_law) (by decide +kernel)) (fun _ _ _ _ _ => pg_name (i := 7) S.nd rfl (Or.inl rfl)) (fun _ _ _ _ _ => pts_nil) (fun _ _ _ _ _ => (pe_tup (pa_cons pe_bl (pa_cons (pe_ix (show IxR _ (rIx K) from ix_seq) (pv 7) pe_int (fun _ _ => rfl)) (pa_cons (pe_ix (show IxR _ (rIx K) from ix_seq) (pv 7) pe_int (fun _ _ => rfl)) pa_nil))))))
      (pss_cons (ps_set (i := 11) S.nd rfl (Or.inl rfl) (pe_callTy (T := "list") (call_listK (K := K) rfl) (by rfl) T.b_list (by decide +kernel) (pa_cons (pv 10) pa_nil)))
      (pss_cons (ps_if (pt_not (pt_val (pe_call (ok__law_agrees T) (hr.mono (by decide)) rfl T.g__law_agrees T.F__law_agrees.kp T.B__law_agrees .nil pass0 (pa_cons (pv 6) (pa_cons (pv 10) pa_nil))))) (pss_one (ps_ret pe_bl)) pss_nil)
      (pss_cons (ps_if (pt_not (pt_val (pe_still hg (ok__law_plays T) (hr.mono (by decide)) rfl T.g__law_plays T.F__law_plays.kp T.B__law_plays .nil pass0 (pa_cons (pv 1) (pa_cons (pv 6) (pa_cons (pv 10) (pa_cons (pv 2) (pa_cons (pv 3) pa_nil)))))))) (pss_one (ps_ret pe_bl)) pss_nil)
      (pss_cons (ps_if (pt_not (pt_val (pe_still hg (ok__law_new_refuses T) (hr.mono (by decide)) rfl T.g__law_new_refuses T.F__law_new_refuses.kp T.B__law_new_refuses .nil pass0 (pa_cons (pv 1) (pa_cons (pv 2) pa_nil))))) (pss_one (ps_ret pe_bl)) pss_nil)
      (C8.pss_cut (ps_if (PW.pt (pw_and (pt_cmpR op_eq (pe_call (ok__law_draw T) (hr.mono (by decide)) rfl T.g__law_draw T.F__law_draw.kp T.B__law_draw .nil pass0 (pa_cons (pv 1) (pa_cons pe_int pa_nil))) pe_int (nomark _)) (pw_and1 (pt_not (pt_val (pe_call (ok__law_comb_agrees T) (hr.mono (by decide)) rfl T.g__law_comb_agrees T.F__law_comb_agrees.kp T.B__law_comb_agrees .nil pass0 (pa_cons (pv 1) pa_nil))))))) (pss_one (ps_ret pe_bl)) pss_nil)
      (pss_one (ps_ret (pe_and (pe_call (ok__law_agrees T) (hr.mono (by decide)) rfl T.g__law_agrees T.F__law_agrees.kp T.B__law_agrees .nil pass0 (pa_cons (pv 6) (pa_cons (pv 10) pa_nil))) (pe_one (pe_call (ok__law_agrees T) (hr.mono (by decide)) rfl T.g__law_agrees T.F__law_agrees.kp T.B__law_agrees .nil pass0 (pa_cons (pv 9) (pa_cons (pv 11) pa_nil)))))))))))))))))))))), ?_⟩
    refine st_law ?_
    o_args
    refine ⟨s, ns0, rfl, hS, fun a H1 na s1 B1 => ?_⟩
    o_args
    refine newList (by simp) fun n H2 nn s2 h2 => ?_
    have B2 : Box a [n] H2 := (B1 [] Al.nil).own nn s2
    o_args
    refine ⟨a, _, _, rfl, B2, by decide, by decide, fun rd H3 rd0 rd1 B3 c3 => ?_⟩
    o_args
    refine ⟨a, _, _, rfl, B3, by decide, by decide, fun many H4 m0 m1 B4 c4 => ?_⟩
    have h4 : IntL n [] H4 := (c3.trans c4).at (fun z => B2.nin (by rw [List.mem_singleton.mp z]; exact List.mem_cons_self)) h2
    clear B1 B2 B3 c3 c4 s1 s2 na nn
    o_args
    refine ⟨_, rfl, many, rfl, by omega, by omega, fun D hD => ?_⟩
    have dn : D ≠ n := (ne_of_none h4 hD).symm
    have da : D ≠ a := fun z => by rw [z] at hD; exact absurd (hD.symm.trans B4.al.choose_spec) (fun z => nomatch z)
    refine lc_range (lo := 0) (n := many.toNat) (fun i H' => ∃ (ts : List Addr) (ps : List Run) (ns : List Int), H' D = some (.lst (ts.map V.ref)) ∧ Tups H' ts ps ∧ ps.length = i ∧ (∀ r ∈ ps, 0 ≤ r.1 ∧ r.1 ≤ r.2) ∧ IntL n ns H' ∧ ns.length = 2 * i ∧ Box a [D, n] H') ⟨[], [], [], upd_same, Tups.nil, rfl, (fun _ q => nomatch q), (Same.new hD) _ _ h4, rfl, B4.own hD (Same.new hD)⟩ ?_ ?_
    · rintro i H' hi ⟨ts, ps, ns, hD', T', lp, op, N', ln, B'⟩
      refine ⟨rfl, ?_⟩
      dsimp only [tYes]
      rw [if_pos rfl]
      show tCall sp__law_pair [] E0 _ [some (.ref s), some (.ref a), some (.ref n), some (.int (2 + rd)), some (.int many), none, none, none, none, none, none, none, some (.int (0 + (i : Int)))] H' _
      o_args
      refine ⟨a, n, _, ns, rfl, B', by simp, N', by omega, fun t lo hi ns' H2 nt l0 lh hh ht N2 z2 B2 c2 => ?_⟩
      have lt := T'.1
      have hD2 := c2.at (by simp [da, dn]) hD'
      have tD : t ≠ D := (ne_of_none hD' nt).symm
      have cu : Ch [D] H2 (upd H2 D (.lst (ts.map V.ref ++ [V.ref t]))) := Ch.ofX (by simp) SameX.upd upd_same
      have ne1 : ∀ u ∈ ts, u ∉ [a, n] := fun u hu z => by
        obtain ⟨j, hj⟩ := List.mem_iff_getElem?.mp hu
        have jl := getq_lt hj
        have q := T'.2 j u _ hj (List.getElem?_eq_getElem (show j < ps.length by omega))
        rcases List.mem_cons.mp z with z | z
        · obtain ⟨c, cs, p, r, s', m, h1, _⟩ := B'
          rw [z, h1] at q
          cases q
        · rw [List.mem_singleton.mp z, N'] at q
          cases q
      have T2 : Tups H2 ts ps := T'.ch c2 ne1
      have ne2 : ∀ u ∈ ts, u ∉ [D] := fun u hu z => (T2.lst_ne hD2 u hu) (List.mem_singleton.mp z)
      refine ⟨_, hD2, by rw [List.length_map, sizeLine_eq]; omega, ts ++ [t], ps ++ [(lo, hi)], ns', by rw [upd_same, List.map_append]; rfl, (T2.ch cu ne2).snoc (r := (lo, hi)) (cu.at (by simp [tD]) ht), by simp; omega, fun r hr' => ?_, cu.at (by simp [dn.symm]) N2, by omega, B2.ch cu (by simp)⟩
      rcases List.mem_append.mp hr' with q | q
      · exact op r q
      · rw [List.mem_singleton.mp q]
        exact ⟨l0, lh⟩
    · rintro H5 ⟨ts, ps, ns, hD5, T5, lp, op, N5, ln, B5⟩
      have lt := T5.1
      clear h4 hD B4 hS
      o_args
      have at5 : ∀ {i : Nat} {x : V} {r : Run}, (ts.map V.ref)[i]? = some x → ps[i]? = some r → ∃ t, x = .ref t ∧ H5 t = some (.tup [.int r.1, .int r.2]) ∧ 0 ≤ r.1 ∧ r.1 ≤ r.2 := fun {i x r} hx hp => by
        rw [List.getElem?_map] at hx
        cases c : ts[i]? with
        | none =>
          rw [c] at hx
          cases hx
        | some t =>
          rw [c] at hx
          cases hx
          exact ⟨t, rfl, T5.2 i t r c hp, op r (List.mem_of_getElem? hp)⟩
      refine ⟨D, _, ps, rfl, hD5, by rw [List.length_map, lt], by rw [List.length_map]; omega, fun i x r hx hp => ?_, fun e rs H6 ne s6 P6 z6 M6 => ?_⟩
      · obtain ⟨t, rfl, q1, q2⟩ := at5 hx hp
        exact ⟨⟨t, rfl, .inl q1⟩, q2⟩
      · have a5 := B5.al.choose_spec
        have P6 := P6 [a, n] (.cons a5 (.cons N5 .nil))
        have B6 := B5.own ne s6
        have N6 : IntL n ns H6 := s6 _ _ N5
        have hD6 := s6 _ _ hD5
        have T6 := T5.same s6
        o_args
        have lz : (ts.map V.ref).length < 100000 := by rw [List.length_map]; omega
        refine lcG (a := D) (xs := ts.map V.ref) (fun D2 i vs H' => ∃ ls : List Addr, vs = ls.map V.ref ∧ ls.length = i ∧ SameX D2 H6 H' ∧ (∀ (j : Nat) l (r : Run), ls[j]? = some l → ps[j]? = some r → H' l = some (.lst [.int r.1, .int r.2])) ∧ ∀ l ∈ ls, H6 l = none ∧ l ≠ D2) (fun R h => ⟨_, rfl, h⟩) (SqL.of hD6) lz (fun D2 _ => ⟨[], rfl, rfl, SameX.upd, (fun _ _ _ q => nomatch q), fun _ q => nomatch q⟩) (fun D2 i vs H' hD2 ⟨_, _, _, s, _⟩ => SqL.of (s _ _ (ne_of_none hD6 hD2) hD6)) (fun D2 i v vs H' hD2 hv hle hd hP => ?_) (fun D2 vs H7 hD2 hd hle hP => ?_)
        · obtain ⟨ls, e1, ll, sX, at', nw⟩ := hP
          have il := getq_lt hv
          rw [List.length_map, lt] at il
          obtain ⟨t, rfl, ht, _⟩ := at5 hv (List.getElem?_eq_getElem il)
          have ht' := sX _ _ (ne_of_none (s6 _ _ ht) hD2) (s6 _ _ ht)
          have ip : ps[i]? = some ps[i] := List.getElem?_eq_getElem il
          generalize ps[i] = r at ht ht' ip
          intro Y N hY hN
          dsimp only [tYes]
          rw [if_pos rfl]
          o_args
          refine listOf (SeqA.tup ht') fun l H3 nl s3 h3 => ?_
          have lD : l ≠ D2 := (ne_of_none hd nl).symm
          refine hY _ H3 (s3 _ _ hd) ⟨ls ++ [l], by rw [e1, List.map_append]; rfl, by simp [ll], (sX.trans (SameX.of s3)).upd', fun j x q hx hq => ?_, fun x hx => ?_⟩
          · rcases getq_app hx with ⟨c, hx⟩ | ⟨c, z⟩
            · rw [upd_ne (nw x (List.mem_of_getElem? hx)).2]
              exact s3 _ _ (at' j x q hx hq)
            · rw [c, ll, ip] at hq
              cases hq
              rw [z, upd_ne lD]
              exact h3
          · rcases List.mem_append.mp hx with hx | hx
            · exact nw x hx
            · rw [List.mem_singleton.mp hx]
              exact ⟨sX.none_of nl lD, lD⟩
        obtain ⟨ls, e1, ll, sX, at', nw⟩ := hP
        subst e1
        rw [List.length_map, lt] at ll
        have S67 := Same.ofX hD2 sX
        have N7 : IntL n ns H7 := S67 _ _ N6
        have al7 : Al ([a, n, e] ++ ls) H7 := fun b hb => by
          rcases List.mem_append.mp hb with hb | hb
          · exact ((Al.cons B6.al.choose_spec (Al.cons N6 (Al.cons P6.at_.choose_spec Al.nil))).same S67) b hb
          · obtain ⟨j, hj⟩ := List.mem_iff_getElem?.mp hb
            have jl := getq_lt hj
            rw [at' j b _ hj (List.getElem?_eq_getElem (show j < ps.length by omega))]
            exact fun z => nomatch z
        o_args
        refine ⟨D2, _, ps, rfl, hd, by rw [List.length_map, ll], by rw [List.length_map]; omega, fun i x r hx hp => ?_, fun e2 rs2 H8 ne2 s8 P8 z8 M8 => ?_⟩
        · rw [List.getElem?_map] at hx
          cases c : ls[i]? with
          | none =>
            rw [c] at hx
            cases hx
          | some l =>
            rw [c] at hx
            cases hx
            exact ⟨⟨l, rfl, .inr (at' i l r c hp)⟩, op r (List.mem_of_getElem? hp)⟩
        have P8 := P8 _ al7
        have hd8 := s8 _ _ hd
        have d2ls : D2 ∉ ls := fun z => (nw D2 z).2 rfl
        o_args
        refine overL (SqL.of hd8) (for_list (K := K) (a := D2) (xs := ls.map V.ref) (fun i σ H' => ∃ v, σ = [some (.ref s), some (.ref a), some (.ref n), some (.int (2 + rd)), some (.int many), some (.ref D), some (.ref e), v, some (.ref D2), some (.ref e2), none, none, none] ∧ Ch ls H8 H' ∧ ∀ l ∈ ls, ∃ x y : Int, H' l = some (.lst [.int x, .int y])) ⟨none, rfl, Ch.refl, fun l hl => ?_⟩ (fun i σ H' _ ⟨_, _, c, _⟩ => SqL.of (c.at d2ls hd8)) ?_ ?_)
        · obtain ⟨j, hj⟩ := List.mem_iff_getElem?.mp hl
          have jl := getq_lt hj
          exact ⟨_, _, s8 _ _ (at' j l _ hj (List.getElem?_eq_getElem (show j < ps.length by omega)))⟩
        · rintro i x σ H9 hx ⟨v, rfl, c9, at9⟩
          rw [List.getElem?_map] at hx
          cases c : ls[i]? with
          | none =>
            rw [c] at hx
            cases hx
          | some l =>
            rw [c] at hx
            cases hx
            have ml := List.mem_of_getElem? c
            obtain ⟨x, y, hl⟩ := at9 l ml
            o_args
            refine ix_seqA (i := 1) (v := .int y) (SeqA.lst hl) rfl ?_
            o_args
            refine setL (i := 1) hl (by simp) fun H10 s10 h10 => ?_
            refine ⟨_, rfl, c9.trans (Ch.ofX ml s10 h10), fun q hq => ?_⟩
            by_cases z : q = l
            · rw [z]
              exact ⟨_, _, h10⟩
            · obtain ⟨x', y', hq'⟩ := at9 q hq
              exact ⟨_, _, s10 _ _ z hq'⟩
        · rintro σ H9 ⟨v, rfl, c9, _⟩
          have S69 : Same H6 H9 := ((Ch.of (G := ls) (S67.trans s8)).trans c9).newS fun l hl => (nw l hl).1
          have P9 : SpA T.c_Spans e [a, n] rs H9 := P6.same S69
          have O9 : SpA T.c_Spans e2 [a, n, e] rs2 H9 := (P8.ch c9 (fun b hb => List.mem_append_right _ hb)).less fun b hb => List.mem_append_left _ hb
          have B9 : Box a [e, D, n] H9 := B6.same S69
          have N9 : IntL n ns H9 := S69 _ _ N6
          have hD9 := S69 _ _ hD6
          have at9 : ∀ {i : Nat} {x : V} {r : Run}, (ts.map V.ref)[i]? = some x → ps[i]? = some r → ∃ t, x = .ref t ∧ H9 t = some (.tup [.int r.1, .int r.2]) := fun hx hp => by
            obtain ⟨t, q1, q2, _⟩ := at5 hx hp
            exact ⟨t, q1, S69 _ _ (s6 _ _ q2)⟩
          clear P8 P6 B6 N6 hD6 T6 c9 S69 S67 at5 N7 al7 hd8 hd at' nw T5 B5 N5 hD5 a5 s6 s8 sX
          have dzl := lt
          o_args
          refine lcG (a := D) (xs := ts.map V.ref) (fun D3 i vs H' => ∃ us : List Addr, vs = us.map V.ref ∧ us.length = i ∧ SameX D3 H9 H' ∧ (∀ (j : Nat) u (r : Run), us[j]? = some u → ps[j]? = some r → H' u = some (.tup [.bl true, .int r.1, .int r.2])) ∧ ∀ u ∈ us, H9 u = none ∧ u ≠ D3) (fun R h => ⟨_, rfl, h⟩) (SqL.of hD9) lz (fun D3 _ => ⟨[], rfl, rfl, SameX.upd, (fun _ _ _ q => nomatch q), fun _ q => nomatch q⟩) (fun D3 i vs H' hD3 ⟨_, _, _, s, _⟩ => SqL.of (s _ _ (ne_of_none hD9 hD3) hD9)) (fun D3 i v vs H' hD3 hv hle hd hP => ?_) (fun h vs H10 hD3 hd hle hP => ?_)
          · obtain ⟨us, e1, ll, sX, at', nw⟩ := hP
            have il := getq_lt hv
            rw [List.length_map, lt] at il
            obtain ⟨t, rfl, ht⟩ := at9 hv (List.getElem?_eq_getElem il)
            have ht' := sX _ _ (ne_of_none ht hD3) ht
            have ip : ps[i]? = some ps[i] := List.getElem?_eq_getElem il
            generalize ps[i] = r at ht ht' ip
            intro Y N hY hN
            dsimp only [tYes]
            rw [if_pos rfl]
            o_args
            refine ix_seqA (i := 0) (v := .int r.1) (SeqA.tup ht') rfl ?_
            o_args
            refine ix_seqA (i := 1) (v := .int r.2) (SeqA.tup ht') rfl ?_
            o_args
            refine newTup (by simp) fun u H3 nu s3 h3 => ?_
            have uD : u ≠ D3 := (ne_of_none hd nu).symm
            refine hY _ H3 (s3 _ _ hd) ⟨us ++ [u], by rw [e1, List.map_append]; rfl, by simp [ll], (sX.trans (SameX.of s3)).upd', fun j x q hx hq => ?_, fun x hx => ?_⟩
            · rcases getq_app hx with ⟨c, hx⟩ | ⟨c, z⟩
              · rw [upd_ne (nw x (List.mem_of_getElem? hx)).2]
                exact s3 _ _ (at' j x q hx hq)
              · rw [c, ll, ip] at hq
                cases hq
                rw [z, upd_ne uD]
                exact h3
            · rcases List.mem_append.mp hx with hx | hx
              · exact nw x hx
              · rw [List.mem_singleton.mp hx]
                exact ⟨sX.none_of nu uD, uD⟩
          obtain ⟨us, e1, ll, sX, at', nw⟩ := hP
          subst e1
          rw [List.length_map, lt] at ll
          have S910 := Same.ofX hD3 sX
          obtain ⟨hs, eh⟩ : ∃ hs : List Deed, hs = ps.map fun r => (true, r.1, r.2) := ⟨_, rfl⟩
          have lh : hs.length = ps.length := by rw [eh, List.length_map]
          have Hi : Hist H10 us hs := ⟨by rw [ll, lh], fun i t d h1 h2 => by
            rw [eh, List.getElem?_map] at h2
            cases c : ps[i]? with
            | none =>
              rw [c] at h2
              cases h2
            | some r =>
              rw [c] at h2
              cases h2
              exact at' i t r h1 c⟩
          have al9 : Al [a, n, e, e2] H9 := .cons B9.al.choose_spec (.cons N9 (.cons P9.at_.choose_spec (.cons O9.at_.choose_spec .nil)))
          have hF := al9.new hD3
          have A10 : HistA h [a, n, e, e2] hs H10 := ⟨us, hd, Hi, hF, fun u hu => al9.new (nw u hu).1⟩
          have M10 : ∀ o, Mem o rs ↔ hasF hs o = true := fun o => by rw [M6 o, eh, hasF_all]
          have W10 : ∀ o, Mem o rs2 ↔ hasF hs o = true := fun o => by rw [M8 o, eh, hasF_all]
          have B10 : Box a [n, e, h] H10 := (B9.own hD3 S910).less (by simp)
          have P10 : SpA T.c_Spans e [a, n, h] rs H10 := (P9.own hD3 S910).less (by simp)
          have O10 : SpA T.c_Spans e2 [a, e, h, n] rs2 H10 := (O9.own hD3 S910).less (by simp)
          have N10 : IntL n ns H10 := S910 _ _ N9
          have uh : ∀ u ∈ us, u ≠ h := fun u hu => (nw u hu).2
          have uF : ∀ u ∈ us, u ∉ [a, n, e] := fun u hu => (al9.less (by simp)).new (nw u hu).1
          clear B9 P9 O9 N9 hD9 at9 sX S910 at' nw hle lz
          o_args
          refine listOf (SeqA.lst hd) fun b H11 nb s11 h11 => ?_
          have al10 : Al [a, n, e, h] H10 := .cons B10.al.choose_spec (.cons N10 (.cons P10.at_.choose_spec (.cons hd .nil)))
          have V11 : HistA b [a, n, e, h] hs H11 := ⟨us, h11, Hi.ch (Ch.of (G := []) s11) (fun _ _ z => nomatch z), al10.new nb, fun u hu z => by
            have := uF u hu
            have := uh u hu
            simp_all⟩
          have A11 := A10.same s11
          have B11 := B10.same s11
          have P11 := P10.same s11
          have O11 := O10.same s11
          have N11 : IntL n ns H11 := s11 _ _ N10
          clear A10 B10 P10 O10 N10 al10 Hi h11
          o_args
          refine ⟨e, h, _, _, rs, hs, rfl, P11, A11, by omega, by omega, M10, fun H12 s12 => ?_⟩
          have S12 : St4 T.c_Spans a e h n 100 H12 := ⟨ns, rs, hs, B11.same s12, s12 _ _ N11, P11.same s12, (A11.same s12).less (by simp), M10, by omega, by omega, by omega⟩
          have V12 := V11.same s12
          have O12 := O11.same s12
          clear A11 B11 P11 O11 N11 V11
          o_args
          refine ⟨a, e, h, n, _, rfl, S12, by omega, by omega, fun H13 S13 c13 => ?_⟩
          have V13 := V12.ch c13 (by simp)
          have O13 := O12.ch c13 (by simp)
          clear V12 O12 S12
          obtain ⟨ns3, rs3, hs3, B13, N13, P13, A13, M13, z131, z132, z133⟩ := id S13
          have al13 : Al [n, e, h] H13 := .cons N13 (.cons P13.at_.choose_spec (.cons A13.at_.choose_spec .nil))
          o_args
          refine ⟨a, n, _, ns3, rfl, B13, al13, by simp, N13, by omega, fun ns4 H14 N14 z14 B14 c14 => ?_⟩
          have P14 := P13.ch c14 (by simp)
          have A14 := A13.ch c14 (by simp)
          have V14 := V13.ch c14 (by simp)
          have O14 := O13.ch c14 (by simp)
          have al14 := al13.ch c14
          clear P13 A13 V13 O13 al13 B13 N13 S13
          o_args
          refine ⟨fun σ H' => σ = [some (.ref s), some (.ref a), some (.ref n), some (.int (2 + rd)), some (.int many), some (.ref D), some (.ref e), v, some (.ref D2), some (.ref e2), some (.ref h), some (.ref b), none] ∧ Ch [a] H14 H', ?_, ?_⟩
          · o_args
            refine ⟨a, _, _, rfl, B14, by decide, by decide, fun x H15 x0 x1 B15 c15 => ?_⟩
            o_args
            refine brD (fun q => ?_) (fun q => ?_)
            · o_args
              refine ⟨a, _, rfl, B15, al14.ch c15, fun H16 B16 c16 => ?_⟩
              o_args
              exact ⟨rfl, c15.trans c16⟩
            · o_args
              exact ⟨rfl, c15⟩
          · rintro σ H15 ⟨rfl, c15⟩
            o_args
            refine ⟨e, h, _, _, rs3, hs3, rfl, P14.ch c15 (by simp), A14.ch c15 (by simp), by omega, by omega, M13, fun H16 s16 => ?_⟩
            o_args
            refine ⟨e2, b, _, _, rs2, hs, rfl, (O14.ch c15 (by simp)).same s16, (V14.ch c15 (by simp)).same s16, by omega, by omega, W10, fun H17 s17 => ?_⟩
            o_args
            exact k H17
end
set_option maxHeartbeats 0 in
theorem all_mk {l : PySem.W.OpenLaw} {w : World} {K : PySem.W.Frag} {h : Heap} {mg : Str → Option Value} {fa : Addr} (X : K.In h) (G : h.Ns mainGlobals mg) (hfa : mg "law" = some (.ref fa))
    {c_Spans c_LossError c_InvalidNumber c_InvalidSetting a_InvalidNumber_init_ a_InvalidSetting_init_ a_is_integer a_is_at_least a_is_sequence a_is_run a_joined a_missing a_common a_without a_Spans_init_ a_Spans_contains_ a_Spans_len_ a_Spans_rows a_Spans_total a_Spans_put a_Spans_drop a_Spans_holding a__law_box a__law_draw a__law_end a__law_pair a__law_spans a__law_has a__law_due a__law_is_whole a__law_pairs_are a__law_agrees a__law_bad_pair a__law_new_refuses a__law_bad_ends a__law_call_refuses a__law_plays a__law_comb_agrees a_law : Addr}
    {od_InvalidNumber_init_ an_InvalidNumber_init_ od_InvalidSetting_init_ an_InvalidSetting_init_ od_is_integer an_is_integer od_is_at_least an_is_at_least od_is_sequence an_is_sequence od_is_run an_is_run od_joined an_joined od_missing an_missing od_common an_common od_without an_without od_Spans_init_ an_Spans_init_ od_Spans_contains_ an_Spans_contains_ od_Spans_len_ an_Spans_len_ od_Spans_rows an_Spans_rows od_Spans_total an_Spans_total od_Spans_put an_Spans_put od_Spans_drop an_Spans_drop od_Spans_holding an_Spans_holding od__law_box an__law_box od__law_draw an__law_draw od__law_end an__law_end od__law_pair an__law_pair od__law_spans an__law_spans od__law_has an__law_has od__law_due an__law_due od__law_is_whole an__law_is_whole od__law_pairs_are an__law_pairs_are od__law_agrees an__law_agrees od__law_bad_pair an__law_bad_pair od__law_new_refuses an__law_new_refuses od__law_bad_ends an__law_bad_ends od__law_call_refuses an__law_call_refuses od__law_plays an__law_plays od__law_comb_agrees an__law_comb_agrees od_law an_law : Option Addr} {sl_InvalidNumber_init_ sl_InvalidSetting_init_ sl_is_integer sl_is_at_least sl_is_sequence sl_is_run sl_joined sl_missing sl_common sl_without sl_Spans_init_ sl_Spans_contains_ sl_Spans_len_ sl_Spans_rows sl_Spans_total sl_Spans_put sl_Spans_drop sl_Spans_holding sl__law_box sl__law_draw sl__law_end sl__law_pair sl__law_spans sl__law_has sl__law_due sl__law_is_whole sl__law_pairs_are sl__law_agrees sl__law_bad_pair sl__law_new_refuses sl__law_bad_ends sl__law_call_refuses sl__law_plays sl__law_comb_agrees sl_law : Array (Option Value)}
    {oc_InvalidNumber_init_ kV_InvalidNumber_init_ dc_InvalidNumber_init_ pm_InvalidNumber_init_ cd_InvalidNumber_init_ ct_InvalidNumber_init_ oc_InvalidSetting_init_ kV_InvalidSetting_init_ dc_InvalidSetting_init_ pm_InvalidSetting_init_ cd_InvalidSetting_init_ ct_InvalidSetting_init_ oc_is_integer kV_is_integer dc_is_integer pm_is_integer cd_is_integer ct_is_integer oc_is_at_least kV_is_at_least dc_is_at_least pm_is_at_least cd_is_at_least ct_is_at_least oc_is_sequence kV_is_sequence dc_is_sequence pm_is_sequence cd_is_sequence ct_is_sequence oc_is_run kV_is_run dc_is_run pm_is_run cd_is_run ct_is_run oc_joined kV_joined dc_joined pm_joined cd_joined ct_joined oc_missing kV_missing dc_missing pm_missing cd_missing ct_missing oc_common kV_common dc_common pm_common cd_common ct_common oc_without kV_without dc_without pm_without cd_without ct_without oc_Spans_init_ kV_Spans_init_ dc_Spans_init_ pm_Spans_init_ cd_Spans_init_ ct_Spans_init_ oc_Spans_contains_ kV_Spans_contains_ dc_Spans_contains_ pm_Spans_contains_ cd_Spans_contains_ ct_Spans_contains_ oc_Spans_len_ kV_Spans_len_ dc_Spans_len_ pm_Spans_len_ cd_Spans_len_ ct_Spans_len_ oc_Spans_rows kV_Spans_rows dc_Spans_rows pm_Spans_rows cd_Spans_rows ct_Spans_rows oc_Spans_total kV_Spans_total dc_Spans_total pm_Spans_total cd_Spans_total ct_Spans_total oc_Spans_put kV_Spans_put dc_Spans_put pm_Spans_put cd_Spans_put ct_Spans_put oc_Spans_drop kV_Spans_drop dc_Spans_drop pm_Spans_drop cd_Spans_drop ct_Spans_drop oc_Spans_holding kV_Spans_holding dc_Spans_holding pm_Spans_holding cd_Spans_holding ct_Spans_holding oc__law_box kV__law_box dc__law_box pm__law_box cd__law_box ct__law_box oc__law_draw kV__law_draw dc__law_draw pm__law_draw cd__law_draw ct__law_draw oc__law_end kV__law_end dc__law_end pm__law_end cd__law_end ct__law_end oc__law_pair kV__law_pair dc__law_pair pm__law_pair cd__law_pair ct__law_pair oc__law_spans kV__law_spans dc__law_spans pm__law_spans cd__law_spans ct__law_spans oc__law_has kV__law_has dc__law_has pm__law_has cd__law_has ct__law_has oc__law_due kV__law_due dc__law_due pm__law_due cd__law_due ct__law_due oc__law_is_whole kV__law_is_whole dc__law_is_whole pm__law_is_whole cd__law_is_whole ct__law_is_whole oc__law_pairs_are kV__law_pairs_are dc__law_pairs_are pm__law_pairs_are cd__law_pairs_are ct__law_pairs_are oc__law_agrees kV__law_agrees dc__law_agrees pm__law_agrees cd__law_agrees ct__law_agrees oc__law_bad_pair kV__law_bad_pair dc__law_bad_pair pm__law_bad_pair cd__law_bad_pair ct__law_bad_pair oc__law_new_refuses kV__law_new_refuses dc__law_new_refuses pm__law_new_refuses cd__law_new_refuses ct__law_new_refuses oc__law_bad_ends kV__law_bad_ends dc__law_bad_ends pm__law_bad_ends cd__law_bad_ends ct__law_bad_ends oc__law_call_refuses kV__law_call_refuses dc__law_call_refuses pm__law_call_refuses cd__law_call_refuses ct__law_call_refuses oc__law_plays kV__law_plays dc__law_plays pm__law_plays cd__law_plays ct__law_plays oc__law_comb_agrees kV__law_comb_agrees dc__law_comb_agrees pm__law_comb_agrees cd__law_comb_agrees ct__law_comb_agrees oc_law kV_law dc_law pm_law cd_law ct_law : Value}
    {xn_InvalidNumber xq_InvalidNumber : Str} {xN_InvalidNumber : Addr} {xb_InvalidNumber xm_InvalidNumber : List Value} {xs_InvalidNumber : List Str} {xu_InvalidNumber : List Value} {xa_InvalidNumber : Bool} {xo_InvalidNumber : _} {xd_InvalidNumber : Option Addr} {x0_InvalidNumber x1_InvalidNumber x2_InvalidNumber x3_InvalidNumber x5_InvalidNumber : Option Value}
    {xn_InvalidSetting xq_InvalidSetting : Str} {xN_InvalidSetting : Addr} {xb_InvalidSetting xm_InvalidSetting : List Value} {xs_InvalidSetting : List Str} {xu_InvalidSetting : List Value} {xa_InvalidSetting : Bool} {xo_InvalidSetting : _} {xd_InvalidSetting : Option Addr} {x0_InvalidSetting x1_InvalidSetting x2_InvalidSetting x3_InvalidSetting x5_InvalidSetting : Option Value}
    (aC_Spans : PySem.W.nsIn K mainGlobals "Spans" = some (some (.ref c_Spans)))
    (pg_Spans : PySem.W.plainGet K c_Spans Str.empty = true)
    (hd_Spans : PySem.W.hasDictIn K c_Spans = true)
    (po_Spans : PySem.W.plainOver K c_Spans = true)
    (sa_Spans : PySem.W.findIn K (.ref c_Spans) "__setattr__" = some (some (.builtin "object.__setattr__")))
    (mk_Spans : PySem.W.makesIn K c_Spans = true)
    (kc_Spans : PySem.W.keepIn K (.ref c_Spans) = true)
    (n_Spans__runs : PySem.W.findIn K (.ref c_Spans) "_runs" = some none)
    (aC_LossError : PySem.W.nsIn K mainGlobals "LossError" = some (some (.ref c_LossError)))
    (aC_InvalidNumber : PySem.W.nsIn K mainGlobals "InvalidNumber" = some (some (.ref c_InvalidNumber)))
    (xl_InvalidNumber : K.lookup c_InvalidNumber = some (excClassObj xn_InvalidNumber xq_InvalidNumber c_InvalidNumber xN_InvalidNumber xb_InvalidNumber xm_InvalidNumber true xs_InvalidNumber xu_InvalidNumber xa_InvalidNumber xo_InvalidNumber xd_InvalidNumber x0_InvalidNumber x1_InvalidNumber x2_InvalidNumber x3_InvalidNumber x5_InvalidNumber "ValueError.__new__"))
    (sa_InvalidNumber : PySem.W.findIn K (.ref c_InvalidNumber) "__setattr__" = some (some (.builtin "object.__setattr__")))
    (xx_InvalidNumber : PySem.W.subIn K (.ref c_InvalidNumber) (.type "BaseException") = some true)
    (xt_InvalidNumber : PySem.W.typeIn K (.ref c_InvalidNumber) = some (.type "type"))
    (xk_InvalidNumber : PySem.W.keepIn K (.ref c_InvalidNumber) = true)
    (xi_InvalidNumber : PySem.W.findIn K (.ref c_InvalidNumber) "__init__" = some (some (.ref a_InvalidNumber_init_)))
    (xg_InvalidNumber : PySem.W.findIn K (.ref c_InvalidNumber) "__getattribute__" = some (some (.builtin "BaseException.__getattribute__")))
    (xh_InvalidNumber : PySem.W.findIn K (.ref c_InvalidNumber) "__getattr__" = some none)
    (xy_InvalidNumber : PySem.W.hasDictIn K c_InvalidNumber = true)
    (xc_InvalidNumber : PySem.W.findIn K (.ref c_InvalidNumber) "__class__" = some (some (.builtin "object.__class__")))
    (xr_InvalidNumber : PySem.W.mroIn K c_InvalidNumber (.type "object") = some true)
    (nX_InvalidNumber : PySem.W.findIn K (.ref c_InvalidNumber) "number" = some none)
    (aC_InvalidSetting : PySem.W.nsIn K mainGlobals "InvalidSetting" = some (some (.ref c_InvalidSetting)))
    (xl_InvalidSetting : K.lookup c_InvalidSetting = some (excClassObj xn_InvalidSetting xq_InvalidSetting c_InvalidSetting xN_InvalidSetting xb_InvalidSetting xm_InvalidSetting true xs_InvalidSetting xu_InvalidSetting xa_InvalidSetting xo_InvalidSetting xd_InvalidSetting x0_InvalidSetting x1_InvalidSetting x2_InvalidSetting x3_InvalidSetting x5_InvalidSetting "ValueError.__new__"))
    (sa_InvalidSetting : PySem.W.findIn K (.ref c_InvalidSetting) "__setattr__" = some (some (.builtin "object.__setattr__")))
    (xx_InvalidSetting : PySem.W.subIn K (.ref c_InvalidSetting) (.type "BaseException") = some true)
    (xt_InvalidSetting : PySem.W.typeIn K (.ref c_InvalidSetting) = some (.type "type"))
    (xk_InvalidSetting : PySem.W.keepIn K (.ref c_InvalidSetting) = true)
    (xi_InvalidSetting : PySem.W.findIn K (.ref c_InvalidSetting) "__init__" = some (some (.ref a_InvalidSetting_init_)))
    (xg_InvalidSetting : PySem.W.findIn K (.ref c_InvalidSetting) "__getattribute__" = some (some (.builtin "BaseException.__getattribute__")))
    (xh_InvalidSetting : PySem.W.findIn K (.ref c_InvalidSetting) "__getattr__" = some none)
    (xy_InvalidSetting : PySem.W.hasDictIn K c_InvalidSetting = true)
    (xc_InvalidSetting : PySem.W.findIn K (.ref c_InvalidSetting) "__class__" = some (some (.builtin "object.__class__")))
    (xr_InvalidSetting : PySem.W.mroIn K c_InvalidSetting (.type "object") = some true)
    (nX_InvalidSetting : PySem.W.findIn K (.ref c_InvalidSetting) "setting" = some none)
    (x_get : PySem.W.specialIn K (.builtin "object.__class__") "__get__" = some (some (.builtin "getset_descriptor.__get__")))
    (x_tk : PySem.W.takesIn K (.builtin "object.__class__") = some true)
    (Me_InvalidNumber_InvalidNumber : PySem.W.exmOne K (.ref c_InvalidNumber) (.ref c_InvalidNumber) = some true)
    (Kt_InvalidNumber_InvalidNumber : PySem.W.kitOne K (.ref c_InvalidNumber) (.ref c_InvalidNumber) = some true)
    (Kt_InvalidNumber_InvalidSetting : PySem.W.kitOne K (.ref c_InvalidNumber) (.ref c_InvalidSetting) = some false)
    (Kt_InvalidSetting_InvalidNumber : PySem.W.kitOne K (.ref c_InvalidSetting) (.ref c_InvalidNumber) = some false)
    (Kt_InvalidSetting_InvalidSetting : PySem.W.kitOne K (.ref c_InvalidSetting) (.ref c_InvalidSetting) = some true)
    (Kt_InvalidNumber_LossError : PySem.W.kitOne K (.ref c_InvalidNumber) (.ref c_LossError) = some true)
    (xf_InvalidNumber_init_ : PySem.W.typeIn K (.ref a_InvalidNumber_init_) = some (.type "function"))
    (l_InvalidNumber_init_ : K.lookup a_InvalidNumber_init_ = some ⟨oc_InvalidNumber_init_, od_InvalidNumber_init_, .func (PySem.W.fnOf "__init__" "InvalidNumber.__init__" (defArgs s_InvalidNumber_init_) (defBody s_InvalidNumber_init_) (defScope s_InvalidNumber_init_) .none kV_InvalidNumber_init_ dc_InvalidNumber_init_ pm_InvalidNumber_init_ an_InvalidNumber_init_ cd_InvalidNumber_init_ ct_InvalidNumber_init_), sl_InvalidNumber_init_⟩)
    (e_InvalidNumber_init_ : PySem.W.codeIn K cd_InvalidNumber_init_ "InvalidNumber.__init__" = true)
    (k_InvalidNumber_init_ : PySem.W.keepIn K (.ref a_InvalidNumber_init_) = true)
    (xf_InvalidSetting_init_ : PySem.W.typeIn K (.ref a_InvalidSetting_init_) = some (.type "function"))
    (l_InvalidSetting_init_ : K.lookup a_InvalidSetting_init_ = some ⟨oc_InvalidSetting_init_, od_InvalidSetting_init_, .func (PySem.W.fnOf "__init__" "InvalidSetting.__init__" (defArgs s_InvalidSetting_init_) (defBody s_InvalidSetting_init_) (defScope s_InvalidSetting_init_) .none kV_InvalidSetting_init_ dc_InvalidSetting_init_ pm_InvalidSetting_init_ an_InvalidSetting_init_ cd_InvalidSetting_init_ ct_InvalidSetting_init_), sl_InvalidSetting_init_⟩)
    (e_InvalidSetting_init_ : PySem.W.codeIn K cd_InvalidSetting_init_ "InvalidSetting.__init__" = true)
    (k_InvalidSetting_init_ : PySem.W.keepIn K (.ref a_InvalidSetting_init_) = true)
    (a_is_integer' : PySem.W.nsIn K mainGlobals "is_integer" = some (some (.ref a_is_integer)))
    (l_is_integer : K.lookup a_is_integer = some ⟨oc_is_integer, od_is_integer, .func (PySem.W.fnOf "is_integer" "is_integer" (defArgs s_is_integer) (defBody s_is_integer) (defScope s_is_integer) .none kV_is_integer dc_is_integer pm_is_integer an_is_integer cd_is_integer ct_is_integer), sl_is_integer⟩)
    (e_is_integer : PySem.W.codeIn K cd_is_integer "is_integer" = true)
    (k_is_integer : PySem.W.keepIn K (.ref a_is_integer) = true)
    (a_is_at_least' : PySem.W.nsIn K mainGlobals "is_at_least" = some (some (.ref a_is_at_least)))
    (l_is_at_least : K.lookup a_is_at_least = some ⟨oc_is_at_least, od_is_at_least, .func (PySem.W.fnOf "is_at_least" "is_at_least" (defArgs s_is_at_least) (defBody s_is_at_least) (defScope s_is_at_least) .none kV_is_at_least dc_is_at_least pm_is_at_least an_is_at_least cd_is_at_least ct_is_at_least), sl_is_at_least⟩)
    (e_is_at_least : PySem.W.codeIn K cd_is_at_least "is_at_least" = true)
    (k_is_at_least : PySem.W.keepIn K (.ref a_is_at_least) = true)
    (a_is_sequence' : PySem.W.nsIn K mainGlobals "is_sequence" = some (some (.ref a_is_sequence)))
    (l_is_sequence : K.lookup a_is_sequence = some ⟨oc_is_sequence, od_is_sequence, .func (PySem.W.fnOf "is_sequence" "is_sequence" (defArgs s_is_sequence) (defBody s_is_sequence) (defScope s_is_sequence) .none kV_is_sequence dc_is_sequence pm_is_sequence an_is_sequence cd_is_sequence ct_is_sequence), sl_is_sequence⟩)
    (e_is_sequence : PySem.W.codeIn K cd_is_sequence "is_sequence" = true)
    (k_is_sequence : PySem.W.keepIn K (.ref a_is_sequence) = true)
    (a_is_run' : PySem.W.nsIn K mainGlobals "is_run" = some (some (.ref a_is_run)))
    (l_is_run : K.lookup a_is_run = some ⟨oc_is_run, od_is_run, .func (PySem.W.fnOf "is_run" "is_run" (defArgs s_is_run) (defBody s_is_run) (defScope s_is_run) .none kV_is_run dc_is_run pm_is_run an_is_run cd_is_run ct_is_run), sl_is_run⟩)
    (e_is_run : PySem.W.codeIn K cd_is_run "is_run" = true)
    (k_is_run : PySem.W.keepIn K (.ref a_is_run) = true)
    (a_joined' : PySem.W.nsIn K mainGlobals "joined" = some (some (.ref a_joined)))
    (l_joined : K.lookup a_joined = some ⟨oc_joined, od_joined, .func (PySem.W.fnOf "joined" "joined" (defArgs s_joined) (defBody s_joined) (defScope s_joined) .none kV_joined dc_joined pm_joined an_joined cd_joined ct_joined), sl_joined⟩)
    (e_joined : PySem.W.codeIn K cd_joined "joined" = true)
    (k_joined : PySem.W.keepIn K (.ref a_joined) = true)
    (a_missing' : PySem.W.nsIn K mainGlobals "missing" = some (some (.ref a_missing)))
    (l_missing : K.lookup a_missing = some ⟨oc_missing, od_missing, .func (PySem.W.fnOf "missing" "missing" (defArgs s_missing) (defBody s_missing) (defScope s_missing) .none kV_missing dc_missing pm_missing an_missing cd_missing ct_missing), sl_missing⟩)
    (e_missing : PySem.W.codeIn K cd_missing "missing" = true)
    (k_missing : PySem.W.keepIn K (.ref a_missing) = true)
    (a_common' : PySem.W.nsIn K mainGlobals "common" = some (some (.ref a_common)))
    (l_common : K.lookup a_common = some ⟨oc_common, od_common, .func (PySem.W.fnOf "common" "common" (defArgs s_common) (defBody s_common) (defScope s_common) .none kV_common dc_common pm_common an_common cd_common ct_common), sl_common⟩)
    (e_common : PySem.W.codeIn K cd_common "common" = true)
    (k_common : PySem.W.keepIn K (.ref a_common) = true)
    (a_without' : PySem.W.nsIn K mainGlobals "without" = some (some (.ref a_without)))
    (l_without : K.lookup a_without = some ⟨oc_without, od_without, .func (PySem.W.fnOf "without" "without" (defArgs s_without) (defBody s_without) (defScope s_without) .none kV_without dc_without pm_without an_without cd_without ct_without), sl_without⟩)
    (e_without : PySem.W.codeIn K cd_without "without" = true)
    (k_without : PySem.W.keepIn K (.ref a_without) = true)
    (a_Spans_init_' : PySem.W.findIn K (.ref c_Spans) "__init__" = some (some (.ref a_Spans_init_)))
    (i_Spans_init_ : PySem.W.isFn K (.ref a_Spans_init_) = true)
    (l_Spans_init_ : K.lookup a_Spans_init_ = some ⟨oc_Spans_init_, od_Spans_init_, .func (PySem.W.fnOf "__init__" "Spans.__init__" (defArgs s_Spans_init_) (defBody s_Spans_init_) (defScope s_Spans_init_) .none kV_Spans_init_ dc_Spans_init_ pm_Spans_init_ an_Spans_init_ cd_Spans_init_ ct_Spans_init_), sl_Spans_init_⟩)
    (e_Spans_init_ : PySem.W.codeIn K cd_Spans_init_ "Spans.__init__" = true)
    (k_Spans_init_ : PySem.W.keepIn K (.ref a_Spans_init_) = true)
    (a_Spans_contains_' : PySem.W.findIn K (.ref c_Spans) "__contains__" = some (some (.ref a_Spans_contains_)))
    (i_Spans_contains_ : PySem.W.isFn K (.ref a_Spans_contains_) = true)
    (l_Spans_contains_ : K.lookup a_Spans_contains_ = some ⟨oc_Spans_contains_, od_Spans_contains_, .func (PySem.W.fnOf "__contains__" "Spans.__contains__" (defArgs s_Spans_contains_) (defBody s_Spans_contains_) (defScope s_Spans_contains_) .none kV_Spans_contains_ dc_Spans_contains_ pm_Spans_contains_ an_Spans_contains_ cd_Spans_contains_ ct_Spans_contains_), sl_Spans_contains_⟩)
    (e_Spans_contains_ : PySem.W.codeIn K cd_Spans_contains_ "Spans.__contains__" = true)
    (k_Spans_contains_ : PySem.W.keepIn K (.ref a_Spans_contains_) = true)
    (a_Spans_len_' : PySem.W.findIn K (.ref c_Spans) "__len__" = some (some (.ref a_Spans_len_)))
    (i_Spans_len_ : PySem.W.isFn K (.ref a_Spans_len_) = true)
    (l_Spans_len_ : K.lookup a_Spans_len_ = some ⟨oc_Spans_len_, od_Spans_len_, .func (PySem.W.fnOf "__len__" "Spans.__len__" (defArgs s_Spans_len_) (defBody s_Spans_len_) (defScope s_Spans_len_) .none kV_Spans_len_ dc_Spans_len_ pm_Spans_len_ an_Spans_len_ cd_Spans_len_ ct_Spans_len_), sl_Spans_len_⟩)
    (e_Spans_len_ : PySem.W.codeIn K cd_Spans_len_ "Spans.__len__" = true)
    (k_Spans_len_ : PySem.W.keepIn K (.ref a_Spans_len_) = true)
    (a_Spans_rows' : PySem.W.findIn K (.ref c_Spans) "rows" = some (some (.ref a_Spans_rows)))
    (i_Spans_rows : PySem.W.isFn K (.ref a_Spans_rows) = true)
    (l_Spans_rows : K.lookup a_Spans_rows = some ⟨oc_Spans_rows, od_Spans_rows, .func (PySem.W.fnOf "rows" "Spans.rows" (defArgs s_Spans_rows) (defBody s_Spans_rows) (defScope s_Spans_rows) .none kV_Spans_rows dc_Spans_rows pm_Spans_rows an_Spans_rows cd_Spans_rows ct_Spans_rows), sl_Spans_rows⟩)
    (e_Spans_rows : PySem.W.codeIn K cd_Spans_rows "Spans.rows" = true)
    (k_Spans_rows : PySem.W.keepIn K (.ref a_Spans_rows) = true)
    (a_Spans_total' : PySem.W.findIn K (.ref c_Spans) "total" = some (some (.ref a_Spans_total)))
    (i_Spans_total : PySem.W.isFn K (.ref a_Spans_total) = true)
    (l_Spans_total : K.lookup a_Spans_total = some ⟨oc_Spans_total, od_Spans_total, .func (PySem.W.fnOf "total" "Spans.total" (defArgs s_Spans_total) (defBody s_Spans_total) (defScope s_Spans_total) .none kV_Spans_total dc_Spans_total pm_Spans_total an_Spans_total cd_Spans_total ct_Spans_total), sl_Spans_total⟩)
    (e_Spans_total : PySem.W.codeIn K cd_Spans_total "Spans.total" = true)
    (k_Spans_total : PySem.W.keepIn K (.ref a_Spans_total) = true)
    (a_Spans_put' : PySem.W.findIn K (.ref c_Spans) "put" = some (some (.ref a_Spans_put)))
    (i_Spans_put : PySem.W.isFn K (.ref a_Spans_put) = true)
    (l_Spans_put : K.lookup a_Spans_put = some ⟨oc_Spans_put, od_Spans_put, .func (PySem.W.fnOf "put" "Spans.put" (defArgs s_Spans_put) (defBody s_Spans_put) (defScope s_Spans_put) .none kV_Spans_put dc_Spans_put pm_Spans_put an_Spans_put cd_Spans_put ct_Spans_put), sl_Spans_put⟩)
    (e_Spans_put : PySem.W.codeIn K cd_Spans_put "Spans.put" = true)
    (k_Spans_put : PySem.W.keepIn K (.ref a_Spans_put) = true)
    (a_Spans_drop' : PySem.W.findIn K (.ref c_Spans) "drop" = some (some (.ref a_Spans_drop)))
    (i_Spans_drop : PySem.W.isFn K (.ref a_Spans_drop) = true)
    (l_Spans_drop : K.lookup a_Spans_drop = some ⟨oc_Spans_drop, od_Spans_drop, .func (PySem.W.fnOf "drop" "Spans.drop" (defArgs s_Spans_drop) (defBody s_Spans_drop) (defScope s_Spans_drop) .none kV_Spans_drop dc_Spans_drop pm_Spans_drop an_Spans_drop cd_Spans_drop ct_Spans_drop), sl_Spans_drop⟩)
    (e_Spans_drop : PySem.W.codeIn K cd_Spans_drop "Spans.drop" = true)
    (k_Spans_drop : PySem.W.keepIn K (.ref a_Spans_drop) = true)
    (a_Spans_holding' : PySem.W.findIn K (.ref c_Spans) "holding" = some (some (.ref a_Spans_holding)))
    (i_Spans_holding : PySem.W.isFn K (.ref a_Spans_holding) = true)
    (l_Spans_holding : K.lookup a_Spans_holding = some ⟨oc_Spans_holding, od_Spans_holding, .func (PySem.W.fnOf "holding" "Spans.holding" (defArgs s_Spans_holding) (defBody s_Spans_holding) (defScope s_Spans_holding) .none kV_Spans_holding dc_Spans_holding pm_Spans_holding an_Spans_holding cd_Spans_holding ct_Spans_holding), sl_Spans_holding⟩)
    (e_Spans_holding : PySem.W.codeIn K cd_Spans_holding "Spans.holding" = true)
    (k_Spans_holding : PySem.W.keepIn K (.ref a_Spans_holding) = true)
    (a__law_box' : PySem.W.nsIn K mainGlobals "_law_box" = some (some (.ref a__law_box)))
    (l__law_box : K.lookup a__law_box = some ⟨oc__law_box, od__law_box, .func (PySem.W.fnOf "_law_box" "_law_box" (defArgs s__law_box) (defBody s__law_box) (defScope s__law_box) .none kV__law_box dc__law_box pm__law_box an__law_box cd__law_box ct__law_box), sl__law_box⟩)
    (e__law_box : PySem.W.codeIn K cd__law_box "_law_box" = true)
    (k__law_box : PySem.W.keepIn K (.ref a__law_box) = true)
    (a__law_draw' : PySem.W.nsIn K mainGlobals "_law_draw" = some (some (.ref a__law_draw)))
    (l__law_draw : K.lookup a__law_draw = some ⟨oc__law_draw, od__law_draw, .func (PySem.W.fnOf "_law_draw" "_law_draw" (defArgs s__law_draw) (defBody s__law_draw) (defScope s__law_draw) .none kV__law_draw dc__law_draw pm__law_draw an__law_draw cd__law_draw ct__law_draw), sl__law_draw⟩)
    (e__law_draw : PySem.W.codeIn K cd__law_draw "_law_draw" = true)
    (k__law_draw : PySem.W.keepIn K (.ref a__law_draw) = true)
    (a__law_end' : PySem.W.nsIn K mainGlobals "_law_end" = some (some (.ref a__law_end)))
    (l__law_end : K.lookup a__law_end = some ⟨oc__law_end, od__law_end, .func (PySem.W.fnOf "_law_end" "_law_end" (defArgs s__law_end) (defBody s__law_end) (defScope s__law_end) .none kV__law_end dc__law_end pm__law_end an__law_end cd__law_end ct__law_end), sl__law_end⟩)
    (e__law_end : PySem.W.codeIn K cd__law_end "_law_end" = true)
    (k__law_end : PySem.W.keepIn K (.ref a__law_end) = true)
    (a__law_pair' : PySem.W.nsIn K mainGlobals "_law_pair" = some (some (.ref a__law_pair)))
    (l__law_pair : K.lookup a__law_pair = some ⟨oc__law_pair, od__law_pair, .func (PySem.W.fnOf "_law_pair" "_law_pair" (defArgs s__law_pair) (defBody s__law_pair) (defScope s__law_pair) .none kV__law_pair dc__law_pair pm__law_pair an__law_pair cd__law_pair ct__law_pair), sl__law_pair⟩)
    (e__law_pair : PySem.W.codeIn K cd__law_pair "_law_pair" = true)
    (k__law_pair : PySem.W.keepIn K (.ref a__law_pair) = true)
    (a__law_spans' : PySem.W.nsIn K mainGlobals "_law_spans" = some (some (.ref a__law_spans)))
    (l__law_spans : K.lookup a__law_spans = some ⟨oc__law_spans, od__law_spans, .func (PySem.W.fnOf "_law_spans" "_law_spans" (defArgs s__law_spans) (defBody s__law_spans) (defScope s__law_spans) .none kV__law_spans dc__law_spans pm__law_spans an__law_spans cd__law_spans ct__law_spans), sl__law_spans⟩)
    (e__law_spans : PySem.W.codeIn K cd__law_spans "_law_spans" = true)
    (k__law_spans : PySem.W.keepIn K (.ref a__law_spans) = true)
    (a__law_has' : PySem.W.nsIn K mainGlobals "_law_has" = some (some (.ref a__law_has)))
    (l__law_has : K.lookup a__law_has = some ⟨oc__law_has, od__law_has, .func (PySem.W.fnOf "_law_has" "_law_has" (defArgs s__law_has) (defBody s__law_has) (defScope s__law_has) .none kV__law_has dc__law_has pm__law_has an__law_has cd__law_has ct__law_has), sl__law_has⟩)
    (e__law_has : PySem.W.codeIn K cd__law_has "_law_has" = true)
    (k__law_has : PySem.W.keepIn K (.ref a__law_has) = true)
    (a__law_due' : PySem.W.nsIn K mainGlobals "_law_due" = some (some (.ref a__law_due)))
    (l__law_due : K.lookup a__law_due = some ⟨oc__law_due, od__law_due, .func (PySem.W.fnOf "_law_due" "_law_due" (defArgs s__law_due) (defBody s__law_due) (defScope s__law_due) .none kV__law_due dc__law_due pm__law_due an__law_due cd__law_due ct__law_due), sl__law_due⟩)
    (e__law_due : PySem.W.codeIn K cd__law_due "_law_due" = true)
    (k__law_due : PySem.W.keepIn K (.ref a__law_due) = true)
    (a__law_is_whole' : PySem.W.nsIn K mainGlobals "_law_is_whole" = some (some (.ref a__law_is_whole)))
    (l__law_is_whole : K.lookup a__law_is_whole = some ⟨oc__law_is_whole, od__law_is_whole, .func (PySem.W.fnOf "_law_is_whole" "_law_is_whole" (defArgs s__law_is_whole) (defBody s__law_is_whole) (defScope s__law_is_whole) .none kV__law_is_whole dc__law_is_whole pm__law_is_whole an__law_is_whole cd__law_is_whole ct__law_is_whole), sl__law_is_whole⟩)
    (e__law_is_whole : PySem.W.codeIn K cd__law_is_whole "_law_is_whole" = true)
    (k__law_is_whole : PySem.W.keepIn K (.ref a__law_is_whole) = true)
    (a__law_pairs_are' : PySem.W.nsIn K mainGlobals "_law_pairs_are" = some (some (.ref a__law_pairs_are)))
    (l__law_pairs_are : K.lookup a__law_pairs_are = some ⟨oc__law_pairs_are, od__law_pairs_are, .func (PySem.W.fnOf "_law_pairs_are" "_law_pairs_are" (defArgs s__law_pairs_are) (defBody s__law_pairs_are) (defScope s__law_pairs_are) .none kV__law_pairs_are dc__law_pairs_are pm__law_pairs_are an__law_pairs_are cd__law_pairs_are ct__law_pairs_are), sl__law_pairs_are⟩)
    (e__law_pairs_are : PySem.W.codeIn K cd__law_pairs_are "_law_pairs_are" = true)
    (k__law_pairs_are : PySem.W.keepIn K (.ref a__law_pairs_are) = true)
    (a__law_agrees' : PySem.W.nsIn K mainGlobals "_law_agrees" = some (some (.ref a__law_agrees)))
    (l__law_agrees : K.lookup a__law_agrees = some ⟨oc__law_agrees, od__law_agrees, .func (PySem.W.fnOf "_law_agrees" "_law_agrees" (defArgs s__law_agrees) (defBody s__law_agrees) (defScope s__law_agrees) .none kV__law_agrees dc__law_agrees pm__law_agrees an__law_agrees cd__law_agrees ct__law_agrees), sl__law_agrees⟩)
    (e__law_agrees : PySem.W.codeIn K cd__law_agrees "_law_agrees" = true)
    (k__law_agrees : PySem.W.keepIn K (.ref a__law_agrees) = true)
    (a__law_bad_pair' : PySem.W.nsIn K mainGlobals "_law_bad_pair" = some (some (.ref a__law_bad_pair)))
    (l__law_bad_pair : K.lookup a__law_bad_pair = some ⟨oc__law_bad_pair, od__law_bad_pair, .func (PySem.W.fnOf "_law_bad_pair" "_law_bad_pair" (defArgs s__law_bad_pair) (defBody s__law_bad_pair) (defScope s__law_bad_pair) .none kV__law_bad_pair dc__law_bad_pair pm__law_bad_pair an__law_bad_pair cd__law_bad_pair ct__law_bad_pair), sl__law_bad_pair⟩)
    (e__law_bad_pair : PySem.W.codeIn K cd__law_bad_pair "_law_bad_pair" = true)
    (k__law_bad_pair : PySem.W.keepIn K (.ref a__law_bad_pair) = true)
    (a__law_new_refuses' : PySem.W.nsIn K mainGlobals "_law_new_refuses" = some (some (.ref a__law_new_refuses)))
    (l__law_new_refuses : K.lookup a__law_new_refuses = some ⟨oc__law_new_refuses, od__law_new_refuses, .func (PySem.W.fnOf "_law_new_refuses" "_law_new_refuses" (defArgs s__law_new_refuses) (defBody s__law_new_refuses) (defScope s__law_new_refuses) .none kV__law_new_refuses dc__law_new_refuses pm__law_new_refuses an__law_new_refuses cd__law_new_refuses ct__law_new_refuses), sl__law_new_refuses⟩)
    (e__law_new_refuses : PySem.W.codeIn K cd__law_new_refuses "_law_new_refuses" = true)
    (k__law_new_refuses : PySem.W.keepIn K (.ref a__law_new_refuses) = true)
    (a__law_bad_ends' : PySem.W.nsIn K mainGlobals "_law_bad_ends" = some (some (.ref a__law_bad_ends)))
    (l__law_bad_ends : K.lookup a__law_bad_ends = some ⟨oc__law_bad_ends, od__law_bad_ends, .func (PySem.W.fnOf "_law_bad_ends" "_law_bad_ends" (defArgs s__law_bad_ends) (defBody s__law_bad_ends) (defScope s__law_bad_ends) .none kV__law_bad_ends dc__law_bad_ends pm__law_bad_ends an__law_bad_ends cd__law_bad_ends ct__law_bad_ends), sl__law_bad_ends⟩)
    (e__law_bad_ends : PySem.W.codeIn K cd__law_bad_ends "_law_bad_ends" = true)
    (k__law_bad_ends : PySem.W.keepIn K (.ref a__law_bad_ends) = true)
    (a__law_call_refuses' : PySem.W.nsIn K mainGlobals "_law_call_refuses" = some (some (.ref a__law_call_refuses)))
    (l__law_call_refuses : K.lookup a__law_call_refuses = some ⟨oc__law_call_refuses, od__law_call_refuses, .func (PySem.W.fnOf "_law_call_refuses" "_law_call_refuses" (defArgs s__law_call_refuses) (defBody s__law_call_refuses) (defScope s__law_call_refuses) .none kV__law_call_refuses dc__law_call_refuses pm__law_call_refuses an__law_call_refuses cd__law_call_refuses ct__law_call_refuses), sl__law_call_refuses⟩)
    (e__law_call_refuses : PySem.W.codeIn K cd__law_call_refuses "_law_call_refuses" = true)
    (k__law_call_refuses : PySem.W.keepIn K (.ref a__law_call_refuses) = true)
    (a__law_plays' : PySem.W.nsIn K mainGlobals "_law_plays" = some (some (.ref a__law_plays)))
    (l__law_plays : K.lookup a__law_plays = some ⟨oc__law_plays, od__law_plays, .func (PySem.W.fnOf "_law_plays" "_law_plays" (defArgs s__law_plays) (defBody s__law_plays) (defScope s__law_plays) .none kV__law_plays dc__law_plays pm__law_plays an__law_plays cd__law_plays ct__law_plays), sl__law_plays⟩)
    (e__law_plays : PySem.W.codeIn K cd__law_plays "_law_plays" = true)
    (k__law_plays : PySem.W.keepIn K (.ref a__law_plays) = true)
    (a__law_comb_agrees' : PySem.W.nsIn K mainGlobals "_law_comb_agrees" = some (some (.ref a__law_comb_agrees)))
    (l__law_comb_agrees : K.lookup a__law_comb_agrees = some ⟨oc__law_comb_agrees, od__law_comb_agrees, .func (PySem.W.fnOf "_law_comb_agrees" "_law_comb_agrees" (defArgs s__law_comb_agrees) (defBody s__law_comb_agrees) (defScope s__law_comb_agrees) .none kV__law_comb_agrees dc__law_comb_agrees pm__law_comb_agrees an__law_comb_agrees cd__law_comb_agrees ct__law_comb_agrees), sl__law_comb_agrees⟩)
    (e__law_comb_agrees : PySem.W.codeIn K cd__law_comb_agrees "_law_comb_agrees" = true)
    (k__law_comb_agrees : PySem.W.keepIn K (.ref a__law_comb_agrees) = true)
    (a_law' : PySem.W.nsIn K mainGlobals "law" = some (some (.ref a_law)))
    (l_law : K.lookup a_law = some ⟨oc_law, od_law, .func (PySem.W.fnOf "law" "law" (defArgs s_law) (defBody s_law) (defScope s_law) .none kV_law dc_law pm_law an_law cd_law ct_law), sl_law⟩)
    (e_law : PySem.W.codeIn K cd_law "law" = true)
    (k_law : PySem.W.keepIn K (.ref a_law) = true)
    (Kv_InvalidNumber : PySem.W.kitOne K (.ref c_InvalidNumber) (.type "ValueError") = some true)
    (Kv_InvalidSetting : PySem.W.kitOne K (.ref c_InvalidSetting) (.type "ValueError") = some true)
    (z_NotImplemented : PySem.W.nsIn K mainGlobals "NotImplemented" = some none)
    (z_ValueError : PySem.W.nsIn K mainGlobals "ValueError" = some none)
    (z_abs : PySem.W.nsIn K mainGlobals "abs" = some none)
    (z_bool : PySem.W.nsIn K mainGlobals "bool" = some none)
    (z_int : PySem.W.nsIn K mainGlobals "int" = some none)
    (z_isinstance : PySem.W.nsIn K mainGlobals "isinstance" = some none)
    (z_len : PySem.W.nsIn K mainGlobals "len" = some none)
    (z_list : PySem.W.nsIn K mainGlobals "list" = some none)
    (z_max : PySem.W.nsIn K mainGlobals "max" = some none)
    (z_min : PySem.W.nsIn K mainGlobals "min" = some none)
    (z_range : PySem.W.nsIn K mainGlobals "range" = some none)
    (z_repr : PySem.W.nsIn K mainGlobals "repr" = some none)
    (z_sorted : PySem.W.nsIn K mainGlobals "sorted" = some none)
    (z_sum : PySem.W.nsIn K mainGlobals "sum" = some none)
    (z_tuple : PySem.W.nsIn K mainGlobals "tuple" = some none)
    (xm'_InvalidNumber : PySem.HandSPX.refsVE xm_InvalidNumber = true)
    (xm'_InvalidSetting : PySem.HandSPX.refsVE xm_InvalidSetting = true)
    : ∃ fd : FuncData, (∀ (s : Shared) (v : Value), BindsTo s fd ⟨[v], []⟩ [("script", v)]) ∧ ∀ base : Heap, K.In base → base.Ns mainGlobals mg → FnStill l.prog w K mg base 9 fa fd ["script"] (sp_law K) := by
  have e : fa = a_law := by
    have e0 := hfa.symm.trans (PySem.W.mg_of X G a_law')
    cases e0
    rfl
  rw [e]
  have F_InvalidNumber_init_ := fun_mk (st := s_InvalidNumber_init_) l_InvalidNumber_init_ e_InvalidNumber_init_ k_InvalidNumber_init_
  have F_InvalidSetting_init_ := fun_mk (st := s_InvalidSetting_init_) l_InvalidSetting_init_ e_InvalidSetting_init_ k_InvalidSetting_init_
  have F_is_integer := fun_mk (st := s_is_integer) l_is_integer e_is_integer k_is_integer
  have F_is_at_least := fun_mk (st := s_is_at_least) l_is_at_least e_is_at_least k_is_at_least
  have F_is_sequence := fun_mk (st := s_is_sequence) l_is_sequence e_is_sequence k_is_sequence
  have F_is_run := fun_mk (st := s_is_run) l_is_run e_is_run k_is_run
  have F_joined := fun_mk (st := s_joined) l_joined e_joined k_joined
  have F_missing := fun_mk (st := s_missing) l_missing e_missing k_missing
  have F_common := fun_mk (st := s_common) l_common e_common k_common
  have F_without := fun_mk (st := s_without) l_without e_without k_without
  have F_Spans_init_ := fun_mk (st := s_Spans_init_) l_Spans_init_ e_Spans_init_ k_Spans_init_
  have F_Spans_contains_ := fun_mk (st := s_Spans_contains_) l_Spans_contains_ e_Spans_contains_ k_Spans_contains_
  have F_Spans_len_ := fun_mk (st := s_Spans_len_) l_Spans_len_ e_Spans_len_ k_Spans_len_
  have F_Spans_rows := fun_mk (st := s_Spans_rows) l_Spans_rows e_Spans_rows k_Spans_rows
  have F_Spans_total := fun_mk (st := s_Spans_total) l_Spans_total e_Spans_total k_Spans_total
  have F_Spans_put := fun_mk (st := s_Spans_put) l_Spans_put e_Spans_put k_Spans_put
  have F_Spans_drop := fun_mk (st := s_Spans_drop) l_Spans_drop e_Spans_drop k_Spans_drop
  have F_Spans_holding := fun_mk (st := s_Spans_holding) l_Spans_holding e_Spans_holding k_Spans_holding
  have F__law_box := fun_mk (st := s__law_box) l__law_box e__law_box k__law_box
  have F__law_draw := fun_mk (st := s__law_draw) l__law_draw e__law_draw k__law_draw
  have F__law_end := fun_mk (st := s__law_end) l__law_end e__law_end k__law_end
  have F__law_pair := fun_mk (st := s__law_pair) l__law_pair e__law_pair k__law_pair
  have F__law_spans := fun_mk (st := s__law_spans) l__law_spans e__law_spans k__law_spans
  have F__law_has := fun_mk (st := s__law_has) l__law_has e__law_has k__law_has
  have F__law_due := fun_mk (st := s__law_due) l__law_due e__law_due k__law_due
  have F__law_is_whole := fun_mk (st := s__law_is_whole) l__law_is_whole e__law_is_whole k__law_is_whole
  have F__law_pairs_are := fun_mk (st := s__law_pairs_are) l__law_pairs_are e__law_pairs_are k__law_pairs_are
  have F__law_agrees := fun_mk (st := s__law_agrees) l__law_agrees e__law_agrees k__law_agrees
  have F__law_bad_pair := fun_mk (st := s__law_bad_pair) l__law_bad_pair e__law_bad_pair k__law_bad_pair
  have F__law_new_refuses := fun_mk (st := s__law_new_refuses) l__law_new_refuses e__law_new_refuses k__law_new_refuses
  have F__law_bad_ends := fun_mk (st := s__law_bad_ends) l__law_bad_ends e__law_bad_ends k__law_bad_ends
  have F__law_call_refuses := fun_mk (st := s__law_call_refuses) l__law_call_refuses e__law_call_refuses k__law_call_refuses
  have F__law_plays := fun_mk (st := s__law_plays) l__law_plays e__law_plays k__law_plays
  have F__law_comb_agrees := fun_mk (st := s__law_comb_agrees) l__law_comb_agrees e__law_comb_agrees k__law_comb_agrees
  have F_law := fun_mk (st := s_law) l_law e_law k_law
  let T : Txt K mg := {
    c_Spans := c_Spans,
    g_Spans := PySem.W.mg_of X G aC_Spans,
    cl_Spans := ⟨pg_Spans, hd_Spans, po_Spans, sa_Spans⟩,
    n_Spans__runs := n_Spans__runs,
    c_LossError := c_LossError,
    X_LossError := ⟨PySem.W.mg_of X G aC_LossError⟩,
    c_InvalidNumber := c_InvalidNumber,
    X_InvalidNumber := xcls_mk (PySem.W.mg_of X G aC_InvalidNumber) xl_InvalidNumber xm'_InvalidNumber sa_InvalidNumber xx_InvalidNumber xt_InvalidNumber xk_InvalidNumber xi_InvalidNumber xf_InvalidNumber_init_ xg_InvalidNumber xh_InvalidNumber xy_InvalidNumber xc_InvalidNumber x_get x_tk xr_InvalidNumber,
    nX_InvalidNumber := nX_InvalidNumber,
    c_InvalidSetting := c_InvalidSetting,
    X_InvalidSetting := xcls_mk (PySem.W.mg_of X G aC_InvalidSetting) xl_InvalidSetting xm'_InvalidSetting sa_InvalidSetting xx_InvalidSetting xt_InvalidSetting xk_InvalidSetting xi_InvalidSetting xf_InvalidSetting_init_ xg_InvalidSetting xh_InvalidSetting xy_InvalidSetting xc_InvalidSetting x_get x_tk xr_InvalidSetting,
    nX_InvalidSetting := nX_InvalidSetting,
    Me_InvalidNumber_InvalidNumber := Me_InvalidNumber_InvalidNumber,
    Kt_InvalidNumber_InvalidNumber := Kt_InvalidNumber_InvalidNumber,
    Kt_InvalidNumber_InvalidSetting := Kt_InvalidNumber_InvalidSetting,
    Kt_InvalidSetting_InvalidNumber := Kt_InvalidSetting_InvalidNumber,
    Kt_InvalidSetting_InvalidSetting := Kt_InvalidSetting_InvalidSetting,
    Kt_InvalidNumber_LossError := Kt_InvalidNumber_LossError,
    a_InvalidNumber_init_ := a_InvalidNumber_init_,
    fd_InvalidNumber_init_ := PySem.W.fnOf "__init__" "InvalidNumber.__init__" (defArgs s_InvalidNumber_init_) (defBody s_InvalidNumber_init_) (defScope s_InvalidNumber_init_) .none kV_InvalidNumber_init_ dc_InvalidNumber_init_ pm_InvalidNumber_init_ an_InvalidNumber_init_ cd_InvalidNumber_init_ ct_InvalidNumber_init_,
    F_InvalidNumber_init_ := F_InvalidNumber_init_,
    B_InvalidNumber_init_ := F_InvalidNumber_init_.binds (ps := ["self", "number"]) fun _ _ _ _ _ _ us hl => match us, hl with | [_, _], _ => rfl,
    a_InvalidSetting_init_ := a_InvalidSetting_init_,
    fd_InvalidSetting_init_ := PySem.W.fnOf "__init__" "InvalidSetting.__init__" (defArgs s_InvalidSetting_init_) (defBody s_InvalidSetting_init_) (defScope s_InvalidSetting_init_) .none kV_InvalidSetting_init_ dc_InvalidSetting_init_ pm_InvalidSetting_init_ an_InvalidSetting_init_ cd_InvalidSetting_init_ ct_InvalidSetting_init_,
    F_InvalidSetting_init_ := F_InvalidSetting_init_,
    B_InvalidSetting_init_ := F_InvalidSetting_init_.binds (ps := ["self", "setting"]) fun _ _ _ _ _ _ us hl => match us, hl with | [_, _], _ => rfl,
    a_is_integer := a_is_integer,
    fd_is_integer := PySem.W.fnOf "is_integer" "is_integer" (defArgs s_is_integer) (defBody s_is_integer) (defScope s_is_integer) .none kV_is_integer dc_is_integer pm_is_integer an_is_integer cd_is_integer ct_is_integer,
    F_is_integer := F_is_integer,
    B_is_integer := F_is_integer.binds (ps := ["value"]) fun _ _ _ _ _ _ us hl => match us, hl with | [_], _ => rfl,
    g_is_integer := PySem.W.mg_of X G a_is_integer',
    a_is_at_least := a_is_at_least,
    fd_is_at_least := PySem.W.fnOf "is_at_least" "is_at_least" (defArgs s_is_at_least) (defBody s_is_at_least) (defScope s_is_at_least) .none kV_is_at_least dc_is_at_least pm_is_at_least an_is_at_least cd_is_at_least ct_is_at_least,
    F_is_at_least := F_is_at_least,
    B_is_at_least := F_is_at_least.binds (ps := ["value", "low"]) fun _ _ _ _ _ _ us hl => match us, hl with | [_, _], _ => rfl,
    g_is_at_least := PySem.W.mg_of X G a_is_at_least',
    a_is_sequence := a_is_sequence,
    fd_is_sequence := PySem.W.fnOf "is_sequence" "is_sequence" (defArgs s_is_sequence) (defBody s_is_sequence) (defScope s_is_sequence) .none kV_is_sequence dc_is_sequence pm_is_sequence an_is_sequence cd_is_sequence ct_is_sequence,
    F_is_sequence := F_is_sequence,
    B_is_sequence := F_is_sequence.binds (ps := ["value"]) fun _ _ _ _ _ _ us hl => match us, hl with | [_], _ => rfl,
    g_is_sequence := PySem.W.mg_of X G a_is_sequence',
    a_is_run := a_is_run,
    fd_is_run := PySem.W.fnOf "is_run" "is_run" (defArgs s_is_run) (defBody s_is_run) (defScope s_is_run) .none kV_is_run dc_is_run pm_is_run an_is_run cd_is_run ct_is_run,
    F_is_run := F_is_run,
    B_is_run := F_is_run.binds (ps := ["pair"]) fun _ _ _ _ _ _ us hl => match us, hl with | [_], _ => rfl,
    g_is_run := PySem.W.mg_of X G a_is_run',
    a_joined := a_joined,
    fd_joined := PySem.W.fnOf "joined" "joined" (defArgs s_joined) (defBody s_joined) (defScope s_joined) .none kV_joined dc_joined pm_joined an_joined cd_joined ct_joined,
    F_joined := F_joined,
    B_joined := F_joined.binds (ps := ["pairs"]) fun _ _ _ _ _ _ us hl => match us, hl with | [_], _ => rfl,
    g_joined := PySem.W.mg_of X G a_joined',
    a_missing := a_missing,
    fd_missing := PySem.W.fnOf "missing" "missing" (defArgs s_missing) (defBody s_missing) (defScope s_missing) .none kV_missing dc_missing pm_missing an_missing cd_missing ct_missing,
    F_missing := F_missing,
    B_missing := F_missing.binds (ps := ["runs", "low", "high"]) fun _ _ _ _ _ _ us hl => match us, hl with | [_, _, _], _ => rfl,
    g_missing := PySem.W.mg_of X G a_missing',
    a_common := a_common,
    fd_common := PySem.W.fnOf "common" "common" (defArgs s_common) (defBody s_common) (defScope s_common) .none kV_common dc_common pm_common an_common cd_common ct_common,
    F_common := F_common,
    B_common := F_common.binds (ps := ["first", "second"]) fun _ _ _ _ _ _ us hl => match us, hl with | [_, _], _ => rfl,
    g_common := PySem.W.mg_of X G a_common',
    a_without := a_without,
    fd_without := PySem.W.fnOf "without" "without" (defArgs s_without) (defBody s_without) (defScope s_without) .none kV_without dc_without pm_without an_without cd_without ct_without,
    F_without := F_without,
    B_without := F_without.binds (ps := ["first", "second"]) fun _ _ _ _ _ _ us hl => match us, hl with | [_, _], _ => rfl,
    g_without := PySem.W.mg_of X G a_without',
    a_Spans_init_ := a_Spans_init_,
    fd_Spans_init_ := PySem.W.fnOf "__init__" "Spans.__init__" (defArgs s_Spans_init_) (defBody s_Spans_init_) (defScope s_Spans_init_) .none kV_Spans_init_ dc_Spans_init_ pm_Spans_init_ an_Spans_init_ cd_Spans_init_ ct_Spans_init_,
    F_Spans_init_ := F_Spans_init_,
    BS_Spans_init_ := ⟨fun us rest hl => match us, rest, hl with | [_], [], _ => rfl | [_], _ :: _, _ => rfl⟩,
    M_Spans := ⟨mk_Spans, a_Spans_init_', i_Spans_init_, kc_Spans⟩,
    a_Spans_contains_ := a_Spans_contains_,
    fd_Spans_contains_ := PySem.W.fnOf "__contains__" "Spans.__contains__" (defArgs s_Spans_contains_) (defBody s_Spans_contains_) (defScope s_Spans_contains_) .none kV_Spans_contains_ dc_Spans_contains_ pm_Spans_contains_ an_Spans_contains_ cd_Spans_contains_ ct_Spans_contains_,
    F_Spans_contains_ := F_Spans_contains_,
    B_Spans_contains_ := F_Spans_contains_.binds (ps := ["self", "offset"]) fun _ _ _ _ _ _ us hl => match us, hl with | [_, _], _ => rfl,
    m_Spans_contains_ := ⟨a_Spans_contains_', i_Spans_contains_, k_Spans_contains_⟩,
    a_Spans_len_ := a_Spans_len_,
    fd_Spans_len_ := PySem.W.fnOf "__len__" "Spans.__len__" (defArgs s_Spans_len_) (defBody s_Spans_len_) (defScope s_Spans_len_) .none kV_Spans_len_ dc_Spans_len_ pm_Spans_len_ an_Spans_len_ cd_Spans_len_ ct_Spans_len_,
    F_Spans_len_ := F_Spans_len_,
    B_Spans_len_ := F_Spans_len_.binds (ps := ["self"]) fun _ _ _ _ _ _ us hl => match us, hl with | [_], _ => rfl,
    m_Spans_len_ := ⟨a_Spans_len_', i_Spans_len_, k_Spans_len_⟩,
    a_Spans_rows := a_Spans_rows,
    fd_Spans_rows := PySem.W.fnOf "rows" "Spans.rows" (defArgs s_Spans_rows) (defBody s_Spans_rows) (defScope s_Spans_rows) .none kV_Spans_rows dc_Spans_rows pm_Spans_rows an_Spans_rows cd_Spans_rows ct_Spans_rows,
    F_Spans_rows := F_Spans_rows,
    B_Spans_rows := F_Spans_rows.binds (ps := ["self"]) fun _ _ _ _ _ _ us hl => match us, hl with | [_], _ => rfl,
    m_Spans_rows := ⟨a_Spans_rows', i_Spans_rows, k_Spans_rows⟩,
    a_Spans_total := a_Spans_total,
    fd_Spans_total := PySem.W.fnOf "total" "Spans.total" (defArgs s_Spans_total) (defBody s_Spans_total) (defScope s_Spans_total) .none kV_Spans_total dc_Spans_total pm_Spans_total an_Spans_total cd_Spans_total ct_Spans_total,
    F_Spans_total := F_Spans_total,
    B_Spans_total := F_Spans_total.binds (ps := ["self"]) fun _ _ _ _ _ _ us hl => match us, hl with | [_], _ => rfl,
    m_Spans_total := ⟨a_Spans_total', i_Spans_total, k_Spans_total⟩,
    a_Spans_put := a_Spans_put,
    fd_Spans_put := PySem.W.fnOf "put" "Spans.put" (defArgs s_Spans_put) (defBody s_Spans_put) (defScope s_Spans_put) .none kV_Spans_put dc_Spans_put pm_Spans_put an_Spans_put cd_Spans_put ct_Spans_put,
    F_Spans_put := F_Spans_put,
    B_Spans_put := F_Spans_put.binds (ps := ["self", "low", "high"]) fun _ _ _ _ _ _ us hl => match us, hl with | [_, _, _], _ => rfl,
    m_Spans_put := ⟨a_Spans_put', i_Spans_put, k_Spans_put⟩,
    a_Spans_drop := a_Spans_drop,
    fd_Spans_drop := PySem.W.fnOf "drop" "Spans.drop" (defArgs s_Spans_drop) (defBody s_Spans_drop) (defScope s_Spans_drop) .none kV_Spans_drop dc_Spans_drop pm_Spans_drop an_Spans_drop cd_Spans_drop ct_Spans_drop,
    F_Spans_drop := F_Spans_drop,
    B_Spans_drop := F_Spans_drop.binds (ps := ["self", "low", "high"]) fun _ _ _ _ _ _ us hl => match us, hl with | [_, _, _], _ => rfl,
    m_Spans_drop := ⟨a_Spans_drop', i_Spans_drop, k_Spans_drop⟩,
    a_Spans_holding := a_Spans_holding,
    fd_Spans_holding := PySem.W.fnOf "holding" "Spans.holding" (defArgs s_Spans_holding) (defBody s_Spans_holding) (defScope s_Spans_holding) .none kV_Spans_holding dc_Spans_holding pm_Spans_holding an_Spans_holding cd_Spans_holding ct_Spans_holding,
    F_Spans_holding := F_Spans_holding,
    B_Spans_holding := F_Spans_holding.binds (ps := ["self", "offset"]) fun _ _ _ _ _ _ us hl => match us, hl with | [_, _], _ => rfl,
    m_Spans_holding := ⟨a_Spans_holding', i_Spans_holding, k_Spans_holding⟩,
    a__law_box := a__law_box,
    fd__law_box := PySem.W.fnOf "_law_box" "_law_box" (defArgs s__law_box) (defBody s__law_box) (defScope s__law_box) .none kV__law_box dc__law_box pm__law_box an__law_box cd__law_box ct__law_box,
    F__law_box := F__law_box,
    B__law_box := F__law_box.binds (ps := ["script"]) fun _ _ _ _ _ _ us hl => match us, hl with | [_], _ => rfl,
    g__law_box := PySem.W.mg_of X G a__law_box',
    a__law_draw := a__law_draw,
    fd__law_draw := PySem.W.fnOf "_law_draw" "_law_draw" (defArgs s__law_draw) (defBody s__law_draw) (defScope s__law_draw) .none kV__law_draw dc__law_draw pm__law_draw an__law_draw cd__law_draw ct__law_draw,
    F__law_draw := F__law_draw,
    B__law_draw := F__law_draw.binds (ps := ["box", "size"]) fun _ _ _ _ _ _ us hl => match us, hl with | [_, _], _ => rfl,
    g__law_draw := PySem.W.mg_of X G a__law_draw',
    a__law_end := a__law_end,
    fd__law_end := PySem.W.fnOf "_law_end" "_law_end" (defArgs s__law_end) (defBody s__law_end) (defScope s__law_end) .none kV__law_end dc__law_end pm__law_end an__law_end cd__law_end ct__law_end,
    F__law_end := F__law_end,
    B__law_end := F__law_end.binds (ps := ["box", "ends"]) fun _ _ _ _ _ _ us hl => match us, hl with | [_, _], _ => rfl,
    g__law_end := PySem.W.mg_of X G a__law_end',
    a__law_pair := a__law_pair,
    fd__law_pair := PySem.W.fnOf "_law_pair" "_law_pair" (defArgs s__law_pair) (defBody s__law_pair) (defScope s__law_pair) .none kV__law_pair dc__law_pair pm__law_pair an__law_pair cd__law_pair ct__law_pair,
    F__law_pair := F__law_pair,
    B__law_pair := F__law_pair.binds (ps := ["box", "ends"]) fun _ _ _ _ _ _ us hl => match us, hl with | [_, _], _ => rfl,
    g__law_pair := PySem.W.mg_of X G a__law_pair',
    a__law_spans := a__law_spans,
    fd__law_spans := PySem.W.fnOf "_law_spans" "_law_spans" (defArgs s__law_spans) (defBody s__law_spans) (defScope s__law_spans) .none kV__law_spans dc__law_spans pm__law_spans an__law_spans cd__law_spans ct__law_spans,
    F__law_spans := F__law_spans,
    B__law_spans := F__law_spans.binds (ps := ["pairs"]) fun _ _ _ _ _ _ us hl => match us, hl with | [_], _ => rfl,
    g__law_spans := PySem.W.mg_of X G a__law_spans',
    a__law_has := a__law_has,
    fd__law_has := PySem.W.fnOf "_law_has" "_law_has" (defArgs s__law_has) (defBody s__law_has) (defScope s__law_has) .none kV__law_has dc__law_has pm__law_has an__law_has cd__law_has ct__law_has,
    F__law_has := F__law_has,
    B__law_has := F__law_has.binds (ps := ["history", "offset"]) fun _ _ _ _ _ _ us hl => match us, hl with | [_, _], _ => rfl,
    g__law_has := PySem.W.mg_of X G a__law_has',
    a__law_due := a__law_due,
    fd__law_due := PySem.W.fnOf "_law_due" "_law_due" (defArgs s__law_due) (defBody s__law_due) (defScope s__law_due) .none kV__law_due dc__law_due pm__law_due an__law_due cd__law_due ct__law_due,
    F__law_due := F__law_due,
    B__law_due := F__law_due.binds (ps := ["history"]) fun _ _ _ _ _ _ us hl => match us, hl with | [_], _ => rfl,
    g__law_due := PySem.W.mg_of X G a__law_due',
    a__law_is_whole := a__law_is_whole,
    fd__law_is_whole := PySem.W.fnOf "_law_is_whole" "_law_is_whole" (defArgs s__law_is_whole) (defBody s__law_is_whole) (defScope s__law_is_whole) .none kV__law_is_whole dc__law_is_whole pm__law_is_whole an__law_is_whole cd__law_is_whole ct__law_is_whole,
    F__law_is_whole := F__law_is_whole,
    B__law_is_whole := F__law_is_whole.binds (ps := ["value"]) fun _ _ _ _ _ _ us hl => match us, hl with | [_], _ => rfl,
    g__law_is_whole := PySem.W.mg_of X G a__law_is_whole',
    a__law_pairs_are := a__law_pairs_are,
    fd__law_pairs_are := PySem.W.fnOf "_law_pairs_are" "_law_pairs_are" (defArgs s__law_pairs_are) (defBody s__law_pairs_are) (defScope s__law_pairs_are) .none kV__law_pairs_are dc__law_pairs_are pm__law_pairs_are an__law_pairs_are cd__law_pairs_are ct__law_pairs_are,
    F__law_pairs_are := F__law_pairs_are,
    B__law_pairs_are := F__law_pairs_are.binds (ps := ["told", "due"]) fun _ _ _ _ _ _ us hl => match us, hl with | [_, _], _ => rfl,
    g__law_pairs_are := PySem.W.mg_of X G a__law_pairs_are',
    a__law_agrees := a__law_agrees,
    fd__law_agrees := PySem.W.fnOf "_law_agrees" "_law_agrees" (defArgs s__law_agrees) (defBody s__law_agrees) (defScope s__law_agrees) .none kV__law_agrees dc__law_agrees pm__law_agrees an__law_agrees cd__law_agrees ct__law_agrees,
    F__law_agrees := F__law_agrees,
    B__law_agrees := F__law_agrees.binds (ps := ["spans", "history"]) fun _ _ _ _ _ _ us hl => match us, hl with | [_, _], _ => rfl,
    g__law_agrees := PySem.W.mg_of X G a__law_agrees',
    a__law_bad_pair := a__law_bad_pair,
    fd__law_bad_pair := PySem.W.fnOf "_law_bad_pair" "_law_bad_pair" (defArgs s__law_bad_pair) (defBody s__law_bad_pair) (defScope s__law_bad_pair) .none kV__law_bad_pair dc__law_bad_pair pm__law_bad_pair an__law_bad_pair cd__law_bad_pair ct__law_bad_pair,
    F__law_bad_pair := F__law_bad_pair,
    B__law_bad_pair := F__law_bad_pair.binds (ps := ["box"]) fun _ _ _ _ _ _ us hl => match us, hl with | [_], _ => rfl,
    g__law_bad_pair := PySem.W.mg_of X G a__law_bad_pair',
    a__law_new_refuses := a__law_new_refuses,
    fd__law_new_refuses := PySem.W.fnOf "_law_new_refuses" "_law_new_refuses" (defArgs s__law_new_refuses) (defBody s__law_new_refuses) (defScope s__law_new_refuses) .none kV__law_new_refuses dc__law_new_refuses pm__law_new_refuses an__law_new_refuses cd__law_new_refuses ct__law_new_refuses,
    F__law_new_refuses := F__law_new_refuses,
    B__law_new_refuses := F__law_new_refuses.binds (ps := ["box", "ends"]) fun _ _ _ _ _ _ us hl => match us, hl with | [_, _], _ => rfl,
    g__law_new_refuses := PySem.W.mg_of X G a__law_new_refuses',
    a__law_bad_ends := a__law_bad_ends,
    fd__law_bad_ends := PySem.W.fnOf "_law_bad_ends" "_law_bad_ends" (defArgs s__law_bad_ends) (defBody s__law_bad_ends) (defScope s__law_bad_ends) .none kV__law_bad_ends dc__law_bad_ends pm__law_bad_ends an__law_bad_ends cd__law_bad_ends ct__law_bad_ends,
    F__law_bad_ends := F__law_bad_ends,
    B__law_bad_ends := F__law_bad_ends.binds (ps := ["box"]) fun _ _ _ _ _ _ us hl => match us, hl with | [_], _ => rfl,
    g__law_bad_ends := PySem.W.mg_of X G a__law_bad_ends',
    a__law_call_refuses := a__law_call_refuses,
    fd__law_call_refuses := PySem.W.fnOf "_law_call_refuses" "_law_call_refuses" (defArgs s__law_call_refuses) (defBody s__law_call_refuses) (defScope s__law_call_refuses) .none kV__law_call_refuses dc__law_call_refuses pm__law_call_refuses an__law_call_refuses cd__law_call_refuses ct__law_call_refuses,
    F__law_call_refuses := F__law_call_refuses,
    B__law_call_refuses := F__law_call_refuses.binds (ps := ["spans", "bad", "adds"]) fun _ _ _ _ _ _ us hl => match us, hl with | [_, _, _], _ => rfl,
    g__law_call_refuses := PySem.W.mg_of X G a__law_call_refuses',
    a__law_plays := a__law_plays,
    fd__law_plays := PySem.W.fnOf "_law_plays" "_law_plays" (defArgs s__law_plays) (defBody s__law_plays) (defScope s__law_plays) .none kV__law_plays dc__law_plays pm__law_plays an__law_plays cd__law_plays ct__law_plays,
    F__law_plays := F__law_plays,
    B__law_plays := F__law_plays.binds (ps := ["box", "spans", "history", "ends", "rounds"]) fun _ _ _ _ _ _ us hl => match us, hl with | [_, _, _, _, _], _ => rfl,
    g__law_plays := PySem.W.mg_of X G a__law_plays',
    a__law_comb_agrees := a__law_comb_agrees,
    fd__law_comb_agrees := PySem.W.fnOf "_law_comb_agrees" "_law_comb_agrees" (defArgs s__law_comb_agrees) (defBody s__law_comb_agrees) (defScope s__law_comb_agrees) .none kV__law_comb_agrees dc__law_comb_agrees pm__law_comb_agrees an__law_comb_agrees cd__law_comb_agrees ct__law_comb_agrees,
    F__law_comb_agrees := F__law_comb_agrees,
    B__law_comb_agrees := F__law_comb_agrees.binds (ps := ["box"]) fun _ _ _ _ _ _ us hl => match us, hl with | [_], _ => rfl,
    g__law_comb_agrees := PySem.W.mg_of X G a__law_comb_agrees',
    a_law := a_law,
    fd_law := PySem.W.fnOf "law" "law" (defArgs s_law) (defBody s_law) (defScope s_law) .none kV_law dc_law pm_law an_law cd_law ct_law,
    F_law := F_law,
    B_law := F_law.binds (ps := ["script"]) fun _ _ _ _ _ _ us hl => match us, hl with | [_], _ => rfl,
    g_law := PySem.W.mg_of X G a_law',
    Kv_InvalidNumber := Kv_InvalidNumber,
    Kv_InvalidSetting := Kv_InvalidSetting,
    b_NotImplemented := PySem.W.mg_none_of X G z_NotImplemented,
    b_ValueError := PySem.W.mg_none_of X G z_ValueError,
    b_abs := PySem.W.mg_none_of X G z_abs,
    b_bool := PySem.W.mg_none_of X G z_bool,
    b_int := PySem.W.mg_none_of X G z_int,
    b_isinstance := PySem.W.mg_none_of X G z_isinstance,
    b_len := PySem.W.mg_none_of X G z_len,
    b_list := PySem.W.mg_none_of X G z_list,
    b_max := PySem.W.mg_none_of X G z_max,
    b_min := PySem.W.mg_none_of X G z_min,
    b_range := PySem.W.mg_none_of X G z_range,
    b_repr := PySem.W.mg_none_of X G z_repr,
    b_sorted := PySem.W.mg_none_of X G z_sorted,
    b_sum := PySem.W.mg_none_of X G z_sum,
    b_tuple := PySem.W.mg_none_of X G z_tuple }
  exact ⟨T.fd_law, fun s v => .of_eq rfl, fun base _ _ => ok_law (P := l.prog) (w := w) (base := base) T⟩
theorem walk {l : PySem.W.OpenLaw} {q : Program} {loose : List Str} {XP : (Str → Option Value) → Heap → Prop} {YP : World → Heap → Prop} {d : DefRec} {K : Params → PySem.W.Frag} (hn : l.most = some 63) (hdf : d.params.defaults = [])
    (hY : ∀ (w : World) (h : Heap), YP w h → (K w.params).In h)
    (F : ∀ (w : World) (mg : Str → Option Value) (fa : Addr) (h : Heap), (K w.params).In h → h.Ns mainGlobals mg → mg d.name = some (.ref fa) →
      ∃ fd : FuncData, (∀ (s : Shared) (u : Value), BindsTo s fd ⟨[u], []⟩ [("script", u)]) ∧ ∀ base : Heap, (K w.params).In base → base.Ns mainGlobals mg → FnStill l.prog w (K w.params) mg base 9 fa fd ["script"] (sp_law (K w.params))) :
    PySem.W.WalkO q loose XP YP l.row.toRowW d [] (fun f vs => PySem.call f vs) :=
  still_walk (n := 63) (k := 9) (x := "script") (sp := fun w => sp_law (K w.params)) hn (by decide) hdf ⟨rfl, by decide, by decide⟩ hY F (fun _ _ a ns hl _ hS => ⟨a, ns, rfl, hS, hl, fun _ => rfl⟩) fun _ _ _ _ z => z
end My

open PySem PySem.W PyProof.Rows in
set_option maxRecDepth 100000 in
set_option maxHeartbeats 0 in
theorem PySem.Challenge.cw_lossway_k08_spans_normal_holds : PySem.Challenge.rw_lossway_k08_spans_normal.Holds := by
  w_on; o_law; k_head; (case hw => w_witness2)
  k_fill
  refine My.walk (l := PySem.Challenge.rw_lossway_k08_spans_normal) rfl rfl (fun w h Y => PySem.W.kIn_of Y) ?F
  case F =>
    intro w mg fa h KX G hmg
    refine' My.all_mk KX G hmg ?aC_Spans ?pg_Spans ?hd_Spans ?po_Spans ?sa_Spans ?mk_Spans ?kc_Spans ?n_Spans__runs ?aC_LossError ?aC_InvalidNumber ?xl_InvalidNumber ?sa_InvalidNumber ?xx_InvalidNumber ?xt_InvalidNumber ?xk_InvalidNumber ?xi_InvalidNumber ?xg_InvalidNumber ?xh_InvalidNumber ?xy_InvalidNumber ?xc_InvalidNumber ?xr_InvalidNumber ?nX_InvalidNumber ?aC_InvalidSetting ?xl_InvalidSetting ?sa_InvalidSetting ?xx_InvalidSetting ?xt_InvalidSetting ?xk_InvalidSetting ?xi_InvalidSetting ?xg_InvalidSetting ?xh_InvalidSetting ?xy_InvalidSetting ?xc_InvalidSetting ?xr_InvalidSetting ?nX_InvalidSetting ?x_get ?x_tk ?Me_InvalidNumber_InvalidNumber ?Kt_InvalidNumber_InvalidNumber ?Kt_InvalidNumber_InvalidSetting ?Kt_InvalidSetting_InvalidNumber ?Kt_InvalidSetting_InvalidSetting ?Kt_InvalidNumber_LossError ?xf_InvalidNumber_init_ ?l_InvalidNumber_init_ ?e_InvalidNumber_init_ ?k_InvalidNumber_init_ ?xf_InvalidSetting_init_ ?l_InvalidSetting_init_ ?e_InvalidSetting_init_ ?k_InvalidSetting_init_ ?a_is_integer_ ?l_is_integer ?e_is_integer ?k_is_integer ?a_is_at_least_ ?l_is_at_least ?e_is_at_least ?k_is_at_least ?a_is_sequence_ ?l_is_sequence ?e_is_sequence ?k_is_sequence ?a_is_run_ ?l_is_run ?e_is_run ?k_is_run ?a_joined_ ?l_joined ?e_joined ?k_joined ?a_missing_ ?l_missing ?e_missing ?k_missing ?a_common_ ?l_common ?e_common ?k_common ?a_without_ ?l_without ?e_without ?k_without ?a_Spans_init__ ?i_Spans_init_ ?l_Spans_init_ ?e_Spans_init_ ?k_Spans_init_ ?a_Spans_contains__ ?i_Spans_contains_ ?l_Spans_contains_ ?e_Spans_contains_ ?k_Spans_contains_ ?a_Spans_len__ ?i_Spans_len_ ?l_Spans_len_ ?e_Spans_len_ ?k_Spans_len_ ?a_Spans_rows_ ?i_Spans_rows ?l_Spans_rows ?e_Spans_rows ?k_Spans_rows ?a_Spans_total_ ?i_Spans_total ?l_Spans_total ?e_Spans_total ?k_Spans_total ?a_Spans_put_ ?i_Spans_put ?l_Spans_put ?e_Spans_put ?k_Spans_put ?a_Spans_drop_ ?i_Spans_drop ?l_Spans_drop ?e_Spans_drop ?k_Spans_drop ?a_Spans_holding_ ?i_Spans_holding ?l_Spans_holding ?e_Spans_holding ?k_Spans_holding ?a__law_box_ ?l__law_box ?e__law_box ?k__law_box ?a__law_draw_ ?l__law_draw ?e__law_draw ?k__law_draw ?a__law_end_ ?l__law_end ?e__law_end ?k__law_end ?a__law_pair_ ?l__law_pair ?e__law_pair ?k__law_pair ?a__law_spans_ ?l__law_spans ?e__law_spans ?k__law_spans ?a__law_has_ ?l__law_has ?e__law_has ?k__law_has ?a__law_due_ ?l__law_due ?e__law_due ?k__law_due ?a__law_is_whole_ ?l__law_is_whole ?e__law_is_whole ?k__law_is_whole ?a__law_pairs_are_ ?l__law_pairs_are ?e__law_pairs_are ?k__law_pairs_are ?a__law_agrees_ ?l__law_agrees ?e__law_agrees ?k__law_agrees ?a__law_bad_pair_ ?l__law_bad_pair ?e__law_bad_pair ?k__law_bad_pair ?a__law_new_refuses_ ?l__law_new_refuses ?e__law_new_refuses ?k__law_new_refuses ?a__law_bad_ends_ ?l__law_bad_ends ?e__law_bad_ends ?k__law_bad_ends ?a__law_call_refuses_ ?l__law_call_refuses ?e__law_call_refuses ?k__law_call_refuses ?a__law_plays_ ?l__law_plays ?e__law_plays ?k__law_plays ?a__law_comb_agrees_ ?l__law_comb_agrees ?e__law_comb_agrees ?k__law_comb_agrees ?a_law_ ?l_law ?e_law ?k_law ?Kv_InvalidNumber ?Kv_InvalidSetting ?z_NotImplemented ?z_ValueError ?z_abs ?z_bool ?z_int ?z_isinstance ?z_len ?z_list ?z_max ?z_min ?z_range ?z_repr ?z_sorted ?z_sum ?z_tuple ?xm__InvalidNumber ?xm__InvalidSetting
    (case aC_Spans => k_is)
    (case pg_Spans => k_is)
    (case hd_Spans => k_is)
    (case po_Spans => k_is)
    (case sa_Spans => k_is)
    (case mk_Spans => k_is)
    (case kc_Spans => k_is)
    (case n_Spans__runs => k_is)
    (case aC_LossError => k_is)
    (case aC_InvalidNumber => k_is)
    (case xl_InvalidNumber => k_is)
    (case sa_InvalidNumber => k_is)
    (case xx_InvalidNumber => k_is)
    (case xt_InvalidNumber => k_is)
    (case xk_InvalidNumber => k_is)
    (case xi_InvalidNumber => k_is)
    (case xg_InvalidNumber => k_is)
    (case xh_InvalidNumber => k_is)
    (case xy_InvalidNumber => k_is)
    (case xc_InvalidNumber => k_is)
    (case xr_InvalidNumber => k_is)
    (case nX_InvalidNumber => k_is)
    (case aC_InvalidSetting => k_is)
    (case xl_InvalidSetting => k_is)
    (case sa_InvalidSetting => k_is)
    (case xx_InvalidSetting => k_is)
    (case xt_InvalidSetting => k_is)
    (case xk_InvalidSetting => k_is)
    (case xi_InvalidSetting => k_is)
    (case xg_InvalidSetting => k_is)
    (case xh_InvalidSetting => k_is)
    (case xy_InvalidSetting => k_is)
    (case xc_InvalidSetting => k_is)
    (case xr_InvalidSetting => k_is)
    (case nX_InvalidSetting => k_is)
    (case x_get => k_is)
    (case x_tk => k_is)
    (case Me_InvalidNumber_InvalidNumber => kts_exm)
    (case Kt_InvalidNumber_InvalidNumber => kit_is)
    (case Kt_InvalidNumber_InvalidSetting => kit_is)
    (case Kt_InvalidSetting_InvalidNumber => kit_is)
    (case Kt_InvalidSetting_InvalidSetting => kit_is)
    (case Kt_InvalidNumber_LossError => kit_is)
    (case xf_InvalidNumber_init_ => k_is)
    (case l_InvalidNumber_init_ => k_is)
    (case e_InvalidNumber_init_ => k_is)
    (case k_InvalidNumber_init_ => k_is)
    (case xf_InvalidSetting_init_ => k_is)
    (case l_InvalidSetting_init_ => k_is)
    (case e_InvalidSetting_init_ => k_is)
    (case k_InvalidSetting_init_ => k_is)
    (case a_is_integer_ => k_is)
    (case l_is_integer => k_is)
    (case e_is_integer => k_is)
    (case k_is_integer => k_is)
    (case a_is_at_least_ => k_is)
    (case l_is_at_least => k_is)
    (case e_is_at_least => k_is)
    (case k_is_at_least => k_is)
    (case a_is_sequence_ => k_is)
    (case l_is_sequence => k_is)
    (case e_is_sequence => k_is)
    (case k_is_sequence => k_is)
    (case a_is_run_ => k_is)
    (case l_is_run => k_is)
    (case e_is_run => k_is)
    (case k_is_run => k_is)
    (case a_joined_ => k_is)
    (case l_joined => k_is)
    (case e_joined => k_is)
    (case k_joined => k_is)
    (case a_missing_ => k_is)
    (case l_missing => k_is)
    (case e_missing => k_is)
    (case k_missing => k_is)
    (case a_common_ => k_is)
    (case l_common => k_is)
    (case e_common => k_is)
    (case k_common => k_is)
    (case a_without_ => k_is)
    (case l_without => k_is)
    (case e_without => k_is)
    (case k_without => k_is)
    (case a_Spans_init__ => k_is)
    (case i_Spans_init_ => k_is)
    (case l_Spans_init_ => k_is)
    (case e_Spans_init_ => k_is)
    (case k_Spans_init_ => k_is)
    (case a_Spans_contains__ => k_is)
    (case i_Spans_contains_ => k_is)
    (case l_Spans_contains_ => k_is)
    (case e_Spans_contains_ => k_is)
    (case k_Spans_contains_ => k_is)
    (case a_Spans_len__ => k_is)
    (case i_Spans_len_ => k_is)
    (case l_Spans_len_ => k_is)
    (case e_Spans_len_ => k_is)
    (case k_Spans_len_ => k_is)
    (case a_Spans_rows_ => k_is)
    (case i_Spans_rows => k_is)
    (case l_Spans_rows => k_is)
    (case e_Spans_rows => k_is)
    (case k_Spans_rows => k_is)
    (case a_Spans_total_ => k_is)
    (case i_Spans_total => k_is)
    (case l_Spans_total => k_is)
    (case e_Spans_total => k_is)
    (case k_Spans_total => k_is)
    (case a_Spans_put_ => k_is)
    (case i_Spans_put => k_is)
    (case l_Spans_put => k_is)
    (case e_Spans_put => k_is)
    (case k_Spans_put => k_is)
    (case a_Spans_drop_ => k_is)
    (case i_Spans_drop => k_is)
    (case l_Spans_drop => k_is)
    (case e_Spans_drop => k_is)
    (case k_Spans_drop => k_is)
    (case a_Spans_holding_ => k_is)
    (case i_Spans_holding => k_is)
    (case l_Spans_holding => k_is)
    (case e_Spans_holding => k_is)
    (case k_Spans_holding => k_is)
    (case a__law_box_ => k_is)
    (case l__law_box => k_is)
    (case e__law_box => k_is)
    (case k__law_box => k_is)
    (case a__law_draw_ => k_is)
    (case l__law_draw => k_is)
    (case e__law_draw => k_is)
    (case k__law_draw => k_is)
    (case a__law_end_ => k_is)
    (case l__law_end => k_is)
    (case e__law_end => k_is)
    (case k__law_end => k_is)
    (case a__law_pair_ => k_is)
    (case l__law_pair => k_is)
    (case e__law_pair => k_is)
    (case k__law_pair => k_is)
    (case a__law_spans_ => k_is)
    (case l__law_spans => k_is)
    (case e__law_spans => k_is)
    (case k__law_spans => k_is)
    (case a__law_has_ => k_is)
    (case l__law_has => k_is)
    (case e__law_has => k_is)
    (case k__law_has => k_is)
    (case a__law_due_ => k_is)
    (case l__law_due => k_is)
    (case e__law_due => k_is)
    (case k__law_due => k_is)
    (case a__law_is_whole_ => k_is)
    (case l__law_is_whole => k_is)
    (case e__law_is_whole => k_is)
    (case k__law_is_whole => k_is)
    (case a__law_pairs_are_ => k_is)
    (case l__law_pairs_are => k_is)
    (case e__law_pairs_are => k_is)
    (case k__law_pairs_are => k_is)
    (case a__law_agrees_ => k_is)
    (case l__law_agrees => k_is)
    (case e__law_agrees => k_is)
    (case k__law_agrees => k_is)
    (case a__law_bad_pair_ => k_is)
    (case l__law_bad_pair => k_is)
    (case e__law_bad_pair => k_is)
    (case k__law_bad_pair => k_is)
    (case a__law_new_refuses_ => k_is)
    (case l__law_new_refuses => k_is)
    (case e__law_new_refuses => k_is)
    (case k__law_new_refuses => k_is)
    (case a__law_bad_ends_ => k_is)
    (case l__law_bad_ends => k_is)
    (case e__law_bad_ends => k_is)
    (case k__law_bad_ends => k_is)
    (case a__law_call_refuses_ => k_is)
    (case l__law_call_refuses => k_is)
    (case e__law_call_refuses => k_is)
    (case k__law_call_refuses => k_is)
    (case a__law_plays_ => k_is)
    (case l__law_plays => k_is)
    (case e__law_plays => k_is)
    (case k__law_plays => k_is)
    (case a__law_comb_agrees_ => k_is)
    (case l__law_comb_agrees => k_is)
    (case e__law_comb_agrees => k_is)
    (case k__law_comb_agrees => k_is)
    (case a_law_ => k_is)
    (case l_law => k_is)
    (case e_law => k_is)
    (case k_law => k_is)
    (case Kv_InvalidNumber => kit_is)
    (case Kv_InvalidSetting => kit_is)
    (case z_NotImplemented => k_is)
    (case z_ValueError => k_is)
    (case z_abs => k_is)
    (case z_bool => k_is)
    (case z_int => k_is)
    (case z_isinstance => k_is)
    (case z_len => k_is)
    (case z_list => k_is)
    (case z_max => k_is)
    (case z_min => k_is)
    (case z_range => k_is)
    (case z_repr => k_is)
    (case z_sorted => k_is)
    (case z_sum => k_is)
    (case z_tuple => k_is)
    (case xm__InvalidNumber => decide +kernel)
    (case xm__InvalidSetting => decide +kernel)
