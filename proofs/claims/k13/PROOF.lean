import PyProof.Rows.All
import Wide.All
import OpenK.AllK
import Wide.FinOn
import HandS.ForMost
import HandS.IsInst
import HandS.ClsMeth
import HandS.Codes
import HandS.Exc
import HandS.ExcOwn
import HandS.ExcInit
import HandS.ExcField
import HandS.ExcIs
import HandS.TryMany
import HandS.WordsExc
import HandS.CallSlots
import HandS.More
import KE.KExcIs
import KE.GoesEnum
import KE.GoesMore
import HandS.Defaults
import HandS.Property
import HandS.Zip
import HandS.Text
import HandS.Wide
import HandS.Star
import HandS.SortRule
import HandS.SortInts
import HandS.Flow
import HandS.More
import HandS.TupAny
import HandS.Dict
import HandS.GenList
import HandS.Conv
import HandS.Deep
import HandS.TupLe
import PySem.Challenge.RW_lossway_k13_inbox_ends
set_option Elab.async false
set_option maxRecDepth 100000
namespace My
open PySem L2
set_option linter.all false

/-! ### an own `in` -/
section
variable {X : Cx} {CX : CXT} {k : Nat} {C g : Addr} {fd : FuncData} {ps : List Str} {sp : Sp} {E : XK}
def rOwnIn (C : Addr) (m : Bool → Bool) (sp : Sp) (E : XK) : R2 := fun x y H Q => ∃ a dx fs, y = .ref a ∧ H a = some (.ins C dx fs) ∧ sp [.ref a, x] H (fun v H' => ∃ b, v = .bl b ∧ Q (.bl (m b)) H') E
theorem op_notInOwn (mm : Meth X.K C "__contains__" g) (F : FnOk X.prog X.w X.K X.mg X.base CX k g fd ps sp) (hr : Room k X.A) (hb : Binds X.K fd ps []) (hx : Passes CX X E) : OpR X (compareOp .NotIn) (rOwnIn C not sp E) := by
  intro pins s σ H x y v u Q I rx ry h
  obtain ⟨a, dx, fs, rfl, ha, q⟩ := h
  cases (show u = Value.ref a from ry)
  obtain ⟨mA, O, _⟩ := ins_get I.hok ha
  obtain ⟨od, J, _⟩ := O.look
  obtain ⟨m, hF⟩ := I.fr
  refine PySem.W.notIn_K hF I.ok.mod.kin J mm.at_ mm.fn ?_
  refine wpAny_mono (run_fn (us := [.ref a, v]) (vs := [.ref a, x]) (ds := []) (dvs := []) F hr hb .nil hx I (.cons rfl (.cons rx .nil)) q) (fun w s' z => ?_) fun _ _ x => x
  obtain ⟨z', H', I', rz, b, eb, qz⟩ := z
  subst eb
  cases (show w = Value.bool b from rz)
  exact wpAny_truthy_bool ⟨.bl (!b), H', I', rfl, qz⟩
theorem op_inOwn (mm : Meth X.K C "__contains__" g) (F : FnOk X.prog X.w X.K X.mg X.base CX k g fd ps sp) (hr : Room k X.A) (hb : Binds X.K fd ps []) (hx : Passes CX X E) : OpR X (compareOp .In) (rOwnIn C id sp E) := by
  intro pins s σ H x y v u Q I rx ry h
  obtain ⟨a, dx, fs, rfl, ha, q⟩ := h
  cases (show u = Value.ref a from ry)
  obtain ⟨mA, O, _⟩ := ins_get I.hok ha
  obtain ⟨od, J, _⟩ := O.look
  obtain ⟨m, hF⟩ := I.fr
  refine PySem.W.in_K hF I.ok.mod.kin J mm.at_ mm.fn ?_
  refine wpAny_mono (run_fn (us := [.ref a, v]) (vs := [.ref a, x]) (ds := []) (dvs := []) F hr hb .nil hx I (.cons rfl (.cons rx .nil)) q) (fun w s' z => ?_) fun _ _ x => x
  obtain ⟨z', H', I', rz, b, eb, qz⟩ := z
  subst eb
  cases (show w = Value.bool b from rz)
  exact wpAny_truthy_bool ⟨.bl b, H', I', rfl, qz⟩
end

/-! ### heaps -/
/-- all that was tracked stands, but what is at a -/
def SameX (a : Addr) (H H' : Hp) : Prop := ∀ b o, b ≠ a → H b = some o → H' b = some o
theorem SameX.refl {a : Addr} {H : Hp} : SameX a H H := fun _ _ _ h => h
theorem SameX.trans {a : Addr} {H H1 H2 : Hp} (x : SameX a H H1) (y : SameX a H1 H2) : SameX a H H2 := fun b o n h => y b o n (x b o n h)
theorem SameX.upd {a : Addr} {H : Hp} {o : HO} : SameX a H (L2.upd H a o) := fun b _ n h => by
  rw [upd_ne n]
  exact h
theorem SameX.upd' {a : Addr} {H H1 : Hp} {o : HO} (x : SameX a H H1) : SameX a H (L2.upd H1 a o) := x.trans .upd
theorem SameX.of {a : Addr} {H H1 : Hp} (x : Same H H1) : SameX a H H1 := fun b o _ h => x b o h
theorem Same.new {H : Hp} {p : Addr} {o : HO} (h : H p = none) : Same H (upd H p o) := fun b u e => by
  rw [upd_ne (ne_of_none e h)]
  exact e
theorem SqL.now {K : PySem.W.Frag} {H : Hp} {a : Addr} {xs : List V} (h : H a = some (.lst xs)) : SqL K H a xs := SqL.of h

/-! ### the purse -/
/-- a purse's rows -/
def pur (c : Addr) (p r n s : Int) : List V := [.ref c, .int p, .int r, .int n, .int s]
structure Purse (a c : Addr) (H : Hp) : Prop where
  ex : ∃ (cs : List Int) (p : Nat) (r n s : Int), H a = some (.lst (pur c p r n s)) ∧ H c = some (.lst (cs.map V.int)) ∧ (∀ x ∈ cs, 0 ≤ x) ∧ p ≤ cs.length ∧ cs.length ≤ 63 ∧ 0 ≤ r ∧ 0 ≤ s ∧ s < 2147483647
theorem pur_ne {H : Hp} {a c c' : Addr} {p r n s : Int} {cs : List Int} (h : H a = some (.lst (pur c p r n s))) (h' : H c' = some (.lst (cs.map V.int))) : c' ≠ a := ne_of h' h (by
  intro e
  injection e with e
  cases cs with
  | nil => cases e
  | cons x r => injection e with e1 _; cases e1)
theorem lk1 {m f : Str} {v : V} (h : (m == f) = false) : List.lookup m [(f, v)] = none := by
  simp only [List.lookup, h]
theorem bl_t {p : Prop} [Decidable p] (h : p) : V.bl (decide p) = V.bl true := congrArg V.bl (decide_eq_true h)
theorem bl_f {p : Prop} [Decidable p] (h : ¬ p) : V.bl (decide p) = V.bl false := congrArg V.bl (decide_eq_false h)
theorem bln_t {p : Prop} [Decidable p] (h : p) : V.bl (!decide p) = V.bl false := by rw [decide_eq_true h]; rfl
theorem bln_f {p : Prop} [Decidable p] (h : ¬ p) : V.bl (!decide p) = V.bl true := by rw [decide_eq_false h]; rfl
theorem int_ne {a b : Int} (h : ¬ a = b) : ¬ V.int a = V.int b := fun e => h (V.int.inj e)
theorem int_eq {a b : Int} (h : a = b) : V.int a = V.int b := congrArg V.int h

theorem Purse.there {a c : Addr} {H : Hp} (P : Purse a c H) : (∃ xs, H a = some (.lst xs)) ∧ ∃ ys, H c = some (.lst ys) := by
  obtain ⟨cs, p, r, n, s, h1, h2, _⟩ := P.ex
  exact ⟨⟨_, h1⟩, _, h2⟩
/-- a purse stands where both of its lists stand -/
theorem Purse.keep {a c : Addr} {H H' : Hp} (P : Purse a c H) (h : H' a = H a) (h' : H' c = H c) : Purse a c H' := by
  obtain ⟨cs, p, r, n, s, h1, h2, q⟩ := P.ex
  exact ⟨cs, p, r, n, s, h.trans h1, h'.trans h2, q⟩
theorem Purse.same {a c : Addr} {H H' : Hp} (P : Purse a c H) (s : Same H H') : Purse a c H' := by
  obtain ⟨cs, p, r, n, z, h1, h2, q⟩ := P.ex
  exact ⟨cs, p, r, n, z, s _ _ h1, s _ _ h2, q⟩
theorem Purse.on {a c b : Addr} {H H' : Hp} (P : Purse a c H) (s : SameX b H H') (na : a ≠ b) (nc : c ≠ b) : Purse a c H' := by
  obtain ⟨cs, p, r, n, z, h1, h2, q⟩ := P.ex
  exact ⟨cs, p, r, n, z, s _ _ na h1, s _ _ nc h2, q⟩
theorem small1000' {n : Nat} (h : n < 100000) : n < sizeLine := Nat.lt_of_lt_of_le h (by decide)
theorem sqT_sm {K : PySem.W.Frag} {H H' : Hp} {a : Addr} {xs : List V} (h : SqT K H a xs) (s : Same H H') : SqT K H' a xs := by
  rcases h with (h | ⟨o, h⟩) | h
  · exact .inl (.inl (s _ _ h))
  · exact .inl (.inr ⟨o, s _ _ h⟩)
  · exact .inr h
/-! ### several except clauses, each with or without a name -/
section
open PySem.Spec PyProof.Rows
variable {X : Cx}
/-- a clause: its class, the slot of its name, its suite -/
abbrev Cl := Value × Option Nat × (Addr → Value → Option Addr → TS)
def unN (D : Ends) (i : Nat) : Ends := { nx := fun σ H => D.nx (σ.set i none) H, rt := D.rt, bk := fun σ H => D.bk (σ.set i none) H, ct := fun σ H => D.ct (σ.set i none) H }
def clGo (D : Ends) (o : Option Nat) (t : TS) (a : Addr) (σ : L2.St) (H : Hp) : Prop := match o with
  | none => t D σ H
  | some i => t (unN D i) (σ.set i (some (.ref a))) H
def wCl (K : PySem.W.Frag) (Wout : WX) (D : Ends) : List Cl → WX
  | [] => Wout
  | (c, o, ts) :: r => fun cls d σ H => ∃ b, PySem.W.exmOne K cls c = some b ∧ (b = true → ∀ a, H a = none → clGo D o (ts a cls d) a σ H) ∧ (b = false → wCl K Wout D r cls d σ H)
inductive ClOk (X : Cx) : List ExceptHandler → List Cl → Prop
  | nil : ClOk X [] []
  | bare {x : Str} {c : Value} {ts : Addr → Value → Option Addr → TS} {b0 : Stmt} {su : List Stmt} {np ps : Pos} {hs : List ExceptHandler} {l : List Cl} (nm : Names X x c)
      (ok : ∀ (a : Addr) (oe : Obj) (cls : Value) (d : Option Addr) (pn : List (Addr × Obj)), Zc cls d oe → (∃ vs, oe.data = .fields vs) → PSs (X.suite a ((a, oe) :: pn)) (b0 :: su) (ts a cls d)) (rest : ClOk X hs l) :
      ClOk X (.ExceptHandler (some (.Name x np)) none (b0 :: su) ps :: hs) ((c, none, ts) :: l)
  | named {x n : Str} {i : Nat} {c : Value} {ts : Addr → Value → Option Addr → TS} {b0 : Stmt} {su : List Stmt} {np ps : Pos} {hs : List ExceptHandler} {l : List Cl} (nd : X.N.Nodup) (hi : X.N[i]? = some n) (lc : X.env.kindOf n = some .local) (nm : Names X x c)
      (ok : ∀ (a : Addr) (oe : Obj) (cls : Value) (d : Option Addr) (pn : List (Addr × Obj)), Zc cls d oe → (∃ vs, oe.data = .fields vs) → PSs (X.suite a ((a, oe) :: pn)) (b0 :: su) (ts a cls d)) (rest : ClOk X hs l) :
      ClOk X (.ExceptHandler (some (.Name x np)) (some n) (b0 :: su) ps :: hs) ((c, some i, ts) :: l)
theorem ps_try_cl {body : List Stmt} {h0 : ExceptHandler} {hs : List ExceptHandler} {l : List Cl} {pos : Pos} {tb : WX → TS} {Wout : WX} (st : X.stack = X.env :: X.outer) (fr : X.env.frame = some X.env.locals) (tk : Takes X Wout)
    (hb : ∀ (W : WX) (pn : List (Addr × Obj)) (xe : Value → Shared → Prop), Takes (X.tr pn xe) W → PassesOwn (model X.prog X.w) X.A X.env xe → PSs (X.tr pn xe) body (tb W))
    (hh : ClOk X (h0 :: hs) l) : PS X (.Try body (h0 :: hs) [] [] pos) (fun D σ H => tb (wCl X.K Wout D l) D σ H) := by
  refine ⟨fun pins s σ H D I h => ?_⟩
  have ok := I.ok
  have frs0 : X.A.frames = some (X.env :: X.outer) := by
    rw [ok.frames, st]
  refine wpAny_Try_except (wpAny_mono ((hb (wCl X.K Wout D l) (X.pn ++ pins) (fun e t1 => wpAny (model X.prog X.w) X.A (noteFrame e X.env) (fun _ t2 =>
    wpAny (model X.prog X.w) X.A (setFlight e none) (fun _ t3 => wpAny (model X.prog X.w) X.A (handleBy e X.env (h0 :: hs)) (SP X pins D) X.xe t3) X.xe t2) X.xe t1)
      (fun u s' xx => ?_) PassesOwn.looking).run [] s σ H D (I.toTry _) h) (fun f s1 hsp => ?_) (fun _ _ z => z))
  · obtain ⟨a, B, sI, pins', σ', H', cls, d, rfl, J', nb, up, sky, na, os, ag, w⟩ := xx
    have J := J'.ofTry ok
    have sky2 : Sky B (X.env :: X.outer) a (Zc cls d) X.env.locals s'.heap := by
      rw [← st]
      exact sky
    refine Sky.land Zc.steady frs0 fr sky2 fun g1 fl1 up1 => ?_
    have J1 : Inv X pins σ' H' { s' with heap := g1 } := J.landed nb fl1.1 (up.trans up1) os ag
    obtain ⟨o1, vs1, at1, z1, dt1⟩ := fl1.there
    have off : a ∉ frs (X.env :: X.outer) := fun hm => by
      obtain ⟨_, o', e', hnf⟩ := fl1.2.2.1.mem hm
      rw [at1] at e'
      cases e'
      exact hnf _ dt1
    have offL : a ≠ X.env.locals := fun z => off (List.mem_filterMap.mpr ⟨X.env, List.mem_cons_self, by rw [fr, z]⟩)
    have offF : a ∉ X.fs := fun hm => by
      obtain ⟨e, he, q⟩ := List.mem_filterMap.mp hm
      exact off (List.mem_filterMap.mpr ⟨e, List.mem_cons_of_mem _ he, q⟩)
    have S1 := J1.suite at1 dt1 na offL offF
    have LT : PySem.W.Looks (model X.prog X.w) g1 (typeOf (.ref a)) cls := fun A Q E s k q => wpAny_typeOf_ref (k _ _ at1) (by rw [z1.1]; exact q)
    have ask : ∀ {x : Str} {np : Pos} {c : Value}, Names X x c → ∀ {Q : Value → Shared → Prop} {E : Value → Shared → Prop}, Q c { s' with heap := g1 } →
        wpAny (model X.prog X.w) (X.A.mark (some (.ref a))) (eval (.Name x np) X.env) Q E { s' with heap := g1 } := fun {x np c} nm {Q E} q => by
      obtain ⟨hg, hdb, h1 | ⟨h1, h2, h3⟩⟩ := nm
      · exact ld_glob (X := X.suite a ((a, o1) :: (X.pn ++ pins))) S1 hg h1 q hdb
      · exact ld_blt (X := X.suite a ((a, o1) :: (X.pn ++ pins))) S1 hg h1 h2 q h3 hdb
    have go : ∀ {hs' : List ExceptHandler} {l' : List Cl}, ClOk X hs' l' → wCl X.K Wout D l' cls d σ' H' → wpAny (model X.prog X.w) X.A (handleBy (.ref a) X.env hs') (SP X pins D) X.xe { s' with heap := g1 } := by
      intro hs' l' hk
      induction hk with
      | nil =>
        intro w
        refine wpAny_handleBy_nil ?_
        obtain ⟨_, _, _, oe, vs, Tr, _, _, he, hz, hd, h1, _⟩ := id fl1
        unfold PySem.passOn
        refine wpAny_bind (wpAny_field he hd h1 ?_)
        rw [if_neg (show ¬ ((Value.ref Tr == Value.none) = true) from by simp)]
        have last : wpAny (model X.prog X.w) X.A (setFlight (.ref a) X.env.frame) (fun _ t => wpAny (model X.prog X.w) X.A (throw (.ref a) : Sem Flow) (SP X pins D) X.xe t) X.xe { s' with heap := g1 } := by
          rw [fr]
          refine HandSPX.setFlight_upZ fl1 fun g2 hh2 up2 => wpAny_throw (tk _ _ ?_)
          exact ⟨a, B, sI, pins, σ', H', cls, d, rfl, J, nb, (up.trans up1).trans up2, .inr (.inr (by rw [st]; exact hh2)), na, os, ag, w⟩
        first
          | exact wpAny_bind (wpAny_pure (wpAny_bind last))
          | exact wpAny_bind last
      | bare nm su rest ih =>
        intro w
        obtain ⟨b, hb1, yes, no⟩ := w
        have LM := PySem.W.exm_one (M := model X.prog X.w) J1.kIn LT hb1
        refine wpAny_handleBy_cons (codeAny_handlers_test (ask nm (LM.here ?_))) (fun q => by cases q)
        cases b with
        | false => exact ih (no rfl)
        | true =>
          refine codeAny_handlers_suite (HandSPX.lands_againZ fl1 fun g2 fl2 up2 => ?_)
          have J2 : Inv X pins σ' H' { s' with heap := g2 } := J.landed nb fl2.1 ((up.trans up1).trans up2) os ag
          obtain ⟨o2, vs2, at2, z2, dt2⟩ := fl2.there
          refine wpAny_mono ((su a o2 cls d (X.pn ++ pins) z2 ⟨_, dt2⟩).run [] _ _ H' _ (J2.suite at2 dt2 na offL offF) (yes rfl a na)) (fun f t hsp => ?_) (fun _ _ z => z.elim)
          cases f with
          | ret u =>
            obtain ⟨v6, σ6, H6, S6, r6, q6⟩ := hsp
            exact ⟨_, _, _, S6.unsuite ok, r6, q6⟩
          | next => exact let ⟨_, _, S6, q6⟩ := hsp; ⟨_, _, S6.unsuite ok, q6⟩
          | brk => exact let ⟨_, _, S6, q6⟩ := hsp; ⟨_, _, S6.unsuite ok, q6⟩
          | cont => exact let ⟨_, _, S6, q6⟩ := hsp; ⟨_, _, S6.unsuite ok, q6⟩
      | named nd hi lc nm su rest ih =>
        intro w
        obtain ⟨b, hb1, yes, no⟩ := w
        have LM := PySem.W.exm_one (M := model X.prog X.w) J1.kIn LT hb1
        refine wpAny_handleBy_cons (codeAny_handlers_test (ask nm (LM.here ?_))) (fun q => by cases q)
        cases b with
        | false => exact ih (no rfl)
        | true =>
          refine codeAny_handlers_suite_as (HandSPX.lands_againZ fl1 fun g2 fl2 up2 => ?_)
          have J2 : Inv X pins σ' H' { s' with heap := g2 } := J.landed nb fl2.1 ((up.trans up1).trans up2) os ag
          obtain ⟨o2, vs2, at2, z2, dt2⟩ := fl2.there
          refine store_ok (X := X.suite a ((a, o2) :: (X.pn ++ pins))) (v := .ref a) (J2.suite at2 dt2 na offL offF) nd hi (.inl lc) rfl (fun t S5 => ?_) (.inr lc)
          refine wpAny_mono ((su a o2 cls d (X.pn ++ pins) z2 ⟨_, dt2⟩).run [] t _ H' _ S5 (yes rfl a na)) (fun f t6 hsp => ?_) (fun _ _ z => z.elim)
          cases f with
          | next =>
            obtain ⟨σ6, H6, S6, q6⟩ := hsp
            exact gone_ok (S6.unsuite ok) nd hi lc fun s7 J7 => ⟨_, _, J7, q6⟩
          | brk =>
            obtain ⟨σ6, H6, S6, q6⟩ := hsp
            exact gone_ok (S6.unsuite ok) nd hi lc fun s7 J7 => ⟨_, _, J7, q6⟩
          | cont =>
            obtain ⟨σ6, H6, S6, q6⟩ := hsp
            exact gone_ok (S6.unsuite ok) nd hi lc fun s7 J7 => ⟨_, _, J7, q6⟩
          | ret u =>
            obtain ⟨v6, σ6, H6, S6, r6, q6⟩ := hsp
            exact gone_ok (S6.unsuite ok) nd hi lc fun s7 J7 => ⟨_, _, _, J7, r6, q6⟩
    exact go hh w
  · cases f with
    | ret u => exact let ⟨v, σ', H', J', r, q⟩ := hsp; ⟨v, σ', H', J'.ofTry ok, r, q⟩
    | next =>
      obtain ⟨σ', H', J', q⟩ := hsp
      exact wpAny_execs_nil ⟨σ', H', J'.ofTry ok, q⟩
    | brk => exact let ⟨σ', H', J', q⟩ := hsp; ⟨σ', H', J'.ofTry ok, q⟩
    | cont => exact let ⟨σ', H', J', q⟩ := hsp; ⟨σ', H', J'.ofTry ok, q⟩
end
/-! ### own exceptions -/
/-- what the written part says of an own exception class: the class at C, its __init__ at f -/
structure XCls (K : PySem.W.Frag) (mg : Str → Option Value) (nm : Str) (C f : Addr) : Prop where
  g : mg nm = some (.ref C)
  o : OexC K C
  i : PySem.W.findIn K (.ref C) "__init__" = some (some (.ref f))
  t : PySem.W.typeIn K (.ref f) = some (.type "function")
  x : XfC K C
  e : ExcC K C
theorem xcls_mk {K : PySem.W.Frag} {mg : Str → Option Value} {nm : Str} {C f : Addr} {n q : Str} {N : Addr} {bs bm : List Value} {sn : List Str} {sub : List Value} {ab : Bool} {col : _} {dd : Option Addr} {k0 k1 k2 k3 k5 : Option Value}
    (g : mg nm = some (.ref C)) (l : K.lookup C = some (excClassObj n q C N bs bm true sn sub ab col dd k0 k1 k2 k3 k5 "ValueError.__new__")) (bm' : PySem.HandSPX.refsVE bm = true) (sa : PySem.W.findIn K (.ref C) "__setattr__" = some (some (.builtin "object.__setattr__")))
    (ex : PySem.W.subIn K (.ref C) (.type "BaseException") = some true) (ty : PySem.W.typeIn K (.ref C) = some (.type "type")) (kp : PySem.W.keepIn K (.ref C) = true) (i : PySem.W.findIn K (.ref C) "__init__" = some (some (.ref f)))
    (t : PySem.W.typeIn K (.ref f) = some (.type "function")) (ga : PySem.W.findIn K (.ref C) "__getattribute__" = some (some (.builtin "BaseException.__getattribute__"))) (gg : PySem.W.findIn K (.ref C) "__getattr__" = some none) (hd : PySem.W.hasDictIn K C = true)
    (ha : PySem.W.findIn K (.ref C) "__class__" = some (some (.builtin "object.__class__"))) (hn : PySem.W.specialIn K (.builtin "object.__class__") "__get__" = some (some (.builtin "getset_descriptor.__get__")))
    (ht : PySem.W.takesIn K (.builtin "object.__class__") = some true) (hm : PySem.W.mroIn K C (.type "object") = some true) : XCls K mg nm C f :=
  ⟨g, ⟨⟨n, q, N, bs, bm, sn, sub, ab, col, dd, k0, k1, k2, k3, k5, l, bm'⟩, sa, ex, ty, kp⟩, i, t, ⟨ga, gg, ex, hd⟩, ⟨ga, gg, ex, hd, ha, hn, ht, hm⟩⟩
/-- __init__ of such a class: one field is stored -/
def sp_xinit (K : PySem.W.Frag) (f : Str) : Sp := fun vs H Q _ => ∃ (a C : Addr) (v : V), vs = [.ref a, v] ∧ OexC K C ∧ PySem.W.findIn K (.ref C) f = some none ∧ H a = some (exo a C none) ∧
  ∀ dx, H dx = none → dx ≠ a → Q .non (upd (upd H dx (exd dx [(f, v)])) a (exo a C (some dx)))
/-- raise C(v): what follows holds wherever the new error's dict is told, all else standing -/
theorem mkO_of {K : PySem.W.Frag} {f : Str} {C : Addr} {v : V} {H : Hp} {E : XK} (O : OexC K C) (hn : PySem.W.findIn K (.ref C) f = some none) (k : ∀ d H', H d = none → Same H H' → H' d = some (.xd [(f, v)]) → E (.ref C) (some d) H') :
    [v].length ≤ 1000 ∧ ∀ a, H a = none → sp_xinit K f (.ref a :: ([v] ++ [])) (upd H a (exo a C none))
      (fun w H2 => w = .non ∧ ∃ (d : Addr) (fs : List (Str × V)), H2 a = some (exo a C (some d)) ∧ H2 d = some (exd d fs) ∧ H d = none ∧ E (.ref C) (some d) (upd (del H2 a) d (.xd fs))) (fun _ _ _ => False) := by
  refine ⟨Nat.succ_le_succ (Nat.zero_le _), fun a ha => ⟨a, C, v, rfl, O, hn, upd_same, fun dx hdx ne => ⟨rfl, dx, [(f, v)], upd_same, ?_, ?_, ?_⟩⟩⟩
  · rw [upd_ne ne]
    exact upd_same
  · rw [upd_ne ne] at hdx
    exact hdx
  · have hdx0 : H dx = none := by
      rw [upd_ne ne] at hdx
      exact hdx
    refine k dx _ hdx0 (fun b o e => ?_) upd_same
    have nb : b ≠ dx := ne_of_none e hdx0
    have na : b ≠ a := ne_of_none e ha
    rw [upd_ne nb, del_ne na, upd_ne na, upd_ne nb, upd_ne na]
    exact e
section
variable {X : Cx} {a : Addr} {oe : Obj} {cls : Value} {d : Option Addr} {pn : List (Addr × Obj)} {n : Str}
/-- e.n in a suite, e of whichever class it is -/
def tXg (K : PySem.W.Frag) (a : Addr) (cls : Value) (d : Option Addr) (f : Str) (te : TE) : TE := fun σ H Q => te σ H fun x H1 => x = .ref a ∧ ∃ (C dd : Addr) (fs : List (Str × V)) (v : V), cls = .ref C ∧ XfC K C ∧ PySem.W.findIn K (.ref C) f = some none ∧ d = some dd ∧ H1 dd = some (.xd fs) ∧ fs.lookup f = some v ∧ Q v H1
theorem pe_xg {e : Expr} {te : TE} {pos : Pos} (hz : Zc cls d oe) (hf : ∃ vs, oe.data = .fields vs) (he : PE (X.suite a ((a, oe) :: pn)) e te)
    (hb : attributeBase e n X.env (eval e X.env) = eval e X.env := by rfl) : PE (X.suite a ((a, oe) :: pn)) (.Attribute e n pos) (tXg X.K a cls d n te) := by
  refine ⟨fun pins s σ H Q I h => ?_⟩
  refine attr_of hb (thn (he.run pins s σ H _ I h) fun u s1 hh => ?_)
  obtain ⟨x, H1, I1, rx, ex, C, dd, fs, v, ec, T, hno, ed, ea, l, q⟩ := hh
  subst ex ec ed
  obtain rfl : u = Value.ref a := rx
  obtain ⟨mA, hns, hr⟩ := (show ObjOk X.prog X.w H1 s1.heap dd (.xd fs) from I1.hok dd _ ea)
  obtain ⟨od, ho, hl⟩ := lookIn_ns hns
  obtain ⟨u, hu, ru⟩ := RelO.some_of (v := v) (o := mA n) (by rw [← l]; exact hr n)
  obtain ⟨vs, hv⟩ := hf
  have J : PySem.W.InstAt s1.heap a oe C (some od) := ⟨(I1.pin (a, oe) (List.mem_append_left _ List.mem_cons_self)).1, hz.1, by unfold PySem.W.notCls; rw [hv] <;> rfl, by rw [hz.2]; exact ho⟩
  exact PySem.HandSPX.exc_get I1.kIn J T.ga T.gg T.exC (PySem.W.findObj_own T.hdC hno rfl (by rw [hl, hu])) (handed_of ru) ⟨v, H1, I1.tok _, ru, q⟩
/-- isinstance(e, c) in a suite -/
def rIsX (K : PySem.W.Frag) (a : Addr) (cls : Value) (d : Option Addr) : List V → Hp → VK → Prop := fun xs H Q => ∃ (c : V) (cv : Value) (b : Bool) (D dd : Addr) (fs : List (Str × V)), xs = [.ref a, c] ∧ (∀ u, RelV c u → u = cv) ∧ cls = .ref D ∧ ExcC K D ∧ d = some dd ∧ H dd = some (.xd fs) ∧
  PySem.W.kitOne K (.ref D) cv = some b ∧ Q (.bl b) H
theorem call_isX (hz : Zc cls d oe) (hf : ∃ vs, oe.data = .fields vs) : CallR (X.suite a ((a, oe) :: pn)) (.builtin "isinstance") (rIsX X.K a cls d) := by
  intro pins s σ H xs us Q I r h
  obtain ⟨c, cv, b, D, dd, fs, rfl, hcv, ec, C, ed, ea, e, q⟩ := h
  subst ec ed
  obtain ⟨u1, u2, rfl, r1, r2⟩ := vals2 r
  cases (show u1 = Value.ref a from r1)
  cases (hcv _ r2)
  obtain ⟨mA, hns, hr⟩ := (show ObjOk X.prog X.w H s.heap dd (.xd fs) from I.hok dd _ ea)
  obtain ⟨od, ho, hl⟩ := lookIn_ns hns
  obtain ⟨vs, hv⟩ := hf
  have J : PySem.W.InstAt s.heap a oe D (some od) := ⟨(I.pin (a, oe) (List.mem_append_left _ List.mem_cons_self)).1, hz.1, by unfold PySem.W.notCls; rw [hv] <;> rfl, by rw [hz.2]; exact ho⟩
  obtain ⟨cd, hc, _⟩ := PySem.W.any_some C.hd
  exact PySem.W.kia_one (PySem.W.kitx_exc (by rw [hc]; rfl) C.hg C.hk C.hs C.ha C.hn C.ht C.hm) I.kIn J e (fun z => nomatch z) fun tk => ⟨.bl b, H, I.tok tk, rfl, q⟩
end
section
variable {X : Cx} {CX' : CXT} {k : Nat} {f C : Addr} {fd : FuncData} {ps : List Str} {sp : Sp} {E : St → XK} {x m : Str} {p pos apos : Pos} {e o : Expr} {es : List Expr} {ta : TE} {t : TA}
/-- o.m(..), what it lets out wished for at the caller's slots -/
def tMethX (C : Addr) (m : Str) (sp : Sp) (E : St → XK) (ta : TE) (t : TA) : TE := fun σ H Q => ta σ H fun x H1 => ∃ a dx fs, x = .ref a ∧ H1 a = some (.ins C dx fs) ∧ fs.lookup m = none ∧ t σ H1 fun vs H2 => sp (x :: vs) H2 Q (E σ)
theorem pe_methX {pl : Sem Bool} (he : PE X o ta) (c : Cls X.K C) (hm : Meth X.K C m f) (F : FnOk X.prog X.w X.K X.mg X.base CX' k f fd ps sp) (hr : Room k X.A) (hb : Binds X.K fd ps []) (hx : ∀ σ, PassesAt CX' X σ (E σ)) (ha : PA X (e :: es) t)
    (hst : starEach (e :: es) X.env = (false, eval e X.env) :: starEach es X.env := by rfl) (hpl : (PySem.backTo pos (starEach es X.env)).any (·.1) = false := by rfl)
    (ht : eval (.Call (.Attribute o m apos) (e :: es) [] pos) X.env = (eval o X.env >>= fun ov => standAt apos.atName >>= fun _ => holding [ov] (getMethod ov m pl) >>= fun fr => callWith pos fr.1 fr.2 (PySem.backTo pos (starEach (e :: es) X.env)) (backToKw pos (keywordEach [] X.env))) := by rfl) :
    PE X (.Call (.Attribute o m apos) (e :: es) [] pos) (tMethX C m sp E ta t) := by
  refine ⟨fun pins s σ H Q I h => ?_⟩
  refine PySem.W.methodCall_KW (pl := pl) (thn (he.run pins s σ H _ I h) fun u s1 ⟨x, H1, I1, rx, a, dx, fs, ex, ea, l, q⟩ => ?_) ht
  subst ex
  obtain rfl : u = Value.ref a := rx
  refine getmeth_ok I1 ea c hm l ?_
  refine PySem.W.callWith_K (h₀ := X.base) I1.ok.mod.kin hm.kp (thn (ha.run pos pins s1 σ H1 _ I1 q) fun us s2 ⟨vs, H2, I2, r, q2⟩ => ⟨I2.kIn, ?_⟩) hst hpl
  exact run_fnS (us := .ref a :: us) (vs := .ref a :: vs) F hr hb (hx σ) I2 (.cons rfl r) q2
end
/-- a class that is only named -/
structure GCls (mg : Str → Option Value) (nm : Str) (C : Addr) : Prop where
  g : mg nm = some (.ref C)
/-- what a callee lets out, whatever the slots hold -/
def anyW (n : Nat) (W : WX) : XK := fun cls d H => ∀ σ : L2.St, σ.length = n → W cls d σ H
theorem passes_any {X : Cx} {W : WX} (n : Nat) (tk : Takes X W) (hn : X.N.length = n := by rfl) : Passes (L2.CX X.prog X.w) X (anyW n W) :=
  fun _ σ _ _ e s' I c => tk e s' (XE.of_call I (fun cls d H' h => h σ (I.len.trans hn)) c)
/-! ### defs that ask for a text of data: nothing is being shown meanwhile -/
section
open PySem.Spec PyProof.Rows
section
variable {P : Program} {w : World} {K : PySem.W.Frag} {mg : Str → Option Value} {base : Heap}
/-- a def's promise, wanted only while no repr is under way -/
structure FnStill (P : Program) (w : World) (K : PySem.W.Frag) (mg : Str → Option Value) (base : Heap) (k : Nat) (f : Addr) (fd : FuncData) (ps : List Str) (sp : Sp) : Prop where
  count : ∀ vs H Q E, sp vs H Q E → vs.length = ps.length
  go : ∀ (A : Around) (outer : List Env) (s : Shared) (H : Hp) (args : Args) (us : List Value) (vs : List V) (Q : VK) (E : XK), A.guards = some [] → Room k A → Env0 P w K mg base A outer s H →
    BindsTo s fd args (ps.zip us) → Vals vs us → sp vs H Q E → codeAny (model P w) A (.call (.ref f) args) (CR CX0 outer P w H s Q E) s
theorem still_fn {x qual : Str} {st : Stmt} {f : Addr} {fd : FuncData} {N ps : List Str} {k : Nat} {sp : Sp} (F : Fun K x qual st f fd) (S : FnScope N ps (defScope st)) (cnt : ∀ vs H Q E, sp vs H Q E → vs.length = ps.length)
    (bod : ∀ (cdv : Value) (A : Around) (outer : List Env) (s : Shared) (H : Hp) (vs : List V) (Q : VK) (E : XK), A.guards = some [] → Room k (A.deeper (envOfC qual (defScope st) s.heap.objs.size f cdv)) → sp vs H Q E →
      ∃ t, PSs (cxOf CX0 P w K mg base N qual (defScope st) f cdv A outer s H E).nox (defBody st) t ∧ t { nx := fun _ H' => Q .non H', rt := Q } (start N vs) H) : FnStill P w K mg base (k + 1) f fd ps sp := by
  obtain ⟨oc, od, kV, doc, pm, an, cdv, ct, osl, rfl, lk, hcd⟩ := F.ex
  refine ⟨cnt, fun A outer s H args us vs Q E still room e0 bnd rv want => ?_⟩
  have kin : K.In s.heap := e0.mod.kin.keeps fun b o hb => (e0.bs b o hb).1
  have limit : s.heap.NoLimit := e0.mod.nolimit.keeps fun b o hb => (e0.bs b o hb).1
  have param : ∀ y ∈ ps.zip us, (defScope st).names.lookup y.1 = some .local ∨ ((defScope st).names.lookup y.1 = some .cell ∧ ((cellsFrom (s.heap.objs.size + 1) (defScope st).names []).lookup y.1).isSome = true) := by
    rintro ⟨n, v⟩ hy
    refine (S.par n (List.of_mem_zip hy).1).imp id fun c => ⟨c, PySem.W.cellsFrom_some _ _ _ (.inl c)⟩
  refine codeAny_call_function room.depth (kin _ _ lk) rfl S.co S.gen rfl (PySem.W.codeRec_of kin hcd) (bnd _ _ _ _ (wpAny_newFunctionEnv_cells S.kind param fun env he s1 x => ?_))
  subst he
  refine ⟨limit.keeps x.toInCall.keep, codeAny_func ?_⟩
  obtain ⟨t, ht, hq⟩ := bod cdv A outer s H vs Q E still (room.deeper _) want
  refine wpAny_mono (ht.nox.run [] s1 (start N vs) H _ (inv_start S room.hd e0 (cnt _ _ _ _ want) rv x) hq) (fun fl s' hs => ?_) fun _ _ z => z
  cases fl with
  | ret u => exact let ⟨v, _, H', J, rr, q⟩ := hs; ⟨v, H', J.os, J.bare, J.base, J.hok, rr, q⟩
  | next => exact let ⟨_, H', J, q⟩ := hs; ⟨V.non, H', J.os, J.bare, J.base, J.hok, rfl, q⟩
  | brk => exact let ⟨_, _, _, q⟩ := hs; False.elim q
  | cont => exact let ⟨_, _, _, q⟩ := hs; False.elim q
end
section
variable {X : Cx} {k : Nat} {f : Addr} {fd : FuncData} {ps : List Str} {sp : Sp} {dvs : List V} {ds : List Value} {E : XK} {x : Str} {p pos : Pos} {e : Expr} {es : List Expr} {t : TA}
/-- f(e, ..) of such a def -/
theorem pe_still (still : X.A.guards = some []) (F : FnStill X.prog X.w X.K X.mg X.base k f fd ps sp) (hr : Room k X.A) (hg : Gl X x) (hm : X.mg x = some (.ref f)) (hk : PySem.W.keepIn X.K (.ref f) = true) (hb : Binds X.K fd ps ds) (hd : Vals dvs ds) (hx : Passes CX0 X E)
    (ha : PA X (e :: es) t) (hdb : (x == ("__debug__" : Str)) = false := by decide) (he : starEach (e :: es) X.env = (false, eval e X.env) :: starEach es X.env := by rfl) (hpl : (backTo pos (starEach es X.env)).any (·.1) = false := by rfl) :
    PE X (.Call (.Name x p) (e :: es) [] pos) (tCall sp dvs E t) := by
  refine ⟨fun pins s σ H Q I h => wpAny_Call_Name_kw (ld_glob I hg hm ?_ hdb)⟩
  refine PySem.W.callWith_K (h₀ := X.base) I.ok.mod.kin hk (thn (ha.run pos pins s σ H _ I h) fun us s1 ⟨vs, H1, I1, rv, q⟩ => ⟨I1.kIn, ?_⟩) he hpl
  have both : Vals (vs ++ dvs) (us ++ ds) := rv.append hd
  have many : (us ++ ds).length = ps.length := both.length ▸ F.count _ _ _ _ q
  refine wpAny_call (codeAny_mono (F.go X.A X.stack s1 H1 ⟨us, []⟩ (us ++ ds) (vs ++ dvs) Q E still hr I1.env0 (hb s1 us I1.kIn many) both q) fun r s' hq => ?_)
  rcases r with er | fl
  · exact hx pins σ H1 s1 _ s' I1 hq
  · cases fl with
    | ret u => exact I1.after hq
    | next => exact hq.elim
    | brk => exact hq.elim
    | cont => exact hq.elim
end
/-- the law's def from the claim's caller: nothing is being shown there -/
theorem still_core {P : Program} {w : World} {K : PySem.W.Frag} {mg mb : Str → Option Value} {k : Nat} {fa a : Addr} {fd : FuncData} {x : Str} {sp : Sp} {s₁ : Shared} {vs : List Value} {H : Hp}
    (KX : K.In s₁.heap) (hns : s₁.heap.Ns mainGlobals mg) (hb : s₁.heap.Ns builtinsNs mb) (hbb : ∀ x : Str, x ≠ "__name__" → mb x = bootBuiltins x) (hlim : s₁.heap.NoLimit) (hg : s₁.gens = #[]) (ha : s₁.heap.get? a = some { cls := .type "list", data := .seq vs.toArray }) (hr : Room k callerA)
    (F : ∀ base : Heap, K.In base → base.Ns mainGlobals mg → FnStill P w K mg base k fa fd [x] sp) (hbind : ∀ (s : Shared) (u : Value), BindsTo s fd ⟨[u], []⟩ [(x, u)]) (hO : Only H) (hok : HOk P w H s₁.heap) (hA : ∀ b, b ≠ a → H b = none) (hK : H a ≠ none → K.lookup a = none)
    (hsp : sp [.ref a] H (fun v _ => v = .bl true) fun _ _ _ => False) (hCX : ∀ e s', CX0 [] H s₁ (fun _ _ _ => False) e s' → False) :
    codeAny (model P w) callerA (.call (.ref fa) ⟨[.ref a], []⟩) (fun r s' => r = .ok (.ret (.bool true)) ∧ OldK s₁.heap s'.heap ∧ s'.os = s₁.os ∧ AllBare s'.gens) s₁ := by
  have free : ∀ {b : Addr} {o : Obj}, s₁.heap.get? b = some o → (b = a → H a = none) → (hidT s₁.heap H).get? b = some o := fun {b o} hb z => hidT_get hb (by
    by_cases q : b = a
    · rw [q]
      exact z q
    · exact hA b q)
  have nm : ∀ {b : Addr} {m : Str → Option Value}, s₁.heap.Ns b m → (hidT s₁.heap H).Ns b m := by
    rintro b m ⟨o, es, ep, hb, d, rr⟩
    refine ⟨o, es, ep, free hb fun q => ?_, d, rr⟩
    subst q
    rw [ha] at hb
    cases hb
    cases (show Data.seq vs.toArray _ = Data.dict es ep from d)
  have kb : K.In (hidT s₁.heap H) := fun b o hb => free (KX b o hb) fun q => by
    subst q
    refine Classical.byContradiction fun z => ?_
    rw [hK z] at hb
    cases hb
  obtain ⟨mc, c1, c2⟩ := hlim
  have e0 : Env0 P w K mg (hidT s₁.heap H) callerA [] s₁ H := ⟨rfl, ⟨kb, nm hns, ⟨mb, nm hb, hbb⟩, ⟨mc, nm c1, c2⟩⟩, fun b o hb => of_hidT hb, Nat.le_of_eq (hidT_size _ _), trivial, fun b z => (List.not_mem_nil z).elim, hok, .of_eq hg⟩
  refine codeAny_mono ((F _ kb (nm hns)).go callerA [] s₁ H ⟨[.ref a], []⟩ [.ref a] [.ref a] _ _ rfl hr e0 (hbind s₁ (.ref a)) (.cons rfl .nil) hsp) fun r s' h => ?_
  rcases r with er | fl
  · exact (hCX er s' h).elim
  cases fl with
  | next => exact h.elim
  | brk => exact h.elim
  | cont => exact h.elim
  | ret u =>
    obtain ⟨v, H', os, bare, un, hok', rr, q⟩ := h
    obtain rfl : v = .bl true := q
    cases (show u = Value.bool true from rr)
    refine ⟨rfl, OldK.of_keep fun b o hb => ?_, os, bare⟩
    rcases hO b with z | ⟨ob, xs, z⟩
    · exact un.keep b o hb z (fun y => (List.not_mem_nil y).elim) List.not_mem_nil
    · have was := (hok b _ z).1
      rw [hb] at was
      cases was
      exact (hok' b _ (un.frzs b _ _ z)).1
theorem still_law {P : Program} {w : World} {K : PySem.W.Frag} {mg mb : Str → Option Value} {k : Nat} {fa a : Addr} {fd : FuncData} {x : Str} {sp : Sp} {s₁ : Shared} {vs : List Value} {ns : List Int}
    (KX : K.In s₁.heap) (hns : s₁.heap.Ns mainGlobals mg) (hb : s₁.heap.Ns builtinsNs mb) (hbb : ∀ x : Str, x ≠ "__name__" → mb x = bootBuiltins x) (hlim : s₁.heap.NoLimit) (hg : s₁.gens = #[]) (ha : s₁.heap.get? a = some { cls := .type "list", data := .seq vs.toArray }) (hi : IntsAre vs ns) (hl : ns.length ≤ sizeLine) (hr : Room k callerA)
    (F : ∀ base : Heap, K.In base → base.Ns mainGlobals mg → FnStill P w K mg base k fa fd [x] sp) (hbind : ∀ (s : Shared) (u : Value), BindsTo s fd ⟨[u], []⟩ [(x, u)])
    (hsp : ∀ H : Hp, Only H → SqL K H a (ns.map V.int) → sp [.ref a] H (fun v _ => v = .bl true) fun _ _ _ => False) (hCX : ∀ H e s', CX0 [] H s₁ (fun _ _ _ => False) e s' → False) :
    codeAny (model P w) callerA (.call (.ref fa) ⟨[.ref a], []⟩) (fun r s' => r = .ok (.ret (.bool true)) ∧ OldK s₁.heap s'.heap ∧ s'.os = s₁.os ∧ AllBare s'.gens) s₁ := by
  rcases hk : K.lookup a with _ | o
  · have now : ∀ b u, (fun b => if b = a then some (HO.frz { cls := .type "list", data := .seq vs.toArray } (.lst (ns.map V.int))) else none) b = some u → b = a ∧ u = HO.frz { cls := .type "list", data := .seq vs.toArray } (.lst (ns.map V.int)) := fun b u z => by
      dsimp only at z
      split at z
      · rename_i q
        exact ⟨q, (Option.some.inj z).symm⟩
      · cases z
    refine still_core (H := fun b => if b = a then some (.frz { cls := .type "list", data := .seq vs.toArray } (.lst (ns.map V.int))) else none) KX hns hb hbb hlim hg ha hr F hbind (fun b => ?_) (fun b u z => ?_) (fun b z => if_neg z) (fun _ => hk) (hsp _ (fun b => ?_) (.inl (.inr ⟨_, if_pos rfl⟩))) (hCX _)
    · exact (Classical.em (b = a)).elim (fun q => .inr ⟨_, _, if_pos q⟩) fun q => .inl (if_neg q)
    · obtain ⟨rfl, rfl⟩ := now b u z
      exact ⟨ha, by rw [List.length_map]; exact hl, vs, _, vals_ints hi, ha⟩
    · exact (Classical.em (b = a)).elim (fun q => .inr ⟨_, _, if_pos q⟩) fun q => .inl (if_neg q)
  · have at_ := KX a o hk
    rw [ha] at at_
    cases at_
    refine still_core (H := fun _ => none) KX hns hb hbb hlim hg ha hr F hbind (fun _ => .inl rfl) (fun b u z => nomatch z) (fun _ _ => rfl) (fun z => (z rfl).elim) (hsp _ (fun _ => .inl rfl) (.inr ⟨_, vs.toArray, _, hk, rfl, rfl, rfl, ?_, ?_⟩)) (hCX _)
    · rw [List.size_toArray, hi.length]
      exact hl
    · simpa using vals_ints hi
theorem still_walk {l : PySem.W.OpenLaw} {n k : Nat} {q : Program} {loose : List Str} {XP : (Str → Option Value) → Heap → Prop} {YP : World → Heap → Prop} {d : DefRec} {K : Params → PySem.W.Frag} {sp : World → Sp} {x : Str}
    (hn : l.most = some n) (hn2 : n ≤ sizeLine) (hdf : d.params.defaults = []) (hr : Room k callerA) (hY : ∀ (w : World) (h : Heap), YP w h → (K w.params).In h)
    (F : ∀ (w : World) (mg : Str → Option Value) (fa : Addr) (h : Heap), (K w.params).In h → h.Ns mainGlobals mg → mg d.name = some (.ref fa) → ∃ fd : FuncData, (∀ (s : Shared) (u : Value), BindsTo s fd ⟨[u], []⟩ [(x, u)]) ∧
      ∀ base : Heap, (K w.params).In base → base.Ns mainGlobals mg → FnStill l.prog w (K w.params) mg base k fa fd [x] (sp w))
    (hsp : ∀ (w : World) (H : Hp) (a : Addr) (ns : List Int), ns.length ≤ n → Only H → SqL (K w.params) H a (ns.map V.int) → sp w [.ref a] H (fun v _ => v = .bl true) fun _ _ _ => False)
    (hCX : ∀ (H : Hp) (s : Shared) (e : Value) (s' : Shared), CX0 [] H s (fun _ _ _ => False) e s' → False) : PySem.W.WalkO q loose XP YP l.row.toRowW d [] (fun f vs => PySem.call f vs) := by
  refine Att.attach_call hn hdf fun w s₀ s₁ mg mb fa o pm cd doc a vs ns G Y ho hd hcd hmg hobj hints many gs => ?_
  obtain ⟨fd, bnd, hF⟩ := F w mg fa _ (hY w _ Y) G.T.g hmg
  exact still_law (hY w _ Y) G.T.g G.T.b G.T.builtins G.T.nolimit gs hobj hints (Nat.le_trans many hn2) hr hF bnd (fun H hO hS => hsp w H a ns many hO hS) fun H e s' => hCX H s₁ e s'
/-! ### the text of data -/
section
variable {X : Cx}
/-- repr(x) of data: its own text, nothing changed -/
def rRepr (K : PySem.W.Frag) : List V → Hp → VK → Prop := fun xs H Q => ∃ (a : Addr) (d : PyData), xs = [.ref a] ∧ Dp K H (.ref a) d ∧ d.showable = true ∧ d.hasDict = false ∧ d.depth ≤ 100 ∧ d.shown.length ≤ sizeLine ∧ Q (.str d.shown) H
theorem call_repr (still : X.A.guards = some []) (un : X.A.units + 150 < cLine) : CallR X (.builtin "repr") (rRepr X.K) := by
  intro pins s σ H xs us Q I rv h
  obtain ⟨a, d, rfl, hd, sh, nd, dp, sz, q⟩ := h
  rcases rv with _ | ⟨r1, r2⟩
  cases r2
  cases r1
  obtain ⟨as, hr⟩ := Dp.reads I d _ _ hd rfl
  exact repr_of_reads' hr sh (fun z => by rw [nd] at z; cases z) still (by omega) (fun _ _ z => z) (fun h' u tk keep => ⟨.str d.shown, H, I.kept keep, ⟨u, rfl⟩, q⟩) sz
end
end
/-! ### defs with a star parameter -/
section
open PySem.Spec PyProof.Rows
structure StarB (fd : FuncData) (ps : List Str) (pv : Str) : Prop where
  b : ∀ us rest : List Value, us.length = ps.length → bindArgs fd ⟨us ++ rest, []⟩ = (newTuple rest >>= fun t => pure (ps.zip us ++ [(pv, t)]))
def starSp (n : Nat) (sp : Sp) : Sp := fun vs H Q E => ∃ ws rest, vs = ws ++ rest ∧ ws.length = n ∧ rest.length ≤ sizeLine ∧ ∀ p, H p = none → sp (ws ++ [V.ref p]) (upd H p (.tup rest)) Q E
variable {P : Program} {w : World} {K : PySem.W.Frag} {mg : Str → Option Value} {base : Heap} {x qual : Str} {st : Stmt} {f : Addr} {fd : FuncData} {N ps : List Str} {pv : Str} {k : Nat} {sp : Sp}
theorem okStar (F : Fun K x qual st f fd) (B : StarB fd ps pv) (S : FnScope N (ps ++ [pv]) (defScope st))
    (hbody : ∀ (cdv : Value) (A : Around) (outer : List Env) (s : Shared) (H : Hp) (vs : List V) (Q : VK) (E : XK), Room k (A.deeper (envOfC qual (defScope st) s.heap.objs.size f cdv)) → sp vs H Q E →
      ∃ t, PSs (cxOf CX0 P w K mg base N qual (defScope st) f cdv A outer s H E).nox (defBody st) t ∧ t { nx := fun _ H' => Q .non H', rt := Q } (start N vs) H) : FnR P w K mg base CX0 (k + 1) f (starSp ps.length sp) := by
  obtain ⟨oc, od, kV, doc, pm, an, cdv, ct, osl, rfl, lk, hcd⟩ := F.ex
  refine StX.fn_star lk hcd S StX.cxUp_none B.b fun A outer s H vs Q E hr hsp => ?_
  obtain ⟨t, h, q⟩ := hbody cdv A outer s H vs Q E hr hsp
  exact ⟨t, h.nox, q⟩
theorem okStarX (F : Fun K x qual st f fd) (B : StarB fd ps pv) (S : FnScope N (ps ++ [pv]) (defScope st))
    (hbody : ∀ (cdv : Value) (A : Around) (outer : List Env) (s : Shared) (H : Hp) (vs : List V) (Q : VK) (E : XK), Room k (A.deeper (envOfC qual (defScope st) s.heap.objs.size f cdv)) → sp vs H Q E →
      ∃ t, PSs (cxOf (L2.CX P w) P w K mg base N qual (defScope st) f cdv A outer s H E) (defBody st) t ∧ t { nx := fun _ H' => Q .non H', rt := Q } (start N vs) H) : FnR P w K mg base (L2.CX P w) (k + 1) f (starSp ps.length sp) := by
  obtain ⟨oc, od, kV, doc, pm, an, cdv, ct, osl, rfl, lk, hcd⟩ := F.ex
  exact StX.fn_star lk hcd S StX.cxUp B.b fun A outer s H vs Q E hr hsp => hbody cdv A outer s H vs Q E hr hsp
end
section
variable {X : Cx} {CX : CXT} {k : Nat} {f C : Addr} {sp : Sp} {E : XK} {x : Str} {p pos : Pos}
/-- C(), C's __init__ with a star parameter -/
theorem pe_makeR0 (M : Mk X.K C f) (F : FnR X.prog X.w X.K X.mg X.base CX k f sp) (hr : Room (k + 1) X.A) (hg : Gl X x) (hm : X.mg x = some (.ref C)) (hx : Passes CX X E) (hdb : (x == ("__debug__" : Str)) = false := by decide) :
    PE X (.Call (.Name x p) [] [] pos) (StX.tMakeR C sp E tNil) := by
  refine ⟨fun pins s σ H Q I h => ?_⟩
  refine wpAny_Call_Name_kw (ld_glob I hg hm ?_ hdb)
  exact PySem.W.callWith_K0 I.kIn M.kp (StX.run_makeR (us := []) M F hr hx I .nil h)
theorem x_makeR {σ : L2.St} {H : Hp} {Q : VK} {t : TA} (q : t σ H fun vs H1 => ∀ x dx, H1 x = none → H1 dx = none → dx ≠ x → sp (.ref x :: vs) (upd (upd H1 dx (.own x)) x (.ins C dx [])) (fun v H2 => v = .non ∧ Q (.ref x) H2) E) : StX.tMakeR C sp E t σ H Q := q
theorem x_star {K : PySem.W.Frag} {σ : L2.St} {H : Hp} {te : TE} {t : TA} {QL : List V → Hp → Prop} (q : te σ H fun x H1 => ∃ p xs, x = V.ref p ∧ (SqT K H1 p xs ∨ SqL K H1 p xs) ∧ t σ H1 fun ys H2 => QL (xs ++ ys) H2) : StX.tStar K te t σ H QL := q
end
/-! ### len of an object with __len__ -/
section
open PySem.Spec PyProof.Rows
variable {X : Cx} {CX : CXT} {k : Nat} {C g : Addr} {fd : FuncData} {ps : List Str} {sp : Sp} {E : XK}
def rLenOwn (C : Addr) (sp : Sp) (E : XK) : List V → Hp → VK → Prop := fun xs H Q => ∃ a dx fs, xs = [.ref a] ∧ H a = some (.ins C dx fs) ∧ sp [.ref a] H (fun v H' => ∃ n : Int, v = .int n ∧ 0 ≤ n ∧ n < 2 ^ 63 ∧ Q (.int n) H') E
theorem call_lenOwn (mm : Meth X.K C "__len__" g) (F : FnOk X.prog X.w X.K X.mg X.base CX k g fd ps sp) (hr : Room (k + 1) X.A) (hb : Binds X.K fd ps []) (hx : Passes CX X E) : CallR X (.builtin "len") (rLenOwn C sp E) := by
  intro pins s σ H xs us Q I rx h
  obtain ⟨a, dx, fs, rfl, ha, q⟩ := h
  obtain ⟨u, rfl, ru⟩ := vals1 rx
  cases (show u = Value.ref a from ru)
  obtain ⟨mA, O, _⟩ := ins_get I.hok ha
  obtain ⟨od, J, _⟩ := O.look
  refine PySem.Calls.call_function_entry PySem.kind_len PySem.plain_len PySem.entry_len (PySem.args_len1 _) ?_
  unfold PySem.Builtin.«len»
  refine wpAny_bind (m := PySem.oneArg "len" _) (wpAny_pure ?_)
  refine wpAny_bind (m := PySem.callSpecial? (.ref a) (Str.ofString "__len__")) (PySem.W.special_fn I.kIn J mm.at_ (beq_iff_eq.mp mm.fn) ?_)
  have r2 : Vals [V.ref a] [Value.ref a] := .cons rfl .nil
  have hl : ([Value.ref a] : List Value).length = ps.length := by rw [← r2.length]; exact F.len _ _ _ _ q
  have hbb := hb s [Value.ref a] I.kIn (by rw [List.append_nil]; exact hl)
  rw [List.append_nil] at hbb
  refine wpAny_call (codeAny_mono (F.run X.A.in1 X.stack s H ⟨[Value.ref a], []⟩ [Value.ref a] [V.ref a] _ E hr.in1 I.env0.in1 hbb r2 q) fun r s' hq => ?_)
  cases r with
  | error e => exact hx pins σ H s e s' I hq
  | ok fl =>
    cases fl with
    | next => exact False.elim hq
    | brk => exact False.elim hq
    | cont => exact False.elim hq
    | ret u =>
      obtain ⟨v, H', I', rv, n, rfl, n0, n1, qn⟩ := I.after hq
      obtain ⟨t, rfl⟩ := rv
      refine wpAny_bind (wpAny_holding (wpAny_pure ?_))
      refine wpAny_bind (wpAny_letGo ?_)
      show wpAny _ _ (if n < 0 then _ else _) _ _ _
      rw [if_neg (by omega)]
      show wpAny _ _ (if n ≥ 2 ^ 63 then _ else _) _ _ _
      rw [if_neg (by omega)]
      exact wpAny_bind (wpAny_mkInt (wpAny_pure ⟨_, rfl, .int n, H', I'.tok _, ⟨_, rfl⟩, qn⟩))
end
/-! ### C(..) with a star parameter in a try -/
section
open PySem.Spec PyProof.Rows
variable {X : Cx} {CX' : CXT} {k : Nat} {f C : Addr} {sp : Sp} {E : L2.St → XK} {x : Str} {e : Expr} {es : List Expr} {t : TA} {p pos : Pos}
/-- C(e, ..), what it lets out wished for at the caller's slots -/
def tMakeRX (C : Addr) (sp : Sp) (E : L2.St → XK) (t : TA) : TE := fun σ H Q => t σ H fun vs H1 => ∀ x dx, H1 x = none → H1 dx = none → dx ≠ x → sp (.ref x :: vs) (upd (upd H1 dx (.own x)) x (.ins C dx [])) (fun v H2 => v = .non ∧ Q (.ref x) H2) (E σ)
theorem pe_makeRX (M : Mk X.K C f) (F : FnR X.prog X.w X.K X.mg X.base CX' k f sp) (hr : Room (k + 1) X.A) (hg : Gl X x) (hm : X.mg x = some (.ref C)) (hx : ∀ σ, PassesAt CX' X σ (E σ)) (ha : PA X (e :: es) t) (hdb : (x == ("__debug__" : Str)) = false := by decide)
    (he : starEach (e :: es) X.env = (false, eval e X.env) :: starEach es X.env := by rfl) (hpl : (PySem.backTo pos (starEach es X.env)).any (·.1) = false := by rfl) : PE X (.Call (.Name x p) (e :: es) [] pos) (tMakeRX C sp E t) := by
  refine ⟨fun pins s σ H Q I h => wpAny_Call_Name_kw (ld_glob I hg hm ?_ hdb)⟩
  refine PySem.W.callWith_K (h₀ := X.base) I.ok.mod.kin M.kp (thn (ha.run pos pins s σ H _ I h) fun us s1 ⟨vs, H1, I1, r, q⟩ => ⟨I1.kIn, ?_⟩) he hpl
  have q1 := q (s1.heap.objs.size + 1) s1.heap.objs.size (I1.hok.fresh (Nat.le_succ _)) (I1.hok.fresh (Nat.le_refl _)) (Nat.ne_of_lt (Nat.lt_succ_self _))
  have I2 := Inv.made (C := C) I1
  have r2 : Vals (V.ref (s1.heap.objs.size + 1) :: vs) (Value.ref (s1.heap.objs.size + 1) :: us) := .cons rfl r
  refine wpAny_call (make_map (f := f) I1.kIn M.makes M.init (beq_iff_eq.mp M.fn) (codeAny_mono (F _ X.stack _ _ (Value.ref (s1.heap.objs.size + 1) :: us) _ _ (E σ) (hr.make C us []) (I2.env0.make C us []) r2 q1) fun z s' hz => ?_))
  match z, hz with
  | .error e, hz => exact hx σ pins _ _ e s' I2 hz
  | .ok (.ret u), hz =>
    obtain ⟨v, H', I3, rv, ev, q3⟩ := I2.after hz
    subst ev
    exact ⟨rv, ⟨V.ref (s1.heap.objs.size + 1), H', I3, rfl, q3⟩⟩
theorem x_makeRX {σ : L2.St} {H : Hp} {Q : VK} (q : t σ H fun vs H1 => ∀ x dx, H1 x = none → H1 dx = none → dx ≠ x → sp (.ref x :: vs) (upd (upd H1 dx (.own x)) x (.ins C dx [])) (fun v H2 => v = .non ∧ Q (.ref x) H2) (E σ)) : tMakeRX C sp E t σ H Q := q
end
/-! ### a property that is set -/
section
open PySem.Spec PyProof.Rows
/-- the class has the name as a property at p, with the getter at g and the setter at t -/
structure SetOf (K : PySem.W.Frag) (C : Addr) (f : Str) (p t : Addr) : Prop where
  at_ : PySem.W.findIn K (.ref C) f = some (some (.ref p))
  tak : PySem.W.takesIn K (.ref p) = some true
  ty : PySem.W.typeIn K (.ref p) = some (.type "property")
  rec_ : ∃ g rest, PySem.W.recIn K p "property" = some (g :: .ref t :: rest)
theorem SetOf.taker {K : PySem.W.Frag} {C : Addr} {f : Str} {p t : Addr} (P : SetOf K C f p t) : PySem.W.takerIn K C f = some (some (.ref p)) := by
  unfold PySem.W.takerIn
  rw [P.at_]
  show (PySem.W.takesIn K (.ref p)).map _ = _
  rw [P.tak]
  rfl
/-- o.f = value, f a property: the setter's promise -/
def sProp (sp : Sp) (C : Addr) (E : XK) (ta tv : TE) : TS := fun D σ H => tv σ H fun y H1 => ta σ H1 fun x H2 => ∃ a dx fs, x = .ref a ∧ H2 a = some (.ins C dx fs) ∧ sp [.ref a, y] H2 (fun _ H3 => D.nx σ H3) E
variable {X : Cx} {CX : CXT} {k : Nat} {C p t a dx : Addr} {fs : List (Str × V)} {f : Str} {fd : FuncData} {ps : List Str} {sp : Sp} {E : XK} {o value : Expr} {pos pos' : Pos} {ta tv : TE}
theorem setprop_ok {pins : List (Addr × Obj)} {σ : L2.St} {H : Hp} {s : Shared} {Q : Unit → Shared → Prop} {y : V} {u : Value} {QH : Hp → Prop} (I : Inv X pins σ H s) (ea : H a = some (.ins C dx fs)) (c : Cls X.K C) (P : SetOf X.K C f p t)
    (F : FnOk X.prog X.w X.K X.mg X.base CX k t fd ps sp) (hr : Room (k + 2) X.A) (hb : Binds X.K fd ps []) (hx : Passes CX X E) (ry : RelV y u) (h : sp [.ref a, y] H (fun _ H3 => QH H3) E) (q : ∀ H' s', Inv X pins σ H' s' → QH H' → Q () s') :
    wpAny (model X.prog X.w) X.A (setAttr (.ref a) f u) Q X.xe s := by
  obtain ⟨mA, O, _, _, _, _⟩ := ins_get I.hok ea
  obtain ⟨od, J, _⟩ := O.look
  obtain ⟨g, rest, hrec⟩ := P.rec_
  have I1 := I.tok (s.toks + 1)
  have hl : ([Value.ref a, u] ++ []).length = ps.length := (F.len _ _ _ _ h)
  have run := F.run X.A.in1.in1 X.stack { s with toks := s.toks + 1 } H ⟨[.ref a, u], []⟩ [.ref a, u] [.ref a, y] _ E hr.in1.in1 I1.env0.in1.in1 (hb _ [.ref a, u] I1.kIn hl) (.cons rfl (.cons ry .nil)) h
  refine PySem.W.set_plain I.kIn J c.sa (PySem.W.osa_descr (s := { s with toks := s.toks + 1 }) PySem.W.KF.slot_pset I1.kIn J c.po P.taker P.ty (PySem.W.prop_set (s := { s with toks := s.toks + 1 }) I1.kIn hrec (codeAny_mono run fun r s' hq => ?_)))
  cases r with
  | error er => exact hx pins σ H { s with toks := s.toks + 1 } er s' I1 hq
  | ok fl =>
    cases fl with
    | ret u' =>
      obtain ⟨v, H', I3, rv, q3⟩ := I1.after hq
      exact q H' s' I3 q3
    | next => exact False.elim hq
    | brk => exact False.elim hq
    | cont => exact False.elim hq
theorem ps_setp (ha : PE X o ta) (hv : PE X value tv) (c : Cls X.K C) (P : SetOf X.K C f p t) (F : FnOk X.prog X.w X.K X.mg X.base CX k t fd ps sp) (hr : Room (k + 2) X.A) (hb : Binds X.K fd ps []) (hx : Passes CX X E)
    (hs : swapsWith value (some (.Attribute o f pos')) pos.line X.env = pure false) : PS X (.Assign [.Attribute o f pos'] value pos) (sProp sp C E ta tv) := by
  refine ⟨fun pins s σ H D I h => ?_⟩
  refine plainObj_wpAny_Assign_Attribute (thn (hv.run pins s σ H _ I h) fun u s1 ⟨y, H1, I1, ry, q⟩ => thn (ha.run pins s1 σ H1 _ I1 q) fun ov s2 ⟨x, H2, I2, rx, a, dx, fs, ex, ea, q2⟩ => ?_) hs
  subst ex
  obtain rfl : ov = Value.ref a := rx
  exact setprop_ok I2 ea c P F hr hb hx ry q2 fun H' s' I' q => ⟨σ, H', I', q⟩
end
theorem x_setp {sp : Sp} {C : Addr} {E : XK} {ta tv : TE} {D : Ends} {σ : L2.St} {H : Hp} (q : tv σ H fun y H1 => ta σ H1 fun x H2 => ∃ a dx fs, x = .ref a ∧ H2 a = some (.ins C dx fs) ∧ sp [.ref a, y] H2 (fun _ H3 => D.nx σ H3) E) : sProp sp C E ta tv D σ H := q
def top (i : Nat) : Stmt := PySem.Challenge.pw_lossway_k13_inbox_ends.main.body.getD i (.Pass ⟨0, 0, 0, 0⟩)
abbrev s_InvalidNumber_init_ : Stmt := inClass (top 3) 0
theorem st_InvalidNumber_init_ {t : TS} {D : Ends} {H : Hp} {v0 v1 : V} (h : t D [some v0, some v1] H) : t D (L2.start ["self", "number"] [v0, v1]) H := h
theorem sc_InvalidNumber_init_ : FnScope ["self", "number"] ["self", "number"] (defScope s_InvalidNumber_init_) := ⟨rfl, rfl, rfl, by decide +kernel, rfl, by decide +kernel, by decide +kernel⟩
abbrev s_InvalidSetting_init_ : Stmt := inClass (top 4) 0
theorem st_InvalidSetting_init_ {t : TS} {D : Ends} {H : Hp} {v0 v1 : V} (h : t D [some v0, some v1] H) : t D (L2.start ["self", "setting"] [v0, v1]) H := h
theorem sc_InvalidSetting_init_ : FnScope ["self", "setting"] ["self", "setting"] (defScope s_InvalidSetting_init_) := ⟨rfl, rfl, rfl, by decide +kernel, rfl, by decide +kernel, by decide +kernel⟩
abbrev s_is_integer : Stmt := top 6
theorem st_is_integer {t : TS} {D : Ends} {H : Hp} {v0 : V} (h : t D [some v0] H) : t D (L2.start ["value"] [v0]) H := h
theorem sc_is_integer : FnScope ["value"] ["value"] (defScope s_is_integer) := ⟨rfl, rfl, rfl, by decide +kernel, rfl, by decide +kernel, by decide +kernel⟩
abbrev s_is_between : Stmt := top 7
theorem st_is_between {t : TS} {D : Ends} {H : Hp} {v0 v1 v2 : V} (h : t D [some v0, some v1, some v2] H) : t D (L2.start ["value", "low", "high"] [v0, v1, v2]) H := h
theorem sc_is_between : FnScope ["value", "low", "high"] ["value", "low", "high"] (defScope s_is_between) := ⟨rfl, rfl, rfl, by decide +kernel, rfl, by decide +kernel, by decide +kernel⟩
abbrev s_is_at_least : Stmt := top 8
theorem st_is_at_least {t : TS} {D : Ends} {H : Hp} {v0 v1 : V} (h : t D [some v0, some v1] H) : t D (L2.start ["value", "low"] [v0, v1]) H := h
theorem sc_is_at_least : FnScope ["value", "low"] ["value", "low"] (defScope s_is_at_least) := ⟨rfl, rfl, rfl, by decide +kernel, rfl, by decide +kernel, by decide +kernel⟩
abbrev s_is_byte : Stmt := top 9
theorem st_is_byte {t : TS} {D : Ends} {H : Hp} {v0 : V} (h : t D [some v0] H) : t D (L2.start ["value"] [v0]) H := h
theorem sc_is_byte : FnScope ["value"] ["value"] (defScope s_is_byte) := ⟨rfl, rfl, rfl, by decide +kernel, rfl, by decide +kernel, by decide +kernel⟩
abbrev s_is_sequence : Stmt := top 10
theorem st_is_sequence {t : TS} {D : Ends} {H : Hp} {v0 : V} (h : t D [some v0] H) : t D (L2.start ["value"] [v0]) H := h
theorem sc_is_sequence : FnScope ["value"] ["value"] (defScope s_is_sequence) := ⟨rfl, rfl, rfl, by decide +kernel, rfl, by decide +kernel, by decide +kernel⟩
abbrev s_require_data : Stmt := top 11
theorem st_require_data {t : TS} {D : Ends} {H : Hp} {v0 : V} (h : t D [some v0, none] H) : t D (L2.start ["data", "item"] [v0]) H := h
theorem sc_require_data : FnScope ["data", "item"] ["data"] (defScope s_require_data) := ⟨rfl, rfl, rfl, by decide +kernel, rfl, by decide +kernel, by decide +kernel⟩
abbrev s_require_limit : Stmt := top 12
theorem st_require_limit {t : TS} {D : Ends} {H : Hp} {v0 : V} (h : t D [some v0] H) : t D (L2.start ["limit"] [v0]) H := h
theorem sc_require_limit : FnScope ["limit"] ["limit"] (defScope s_require_limit) := ⟨rfl, rfl, rfl, by decide +kernel, rfl, by decide +kernel, by decide +kernel⟩
abbrev s_is_run : Stmt := top 14
theorem st_is_run {t : TS} {D : Ends} {H : Hp} {v0 : V} (h : t D [some v0] H) : t D (L2.start ["pair"] [v0]) H := h
theorem sc_is_run : FnScope ["pair"] ["pair"] (defScope s_is_run) := ⟨rfl, rfl, rfl, by decide +kernel, rfl, by decide +kernel, by decide +kernel⟩
abbrev s_joined : Stmt := top 15
theorem st_joined {t : TS} {D : Ends} {H : Hp} {v0 : V} (h : t D [some v0, none, none, none, none] H) : t D (L2.start ["pairs", "runs", "low", "high", "pair"] [v0]) H := h
theorem sc_joined : FnScope ["pairs", "runs", "low", "high", "pair"] ["pairs"] (defScope s_joined) := ⟨rfl, rfl, rfl, by decide +kernel, rfl, by decide +kernel, by decide +kernel⟩
abbrev s_missing : Stmt := top 16
theorem st_missing {t : TS} {D : Ends} {H : Hp} {v0 v1 v2 : V} (h : t D [some v0, some v1, some v2, none, none, none, none] H) : t D (L2.start ["runs", "low", "high", "found", "at", "start", "end"] [v0, v1, v2]) H := h
theorem sc_missing : FnScope ["runs", "low", "high", "found", "at", "start", "end"] ["runs", "low", "high"] (defScope s_missing) := ⟨rfl, rfl, rfl, by decide +kernel, rfl, by decide +kernel, by decide +kernel⟩
abbrev s_common : Stmt := top 17
theorem st_common {t : TS} {D : Ends} {H : Hp} {v0 v1 : V} (h : t D [some v0, some v1, none, none, none, none, none] H) : t D (L2.start ["first", "second", "found", "one", "two", "low", "high"] [v0, v1]) H := h
theorem sc_common : FnScope ["first", "second", "found", "one", "two", "low", "high"] ["first", "second"] (defScope s_common) := ⟨rfl, rfl, rfl, by decide +kernel, rfl, by decide +kernel, by decide +kernel⟩
abbrev s_without : Stmt := top 18
theorem st_without {t : TS} {D : Ends} {H : Hp} {v0 v1 : V} (h : t D [some v0, some v1, none] H) : t D (L2.start ["first", "second", "end"] [v0, v1]) H := h
theorem sc_without : FnScope ["first", "second", "end"] ["first", "second"] (defScope s_without) := ⟨rfl, rfl, rfl, by decide +kernel, rfl, by decide +kernel, by decide +kernel⟩
abbrev s_Spans_init_ : Stmt := inClass (top 19) 0
theorem st_Spans_init_ {t : TS} {D : Ends} {H : Hp} {v0 v1 : V} (h : t D [some v0, some v1, none] H) : t D (L2.start ["self", "pairs", "pair"] [v0, v1]) H := h
theorem sc_Spans_init_ : FnScope ["self", "pairs", "pair"] ["self", "pairs"] (defScope s_Spans_init_) := ⟨rfl, rfl, rfl, by decide +kernel, rfl, by decide +kernel, by decide +kernel⟩
abbrev s_Spans_rows : Stmt := inClass (top 19) 7
theorem st_Spans_rows {t : TS} {D : Ends} {H : Hp} {v0 : V} (h : t D [some v0] H) : t D (L2.start ["self"] [v0]) H := h
theorem sc_Spans_rows : FnScope ["self"] ["self"] (defScope s_Spans_rows) := ⟨rfl, rfl, rfl, by decide +kernel, rfl, by decide +kernel, by decide +kernel⟩
abbrev s_Spans_put : Stmt := inClass (top 19) 10
theorem st_Spans_put {t : TS} {D : Ends} {H : Hp} {v0 v1 v2 : V} (h : t D [some v0, some v1, some v2] H) : t D (L2.start ["self", "low", "high"] [v0, v1, v2]) H := h
theorem sc_Spans_put : FnScope ["self", "low", "high"] ["self", "low", "high"] (defScope s_Spans_put) := ⟨rfl, rfl, rfl, by decide +kernel, rfl, by decide +kernel, by decide +kernel⟩
abbrev s_Spans_drop : Stmt := inClass (top 19) 11
theorem st_Spans_drop {t : TS} {D : Ends} {H : Hp} {v0 v1 v2 : V} (h : t D [some v0, some v1, some v2] H) : t D (L2.start ["self", "low", "high"] [v0, v1, v2]) H := h
theorem sc_Spans_drop : FnScope ["self", "low", "high"] ["self", "low", "high"] (defScope s_Spans_drop) := ⟨rfl, rfl, rfl, by decide +kernel, rfl, by decide +kernel, by decide +kernel⟩
abbrev s_Spans_holding : Stmt := inClass (top 19) 12
theorem st_Spans_holding {t : TS} {D : Ends} {H : Hp} {v0 v1 : V} (h : t D [some v0, some v1, none, none] H) : t D (L2.start ["self", "offset", "low", "high"] [v0, v1]) H := h
theorem sc_Spans_holding : FnScope ["self", "offset", "low", "high"] ["self", "offset"] (defScope s_Spans_holding) := ⟨rfl, rfl, rfl, by decide +kernel, rfl, by decide +kernel, by decide +kernel⟩
abbrev s_Spans_gaps : Stmt := inClass (top 19) 13
theorem st_Spans_gaps {t : TGn} {D : GEnds} {ys : List V} {H : Hp} {v0 v1 v2 : V} (h : t D ys [some v0, some v1, some v2, none] H) : t D ys (L2.start ["self", "low", "high", "run"] [v0, v1, v2]) H := h
theorem sc_Spans_gaps : GScope ["self", "low", "high", "run"] ["self", "low", "high"] (defScope s_Spans_gaps) := ⟨rfl, rfl, rfl, by decide +kernel, rfl, by decide +kernel, by decide +kernel⟩
abbrev s_Spans_highest : Stmt := inClass (top 19) 14
theorem st_Spans_highest {t : TS} {D : Ends} {H : Hp} {v0 v1 : V} (h : t D [some v0, some v1, none, none, none] H) : t D (L2.start ["self", "count", "left", "low", "high"] [v0, v1]) H := h
theorem sc_Spans_highest : FnScope ["self", "count", "left", "low", "high"] ["self", "count"] (defScope s_Spans_highest) := ⟨rfl, rfl, rfl, by decide +kernel, rfl, by decide +kernel, by decide +kernel⟩
abbrev s_Inbox_init_ : Stmt := inClass (top 22) 0
theorem st_Inbox_init_ {t : TS} {D : Ends} {H : Hp} {v0 v1 : V} (h : t D [some v0, some v1] H) : t D (L2.start ["self", "limit"] [v0, v1]) H := h
theorem sc_Inbox_init_ : FnScope ["self", "limit"] ["self", "limit"] (defScope s_Inbox_init_) := ⟨rfl, rfl, rfl, by decide +kernel, rfl, by decide +kernel, by decide +kernel⟩
abbrev s_Inbox_limit : Stmt := inClass (top 22) 1
theorem st_Inbox_limit {t : TS} {D : Ends} {H : Hp} {v0 : V} (h : t D [some v0] H) : t D (L2.start ["self"] [v0]) H := h
theorem sc_Inbox_limit : FnScope ["self"] ["self"] (defScope s_Inbox_limit) := ⟨rfl, rfl, rfl, by decide +kernel, rfl, by decide +kernel, by decide +kernel⟩
abbrev s_Inbox_limit_set : Stmt := inClass (top 22) 2
theorem st_Inbox_limit_set {t : TS} {D : Ends} {H : Hp} {v0 v1 : V} (h : t D [some v0, some v1] H) : t D (L2.start ["self", "value"] [v0, v1]) H := h
theorem sc_Inbox_limit_set : FnScope ["self", "value"] ["self", "value"] (defScope s_Inbox_limit_set) := ⟨rfl, rfl, rfl, by decide +kernel, rfl, by decide +kernel, by decide +kernel⟩
abbrev s_Inbox_edge : Stmt := inClass (top 22) 3
theorem st_Inbox_edge {t : TS} {D : Ends} {H : Hp} {v0 : V} (h : t D [some v0] H) : t D (L2.start ["self"] [v0]) H := h
theorem sc_Inbox_edge : FnScope ["self"] ["self"] (defScope s_Inbox_edge) := ⟨rfl, rfl, rfl, by decide +kernel, rfl, by decide +kernel, by decide +kernel⟩
abbrev s_Inbox_room : Stmt := inClass (top 22) 4
theorem st_Inbox_room {t : TS} {D : Ends} {H : Hp} {v0 : V} (h : t D [some v0] H) : t D (L2.start ["self"] [v0]) H := h
theorem sc_Inbox_room : FnScope ["self"] ["self"] (defScope s_Inbox_room) := ⟨rfl, rfl, rfl, by decide +kernel, rfl, by decide +kernel, by decide +kernel⟩
abbrev s_Inbox_ready : Stmt := inClass (top 22) 5
theorem st_Inbox_ready {t : TS} {D : Ends} {H : Hp} {v0 : V} (h : t D [some v0] H) : t D (L2.start ["self"] [v0]) H := h
theorem sc_Inbox_ready : FnScope ["self"] ["self"] (defScope s_Inbox_ready) := ⟨rfl, rfl, rfl, by decide +kernel, rfl, by decide +kernel, by decide +kernel⟩
abbrev s_Inbox_ended : Stmt := inClass (top 22) 6
theorem st_Inbox_ended {t : TS} {D : Ends} {H : Hp} {v0 : V} (h : t D [some v0] H) : t D (L2.start ["self"] [v0]) H := h
theorem sc_Inbox_ended : FnScope ["self"] ["self"] (defScope s_Inbox_ended) := ⟨rfl, rfl, rfl, by decide +kernel, rfl, by decide +kernel, by decide +kernel⟩
abbrev s_Inbox_expected : Stmt := inClass (top 22) 7
theorem st_Inbox_expected {t : TS} {D : Ends} {H : Hp} {v0 : V} (h : t D [some v0] H) : t D (L2.start ["self"] [v0]) H := h
theorem sc_Inbox_expected : FnScope ["self"] ["self"] (defScope s_Inbox_expected) := ⟨rfl, rfl, rfl, by decide +kernel, rfl, by decide +kernel, by decide +kernel⟩
abbrev s_Inbox_urgent_count : Stmt := inClass (top 22) 8
theorem st_Inbox_urgent_count {t : TS} {D : Ends} {H : Hp} {v0 : V} (h : t D [some v0] H) : t D (L2.start ["self"] [v0]) H := h
theorem sc_Inbox_urgent_count : FnScope ["self"] ["self"] (defScope s_Inbox_urgent_count) := ⟨rfl, rfl, rfl, by decide +kernel, rfl, by decide +kernel, by decide +kernel⟩
abbrev s_Inbox_resize : Stmt := inClass (top 22) 9
theorem st_Inbox_resize {t : TS} {D : Ends} {H : Hp} {v0 v1 : V} (h : t D [some v0, some v1] H) : t D (L2.start ["self", "limit"] [v0, v1]) H := h
theorem sc_Inbox_resize : FnScope ["self", "limit"] ["self", "limit"] (defScope s_Inbox_resize) := ⟨rfl, rfl, rfl, by decide +kernel, rfl, by decide +kernel, by decide +kernel⟩
abbrev s_Inbox_take : Stmt := inClass (top 22) 10
theorem st_Inbox_take {t : TS} {D : Ends} {H : Hp} {v0 v1 v2 : V} (h : t D [some v0, some v1, some v2, none, none, none, none, none, none] H) : t D (L2.start ["self", "offset", "data", "least", "end", "wanted", "low", "high", "at"] [v0, v1, v2]) H := h
theorem sc_Inbox_take : FnScope ["self", "offset", "data", "least", "end", "wanted", "low", "high", "at"] ["self", "offset", "data"] (defScope s_Inbox_take) := ⟨rfl, rfl, rfl, by decide +kernel, rfl, by decide +kernel, by decide +kernel⟩
abbrev s_Inbox_stop : Stmt := inClass (top 22) 11
theorem st_Inbox_stop {t : TS} {D : Ends} {H : Hp} {v0 : V} (h : t D [some v0] H) : t D (L2.start ["self"] [v0]) H := h
theorem sc_Inbox_stop : FnScope ["self"] ["self"] (defScope s_Inbox_stop) := ⟨rfl, rfl, rfl, by decide +kernel, rfl, by decide +kernel, by decide +kernel⟩
abbrev s_Inbox_move_on : Stmt := inClass (top 22) 12
theorem st_Inbox_move_on {t : TS} {D : Ends} {H : Hp} {v0 : V} (h : t D [some v0, none] H) : t D (L2.start ["self", "run"] [v0]) H := h
theorem sc_Inbox_move_on : FnScope ["self", "run"] ["self"] (defScope s_Inbox_move_on) := ⟨rfl, rfl, rfl, by decide +kernel, rfl, by decide +kernel, by decide +kernel⟩
abbrev s_Inbox_finish : Stmt := inClass (top 22) 13
theorem st_Inbox_finish {t : TS} {D : Ends} {H : Hp} {v0 v1 : V} (h : t D [some v0, some v1, none, none] H) : t D (L2.start ["self", "offset", "highest", "least"] [v0, v1]) H := h
theorem sc_Inbox_finish : FnScope ["self", "offset", "highest", "least"] ["self", "offset"] (defScope s_Inbox_finish) := ⟨rfl, rfl, rfl, by decide +kernel, rfl, by decide +kernel, by decide +kernel⟩
abbrev s_Inbox_read : Stmt := inClass (top 22) 14
theorem st_Inbox_read {t : TS} {D : Ends} {H : Hp} {v0 v1 : V} (h : t D [some v0, some v1, none, none, none] H) : t D (L2.start ["self", "count", "low", "found", "at"] [v0, v1]) H := h
theorem sc_Inbox_read : FnScope ["self", "count", "low", "found", "at"] ["self", "count"] (defScope s_Inbox_read) := ⟨rfl, rfl, rfl, by decide +kernel, rfl, by decide +kernel, by decide +kernel⟩
abbrev s_Inbox_told_runs : Stmt := inClass (top 22) 15
theorem st_Inbox_told_runs {t : TS} {D : Ends} {H : Hp} {v0 : V} (h : t D [some v0, none, none, none] H) : t D (L2.start ["self", "rows", "latest", "run"] [v0]) H := h
theorem sc_Inbox_told_runs : FnScope ["self", "rows", "latest", "run"] ["self"] (defScope s_Inbox_told_runs) := ⟨rfl, rfl, rfl, by decide +kernel, rfl, by decide +kernel, by decide +kernel⟩
abbrev s_Inbox_mark_urgent : Stmt := inClass (top 22) 16
theorem st_Inbox_mark_urgent {t : TS} {D : Ends} {H : Hp} {v0 v1 : V} (h : t D [some v0, some v1] H) : t D (L2.start ["self", "offset"] [v0, v1]) H := h
theorem sc_Inbox_mark_urgent : FnScope ["self", "offset"] ["self", "offset"] (defScope s_Inbox_mark_urgent) := ⟨rfl, rfl, rfl, by decide +kernel, rfl, by decide +kernel, by decide +kernel⟩
abbrev s__law_box : Stmt := top 24
theorem st__law_box {t : TS} {D : Ends} {H : Hp} {v0 : V} (h : t D [some v0] H) : t D (L2.start ["script"] [v0]) H := h
theorem sc__law_box : FnScope ["script"] ["script"] (defScope s__law_box) := ⟨rfl, rfl, rfl, by decide +kernel, rfl, by decide +kernel, by decide +kernel⟩
abbrev s__law_draw : Stmt := top 25
theorem st__law_draw {t : TS} {D : Ends} {H : Hp} {v0 v1 : V} (h : t D [some v0, some v1, none, none, none] H) : t D (L2.start ["box", "size", "cell", "digit", "mixed"] [v0, v1]) H := h
theorem sc__law_draw : FnScope ["box", "size", "cell", "digit", "mixed"] ["box", "size"] (defScope s__law_draw) := ⟨rfl, rfl, rfl, by decide +kernel, rfl, by decide +kernel, by decide +kernel⟩
abbrev s__law_is_whole : Stmt := top 26
theorem st__law_is_whole {t : TS} {D : Ends} {H : Hp} {v0 : V} (h : t D [some v0] H) : t D (L2.start ["value"] [v0]) H := h
theorem sc__law_is_whole : FnScope ["value"] ["value"] (defScope s__law_is_whole) := ⟨rfl, rfl, rfl, by decide +kernel, rfl, by decide +kernel, by decide +kernel⟩
abbrev s__law_limit : Stmt := top 27
theorem st__law_limit {t : TS} {D : Ends} {H : Hp} {v0 : V} (h : t D [some v0] H) : t D (L2.start ["box"] [v0]) H := h
theorem sc__law_limit : FnScope ["box"] ["box"] (defScope s__law_limit) := ⟨rfl, rfl, rfl, by decide +kernel, rfl, by decide +kernel, by decide +kernel⟩
abbrev s__law_bytes : Stmt := top 28
theorem st__law_bytes {t : TS} {D : Ends} {H : Hp} {v0 v1 : V} (h : t D [some v0, some v1, none, none, none, none] H) : t D (L2.start ["box", "most", "many", "base", "step", "k"] [v0, v1]) H := h
theorem sc__law_bytes : FnScope ["box", "most", "many", "base", "step", "k"] ["box", "most"] (defScope s__law_bytes) := ⟨rfl, rfl, rfl, by decide +kernel, rfl, by decide +kernel, by decide +kernel⟩
abbrev s__law_pairs_are : Stmt := top 29
theorem st__law_pairs_are {t : TS} {D : Ends} {H : Hp} {v0 v1 : V} (h : t D [some v0, some v1, none] H) : t D (L2.start ["told", "due", "k"] [v0, v1]) H := h
theorem sc__law_pairs_are : FnScope ["told", "due", "k"] ["told", "due"] (defScope s__law_pairs_are) := ⟨rfl, rfl, rfl, by decide +kernel, rfl, by decide +kernel, by decide +kernel⟩
abbrev s__law_tuple_is : Stmt := top 30
theorem st__law_tuple_is {t : TS} {D : Ends} {H : Hp} {v0 v1 : V} (h : t D [some v0, some v1, none] H) : t D (L2.start ["told", "due", "k"] [v0, v1]) H := h
theorem sc__law_tuple_is : FnScope ["told", "due", "k"] ["told", "due"] (defScope s__law_tuple_is) := ⟨rfl, rfl, rfl, by decide +kernel, rfl, by decide +kernel, by decide +kernel⟩
abbrev s__law_new_state : Stmt := top 31
theorem st__law_new_state {t : TS} {D : Ends} {H : Hp} {v0 : V} (h : t D [some v0] H) : t D (L2.start ["most"] [v0]) H := h
theorem sc__law_new_state : FnScope ["most"] ["most"] (defScope s__law_new_state) := ⟨rfl, rfl, rfl, by decide +kernel, rfl, by decide +kernel, by decide +kernel⟩
abbrev s__law_edge : Stmt := top 32
theorem st__law_edge {t : TS} {D : Ends} {H : Hp} {v0 : V} (h : t D [some v0] H) : t D (L2.start ["state"] [v0]) H := h
theorem sc__law_edge : FnScope ["state"] ["state"] (defScope s__law_edge) := ⟨rfl, rfl, rfl, by decide +kernel, rfl, by decide +kernel, by decide +kernel⟩
abbrev s__law_stores : Stmt := top 33
theorem st__law_stores {t : TS} {D : Ends} {H : Hp} {v0 v1 v2 : V} (h : t D [some v0, some v1, some v2, none, none, none, none, none] H) : t D (L2.start ["state", "offset", "data", "behind", "table", "stored", "k", "place"] [v0, v1, v2]) H := h
theorem sc__law_stores : FnScope ["state", "offset", "data", "behind", "table", "stored", "k", "place"] ["state", "offset", "data"] (defScope s__law_stores) := ⟨rfl, rfl, rfl, by decide +kernel, rfl, by decide +kernel, by decide +kernel⟩
abbrev s__law_runs : Stmt := top 34
theorem st__law_runs {t : TS} {D : Ends} {H : Hp} {v0 : V} (h : t D [some v0, none, none, none, none, none] H) : t D (L2.start ["state", "found", "offset", "newest", "pair", "place"] [v0]) H := h
theorem sc__law_runs : FnScope ["state", "found", "offset", "newest", "pair", "place"] ["state"] (defScope s__law_runs) := ⟨rfl, rfl, rfl, by decide +kernel, rfl, by decide +kernel, by decide +kernel⟩
abbrev s__law_told : Stmt := top 35
theorem st__law_told {t : TS} {D : Ends} {H : Hp} {v0 v1 : V} (h : t D [some v0, some v1, none, none] H) : t D (L2.start ["inbox", "state", "due", "told"] [v0, v1]) H := h
theorem sc__law_told : FnScope ["inbox", "state", "due", "told"] ["inbox", "state"] (defScope s__law_told) := ⟨rfl, rfl, rfl, by decide +kernel, rfl, by decide +kernel, by decide +kernel⟩
abbrev s__law_offset : Stmt := top 36
theorem st__law_offset {t : TS} {D : Ends} {H : Hp} {v0 v1 : V} (h : t D [some v0, some v1, none, none] H) : t D (L2.start ["box", "state", "way", "upper"] [v0, v1]) H := h
theorem sc__law_offset : FnScope ["box", "state", "way", "upper"] ["box", "state"] (defScope s__law_offset) := ⟨rfl, rfl, rfl, by decide +kernel, rfl, by decide +kernel, by decide +kernel⟩
abbrev s__law_takes : Stmt := top 37
theorem st__law_takes {t : TS} {D : Ends} {H : Hp} {v0 v1 v2 : V} (h : t D [some v0, some v1, some v2, none, none, none, none] H) : t D (L2.start ["box", "inbox", "state", "offset", "data", "kept", "told"] [v0, v1, v2]) H := h
theorem sc__law_takes : FnScope ["box", "inbox", "state", "offset", "data", "kept", "told"] ["box", "inbox", "state"] (defScope s__law_takes) := ⟨rfl, rfl, rfl, by decide +kernel, rfl, by decide +kernel, by decide +kernel⟩
abbrev s__law_reads : Stmt := top 38
theorem st__law_reads {t : TS} {D : Ends} {H : Hp} {v0 v1 v2 : V} (h : t D [some v0, some v1, some v2, none, none, none, none] H) : t D (L2.start ["inbox", "state", "count", "many", "due", "told", "k"] [v0, v1, v2]) H := h
theorem sc__law_reads : FnScope ["inbox", "state", "count", "many", "due", "told", "k"] ["inbox", "state", "count"] (defScope s__law_reads) := ⟨rfl, rfl, rfl, by decide +kernel, rfl, by decide +kernel, by decide +kernel⟩
abbrev s__law_state : Stmt := top 39
theorem st__law_state {t : TS} {D : Ends} {H : Hp} {v0 v1 : V} (h : t D [some v0, some v1, none, none, none] H) : t D (L2.start ["inbox", "state", "ended", "numbers", "pair"] [v0, v1]) H := h
theorem sc__law_state : FnScope ["inbox", "state", "ended", "numbers", "pair"] ["inbox", "state"] (defScope s__law_state) := ⟨rfl, rfl, rfl, by decide +kernel, rfl, by decide +kernel, by decide +kernel⟩
abbrev s__law_most : Stmt := top 40
theorem st__law_most {t : TS} {D : Ends} {H : Hp} {v0 : V} (h : t D [some v0, none, none] H) : t D (L2.start ["state", "most", "place"] [v0]) H := h
theorem sc__law_most : FnScope ["state", "most", "place"] ["state"] (defScope s__law_most) := ⟨rfl, rfl, rfl, by decide +kernel, rfl, by decide +kernel, by decide +kernel⟩
abbrev s__law_finishes : Stmt := top 41
theorem st__law_finishes {t : TS} {D : Ends} {H : Hp} {v0 v1 v2 : V} (h : t D [some v0, some v1, some v2, none, none] H) : t D (L2.start ["box", "inbox", "state", "offset", "upper"] [v0, v1, v2]) H := h
theorem sc__law_finishes : FnScope ["box", "inbox", "state", "offset", "upper"] ["box", "inbox", "state"] (defScope s__law_finishes) := ⟨rfl, rfl, rfl, by decide +kernel, rfl, by decide +kernel, by decide +kernel⟩
abbrev s__law_finish_refused : Stmt := top 42
theorem st__law_finish_refused {t : TS} {D : Ends} {H : Hp} {v0 v1 v2 : V} (h : t D [some v0, some v1, some v2, none, none, none, none, none] H) : t D (L2.start ["box", "inbox", "state", "most", "less", "amid", "bad", "e"] [v0, v1, v2]) H := h
theorem sc__law_finish_refused : FnScope ["box", "inbox", "state", "most", "less", "amid", "bad", "e"] ["box", "inbox", "state"] (defScope s__law_finish_refused) := ⟨rfl, rfl, rfl, by decide +kernel, rfl, by decide +kernel, by decide +kernel⟩
abbrev s__law_read_refused : Stmt := top 43
theorem st__law_read_refused {t : TS} {D : Ends} {H : Hp} {v0 v1 : V} (h : t D [some v0, some v1, none, none] H) : t D (L2.start ["box", "inbox", "bad", "e"] [v0, v1]) H := h
theorem sc__law_read_refused : FnScope ["box", "inbox", "bad", "e"] ["box", "inbox"] (defScope s__law_read_refused) := ⟨rfl, rfl, rfl, by decide +kernel, rfl, by decide +kernel, by decide +kernel⟩
abbrev s__law_limit_refused : Stmt := top 44
theorem st__law_limit_refused {t : TS} {D : Ends} {H : Hp} {v0 v1 : V} (h : t D [some v0, some v1, none, none, none, none] H) : t D (L2.start ["box", "inbox", "menu", "bad", "anew", "e"] [v0, v1]) H := h
theorem sc__law_limit_refused : FnScope ["box", "inbox", "menu", "bad", "anew", "e"] ["box", "inbox"] (defScope s__law_limit_refused) := ⟨rfl, rfl, rfl, by decide +kernel, rfl, by decide +kernel, by decide +kernel⟩
abbrev s__law_marks : Stmt := top 45
theorem st__law_marks {t : TS} {D : Ends} {H : Hp} {v0 v1 v2 : V} (h : t D [some v0, some v1, some v2, none] H) : t D (L2.start ["box", "inbox", "state", "offset"] [v0, v1, v2]) H := h
theorem sc__law_marks : FnScope ["box", "inbox", "state", "offset"] ["box", "inbox", "state"] (defScope s__law_marks) := ⟨rfl, rfl, rfl, by decide +kernel, rfl, by decide +kernel, by decide +kernel⟩
abbrev s__law_deed : Stmt := top 46
theorem st__law_deed {t : TS} {D : Ends} {H : Hp} {v0 v1 v2 : V} (h : t D [some v0, some v1, some v2, none] H) : t D (L2.start ["box", "inbox", "state", "way"] [v0, v1, v2]) H := h
theorem sc__law_deed : FnScope ["box", "inbox", "state", "way"] ["box", "inbox", "state"] (defScope s__law_deed) := ⟨rfl, rfl, rfl, by decide +kernel, rfl, by decide +kernel, by decide +kernel⟩
abbrev s__law_narrows : Stmt := top 47
theorem st__law_narrows {t : TS} {D : Ends} {H : Hp} {v0 v1 v2 : V} (h : t D [some v0, some v1, some v2, none, none, none, none] H) : t D (L2.start ["box", "inbox", "state", "most", "place", "data", "j"] [v0, v1, v2]) H := h
theorem sc__law_narrows : FnScope ["box", "inbox", "state", "most", "place", "data", "j"] ["box", "inbox", "state"] (defScope s__law_narrows) := ⟨rfl, rfl, rfl, by decide +kernel, rfl, by decide +kernel, by decide +kernel⟩
abbrev s__law_fills : Stmt := top 48
theorem st__law_fills {t : TS} {D : Ends} {H : Hp} {v0 v1 : V} (h : t D [some v0, some v1, none, none, none, none, none] H) : t D (L2.start ["inbox", "state", "k", "front", "data", "told", "j"] [v0, v1]) H := h
theorem sc__law_fills : FnScope ["inbox", "state", "k", "front", "data", "told", "j"] ["inbox", "state"] (defScope s__law_fills) := ⟨rfl, rfl, rfl, by decide +kernel, rfl, by decide +kernel, by decide +kernel⟩
abbrev s_law : Stmt := top 49
theorem st_law {t : TS} {D : Ends} {H : Hp} {v0 : V} (h : t D [some v0, none, none, none, none, none, none] H) : t D (L2.start ["script", "box", "states", "pair", "many", "k", "which"] [v0]) H := h
theorem sc_law : FnScope ["script", "box", "states", "pair", "many", "k", "which"] ["script"] (defScope s_law) := ⟨rfl, rfl, rfl, by decide +kernel, rfl, by decide +kernel, by decide +kernel⟩

set_option maxHeartbeats 0 in
structure Txt (K : PySem.W.Frag) (mg : Str → Option Value) where
  c_Spans : Addr
  g_Spans : mg "Spans" = some (.ref c_Spans)
  cl_Spans : Cls K c_Spans
  n_Spans__runs : NoAttr K c_Spans "_runs"
  c_Inbox : Addr
  g_Inbox : mg "Inbox" = some (.ref c_Inbox)
  cl_Inbox : Cls K c_Inbox
  n_Inbox__limit : NoAttr K c_Inbox "_limit"
  n_Inbox_next_offset : NoAttr K c_Inbox "next_offset"
  n_Inbox_read_offset : NoAttr K c_Inbox "read_offset"
  n_Inbox_final : NoAttr K c_Inbox "final"
  n_Inbox_urgent_end : NoAttr K c_Inbox "urgent_end"
  n_Inbox__stored : NoAttr K c_Inbox "_stored"
  n_Inbox__ahead : NoAttr K c_Inbox "_ahead"
  n_Inbox__latest : NoAttr K c_Inbox "_latest"
  c_LossError : Addr
  c_InvalidNumber : Addr
  c_InvalidSetting : Addr
  a_InvalidNumber_init_ : Addr
  fd_InvalidNumber_init_ : FuncData
  F_InvalidNumber_init_ : Fun K "__init__" "InvalidNumber.__init__" s_InvalidNumber_init_ a_InvalidNumber_init_ fd_InvalidNumber_init_
  B_InvalidNumber_init_ : Binds K fd_InvalidNumber_init_ ["self", "number"] []
  a_InvalidSetting_init_ : Addr
  fd_InvalidSetting_init_ : FuncData
  F_InvalidSetting_init_ : Fun K "__init__" "InvalidSetting.__init__" s_InvalidSetting_init_ a_InvalidSetting_init_ fd_InvalidSetting_init_
  B_InvalidSetting_init_ : Binds K fd_InvalidSetting_init_ ["self", "setting"] []
  a_is_integer : Addr
  fd_is_integer : FuncData
  F_is_integer : Fun K "is_integer" "is_integer" s_is_integer a_is_integer fd_is_integer
  B_is_integer : Binds K fd_is_integer ["value"] []
  g_is_integer : mg "is_integer" = some (.ref a_is_integer)
  a_is_between : Addr
  fd_is_between : FuncData
  F_is_between : Fun K "is_between" "is_between" s_is_between a_is_between fd_is_between
  B_is_between : Binds K fd_is_between ["value", "low", "high"] []
  g_is_between : mg "is_between" = some (.ref a_is_between)
  a_is_at_least : Addr
  fd_is_at_least : FuncData
  F_is_at_least : Fun K "is_at_least" "is_at_least" s_is_at_least a_is_at_least fd_is_at_least
  B_is_at_least : Binds K fd_is_at_least ["value", "low"] []
  g_is_at_least : mg "is_at_least" = some (.ref a_is_at_least)
  a_is_byte : Addr
  fd_is_byte : FuncData
  F_is_byte : Fun K "is_byte" "is_byte" s_is_byte a_is_byte fd_is_byte
  B_is_byte : Binds K fd_is_byte ["value"] []
  g_is_byte : mg "is_byte" = some (.ref a_is_byte)
  a_is_sequence : Addr
  fd_is_sequence : FuncData
  F_is_sequence : Fun K "is_sequence" "is_sequence" s_is_sequence a_is_sequence fd_is_sequence
  B_is_sequence : Binds K fd_is_sequence ["value"] []
  g_is_sequence : mg "is_sequence" = some (.ref a_is_sequence)
  a_require_data : Addr
  fd_require_data : FuncData
  F_require_data : Fun K "require_data" "require_data" s_require_data a_require_data fd_require_data
  B_require_data : Binds K fd_require_data ["data"] []
  g_require_data : mg "require_data" = some (.ref a_require_data)
  a_require_limit : Addr
  fd_require_limit : FuncData
  F_require_limit : Fun K "require_limit" "require_limit" s_require_limit a_require_limit fd_require_limit
  B_require_limit : Binds K fd_require_limit ["limit"] []
  g_require_limit : mg "require_limit" = some (.ref a_require_limit)
  a_is_run : Addr
  fd_is_run : FuncData
  F_is_run : Fun K "is_run" "is_run" s_is_run a_is_run fd_is_run
  B_is_run : Binds K fd_is_run ["pair"] []
  g_is_run : mg "is_run" = some (.ref a_is_run)
  a_joined : Addr
  fd_joined : FuncData
  F_joined : Fun K "joined" "joined" s_joined a_joined fd_joined
  B_joined : Binds K fd_joined ["pairs"] []
  g_joined : mg "joined" = some (.ref a_joined)
  a_missing : Addr
  fd_missing : FuncData
  F_missing : Fun K "missing" "missing" s_missing a_missing fd_missing
  B_missing : Binds K fd_missing ["runs", "low", "high"] []
  g_missing : mg "missing" = some (.ref a_missing)
  a_common : Addr
  fd_common : FuncData
  F_common : Fun K "common" "common" s_common a_common fd_common
  B_common : Binds K fd_common ["first", "second"] []
  g_common : mg "common" = some (.ref a_common)
  a_without : Addr
  fd_without : FuncData
  F_without : Fun K "without" "without" s_without a_without fd_without
  B_without : Binds K fd_without ["first", "second"] []
  g_without : mg "without" = some (.ref a_without)
  a_Spans_init_ : Addr
  fd_Spans_init_ : FuncData
  F_Spans_init_ : Fun K "__init__" "Spans.__init__" s_Spans_init_ a_Spans_init_ fd_Spans_init_
  BS_Spans_init_ : StarB fd_Spans_init_ ["self"] "pairs"
  M_Spans : Mk K c_Spans a_Spans_init_
  a_Spans_rows : Addr
  fd_Spans_rows : FuncData
  F_Spans_rows : Fun K "rows" "Spans.rows" s_Spans_rows a_Spans_rows fd_Spans_rows
  B_Spans_rows : Binds K fd_Spans_rows ["self"] []
  m_Spans_rows : Meth K c_Spans "rows" a_Spans_rows
  a_Spans_put : Addr
  fd_Spans_put : FuncData
  F_Spans_put : Fun K "put" "Spans.put" s_Spans_put a_Spans_put fd_Spans_put
  B_Spans_put : Binds K fd_Spans_put ["self", "low", "high"] []
  m_Spans_put : Meth K c_Spans "put" a_Spans_put
  a_Spans_drop : Addr
  fd_Spans_drop : FuncData
  F_Spans_drop : Fun K "drop" "Spans.drop" s_Spans_drop a_Spans_drop fd_Spans_drop
  B_Spans_drop : Binds K fd_Spans_drop ["self", "low", "high"] []
  m_Spans_drop : Meth K c_Spans "drop" a_Spans_drop
  a_Spans_holding : Addr
  fd_Spans_holding : FuncData
  F_Spans_holding : Fun K "holding" "Spans.holding" s_Spans_holding a_Spans_holding fd_Spans_holding
  B_Spans_holding : Binds K fd_Spans_holding ["self", "offset"] []
  m_Spans_holding : Meth K c_Spans "holding" a_Spans_holding
  a_Spans_gaps : Addr
  fd_Spans_gaps : FuncData
  F_Spans_gaps : Fun K "gaps" "Spans.gaps" s_Spans_gaps a_Spans_gaps fd_Spans_gaps
  B_Spans_gaps : Binds K fd_Spans_gaps ["self", "low", "high"] []
  m_Spans_gaps : Meth K c_Spans "gaps" a_Spans_gaps
  a_Spans_highest : Addr
  fd_Spans_highest : FuncData
  F_Spans_highest : Fun K "highest" "Spans.highest" s_Spans_highest a_Spans_highest fd_Spans_highest
  B_Spans_highest : Binds K fd_Spans_highest ["self", "count"] []
  m_Spans_highest : Meth K c_Spans "highest" a_Spans_highest
  a_Inbox_init_ : Addr
  fd_Inbox_init_ : FuncData
  F_Inbox_init_ : Fun K "__init__" "Inbox.__init__" s_Inbox_init_ a_Inbox_init_ fd_Inbox_init_
  B_Inbox_init_ : Binds K fd_Inbox_init_ ["self", "limit"] []
  M_Inbox : Mk K c_Inbox a_Inbox_init_
  a_Inbox_limit : Addr
  fd_Inbox_limit : FuncData
  F_Inbox_limit : Fun K "limit" "Inbox.limit" s_Inbox_limit a_Inbox_limit fd_Inbox_limit
  B_Inbox_limit : Binds K fd_Inbox_limit ["self"] []
  p_Inbox_limit : Addr
  PR_Inbox_limit : PropOf K c_Inbox "limit" p_Inbox_limit a_Inbox_limit
  a_Inbox_limit_set : Addr
  fd_Inbox_limit_set : FuncData
  F_Inbox_limit_set : Fun K "limit" "Inbox.limit" s_Inbox_limit_set a_Inbox_limit_set fd_Inbox_limit_set
  B_Inbox_limit_set : Binds K fd_Inbox_limit_set ["self", "value"] []
  SE_Inbox_limit_set : SetOf K c_Inbox "limit" p_Inbox_limit a_Inbox_limit_set
  a_Inbox_edge : Addr
  fd_Inbox_edge : FuncData
  F_Inbox_edge : Fun K "edge" "Inbox.edge" s_Inbox_edge a_Inbox_edge fd_Inbox_edge
  B_Inbox_edge : Binds K fd_Inbox_edge ["self"] []
  p_Inbox_edge : Addr
  PR_Inbox_edge : PropOf K c_Inbox "edge" p_Inbox_edge a_Inbox_edge
  a_Inbox_room : Addr
  fd_Inbox_room : FuncData
  F_Inbox_room : Fun K "room" "Inbox.room" s_Inbox_room a_Inbox_room fd_Inbox_room
  B_Inbox_room : Binds K fd_Inbox_room ["self"] []
  p_Inbox_room : Addr
  PR_Inbox_room : PropOf K c_Inbox "room" p_Inbox_room a_Inbox_room
  a_Inbox_ready : Addr
  fd_Inbox_ready : FuncData
  F_Inbox_ready : Fun K "ready" "Inbox.ready" s_Inbox_ready a_Inbox_ready fd_Inbox_ready
  B_Inbox_ready : Binds K fd_Inbox_ready ["self"] []
  p_Inbox_ready : Addr
  PR_Inbox_ready : PropOf K c_Inbox "ready" p_Inbox_ready a_Inbox_ready
  a_Inbox_ended : Addr
  fd_Inbox_ended : FuncData
  F_Inbox_ended : Fun K "ended" "Inbox.ended" s_Inbox_ended a_Inbox_ended fd_Inbox_ended
  B_Inbox_ended : Binds K fd_Inbox_ended ["self"] []
  p_Inbox_ended : Addr
  PR_Inbox_ended : PropOf K c_Inbox "ended" p_Inbox_ended a_Inbox_ended
  a_Inbox_expected : Addr
  fd_Inbox_expected : FuncData
  F_Inbox_expected : Fun K "expected" "Inbox.expected" s_Inbox_expected a_Inbox_expected fd_Inbox_expected
  B_Inbox_expected : Binds K fd_Inbox_expected ["self"] []
  p_Inbox_expected : Addr
  PR_Inbox_expected : PropOf K c_Inbox "expected" p_Inbox_expected a_Inbox_expected
  a_Inbox_urgent_count : Addr
  fd_Inbox_urgent_count : FuncData
  F_Inbox_urgent_count : Fun K "urgent_count" "Inbox.urgent_count" s_Inbox_urgent_count a_Inbox_urgent_count fd_Inbox_urgent_count
  B_Inbox_urgent_count : Binds K fd_Inbox_urgent_count ["self"] []
  p_Inbox_urgent_count : Addr
  PR_Inbox_urgent_count : PropOf K c_Inbox "urgent_count" p_Inbox_urgent_count a_Inbox_urgent_count
  a_Inbox_resize : Addr
  fd_Inbox_resize : FuncData
  F_Inbox_resize : Fun K "resize" "Inbox.resize" s_Inbox_resize a_Inbox_resize fd_Inbox_resize
  B_Inbox_resize : Binds K fd_Inbox_resize ["self", "limit"] []
  m_Inbox_resize : Meth K c_Inbox "resize" a_Inbox_resize
  a_Inbox_take : Addr
  fd_Inbox_take : FuncData
  F_Inbox_take : Fun K "take" "Inbox.take" s_Inbox_take a_Inbox_take fd_Inbox_take
  B_Inbox_take : Binds K fd_Inbox_take ["self", "offset", "data"] []
  m_Inbox_take : Meth K c_Inbox "take" a_Inbox_take
  a_Inbox_stop : Addr
  fd_Inbox_stop : FuncData
  F_Inbox_stop : Fun K "_stop" "Inbox._stop" s_Inbox_stop a_Inbox_stop fd_Inbox_stop
  B_Inbox_stop : Binds K fd_Inbox_stop ["self"] []
  m_Inbox_stop : Meth K c_Inbox "_stop" a_Inbox_stop
  a_Inbox_move_on : Addr
  fd_Inbox_move_on : FuncData
  F_Inbox_move_on : Fun K "_move_on" "Inbox._move_on" s_Inbox_move_on a_Inbox_move_on fd_Inbox_move_on
  B_Inbox_move_on : Binds K fd_Inbox_move_on ["self"] []
  m_Inbox_move_on : Meth K c_Inbox "_move_on" a_Inbox_move_on
  a_Inbox_finish : Addr
  fd_Inbox_finish : FuncData
  F_Inbox_finish : Fun K "finish" "Inbox.finish" s_Inbox_finish a_Inbox_finish fd_Inbox_finish
  B_Inbox_finish : Binds K fd_Inbox_finish ["self", "offset"] []
  m_Inbox_finish : Meth K c_Inbox "finish" a_Inbox_finish
  a_Inbox_read : Addr
  fd_Inbox_read : FuncData
  F_Inbox_read : Fun K "read" "Inbox.read" s_Inbox_read a_Inbox_read fd_Inbox_read
  B_Inbox_read : Binds K fd_Inbox_read ["self", "count"] []
  m_Inbox_read : Meth K c_Inbox "read" a_Inbox_read
  a_Inbox_told_runs : Addr
  fd_Inbox_told_runs : FuncData
  F_Inbox_told_runs : Fun K "told_runs" "Inbox.told_runs" s_Inbox_told_runs a_Inbox_told_runs fd_Inbox_told_runs
  B_Inbox_told_runs : Binds K fd_Inbox_told_runs ["self"] []
  m_Inbox_told_runs : Meth K c_Inbox "told_runs" a_Inbox_told_runs
  a_Inbox_mark_urgent : Addr
  fd_Inbox_mark_urgent : FuncData
  F_Inbox_mark_urgent : Fun K "mark_urgent" "Inbox.mark_urgent" s_Inbox_mark_urgent a_Inbox_mark_urgent fd_Inbox_mark_urgent
  B_Inbox_mark_urgent : Binds K fd_Inbox_mark_urgent ["self", "offset"] []
  m_Inbox_mark_urgent : Meth K c_Inbox "mark_urgent" a_Inbox_mark_urgent
  a__law_box : Addr
  fd__law_box : FuncData
  F__law_box : Fun K "_law_box" "_law_box" s__law_box a__law_box fd__law_box
  B__law_box : Binds K fd__law_box ["script"] []
  g__law_box : mg "_law_box" = some (.ref a__law_box)
  a__law_draw : Addr
  fd__law_draw : FuncData
  F__law_draw : Fun K "_law_draw" "_law_draw" s__law_draw a__law_draw fd__law_draw
  B__law_draw : Binds K fd__law_draw ["box", "size"] []
  g__law_draw : mg "_law_draw" = some (.ref a__law_draw)
  a__law_is_whole : Addr
  fd__law_is_whole : FuncData
  F__law_is_whole : Fun K "_law_is_whole" "_law_is_whole" s__law_is_whole a__law_is_whole fd__law_is_whole
  B__law_is_whole : Binds K fd__law_is_whole ["value"] []
  g__law_is_whole : mg "_law_is_whole" = some (.ref a__law_is_whole)
  a__law_limit : Addr
  fd__law_limit : FuncData
  F__law_limit : Fun K "_law_limit" "_law_limit" s__law_limit a__law_limit fd__law_limit
  B__law_limit : Binds K fd__law_limit ["box"] []
  g__law_limit : mg "_law_limit" = some (.ref a__law_limit)
  a__law_bytes : Addr
  fd__law_bytes : FuncData
  F__law_bytes : Fun K "_law_bytes" "_law_bytes" s__law_bytes a__law_bytes fd__law_bytes
  B__law_bytes : Binds K fd__law_bytes ["box", "most"] []
  g__law_bytes : mg "_law_bytes" = some (.ref a__law_bytes)
  a__law_pairs_are : Addr
  fd__law_pairs_are : FuncData
  F__law_pairs_are : Fun K "_law_pairs_are" "_law_pairs_are" s__law_pairs_are a__law_pairs_are fd__law_pairs_are
  B__law_pairs_are : Binds K fd__law_pairs_are ["told", "due"] []
  g__law_pairs_are : mg "_law_pairs_are" = some (.ref a__law_pairs_are)
  a__law_tuple_is : Addr
  fd__law_tuple_is : FuncData
  F__law_tuple_is : Fun K "_law_tuple_is" "_law_tuple_is" s__law_tuple_is a__law_tuple_is fd__law_tuple_is
  B__law_tuple_is : Binds K fd__law_tuple_is ["told", "due"] []
  g__law_tuple_is : mg "_law_tuple_is" = some (.ref a__law_tuple_is)
  a__law_new_state : Addr
  fd__law_new_state : FuncData
  F__law_new_state : Fun K "_law_new_state" "_law_new_state" s__law_new_state a__law_new_state fd__law_new_state
  B__law_new_state : Binds K fd__law_new_state ["most"] []
  g__law_new_state : mg "_law_new_state" = some (.ref a__law_new_state)
  a__law_edge : Addr
  fd__law_edge : FuncData
  F__law_edge : Fun K "_law_edge" "_law_edge" s__law_edge a__law_edge fd__law_edge
  B__law_edge : Binds K fd__law_edge ["state"] []
  g__law_edge : mg "_law_edge" = some (.ref a__law_edge)
  a__law_stores : Addr
  fd__law_stores : FuncData
  F__law_stores : Fun K "_law_stores" "_law_stores" s__law_stores a__law_stores fd__law_stores
  B__law_stores : Binds K fd__law_stores ["state", "offset", "data"] []
  g__law_stores : mg "_law_stores" = some (.ref a__law_stores)
  a__law_runs : Addr
  fd__law_runs : FuncData
  F__law_runs : Fun K "_law_runs" "_law_runs" s__law_runs a__law_runs fd__law_runs
  B__law_runs : Binds K fd__law_runs ["state"] []
  g__law_runs : mg "_law_runs" = some (.ref a__law_runs)
  a__law_told : Addr
  fd__law_told : FuncData
  F__law_told : Fun K "_law_told" "_law_told" s__law_told a__law_told fd__law_told
  B__law_told : Binds K fd__law_told ["inbox", "state"] []
  g__law_told : mg "_law_told" = some (.ref a__law_told)
  a__law_offset : Addr
  fd__law_offset : FuncData
  F__law_offset : Fun K "_law_offset" "_law_offset" s__law_offset a__law_offset fd__law_offset
  B__law_offset : Binds K fd__law_offset ["box", "state"] []
  g__law_offset : mg "_law_offset" = some (.ref a__law_offset)
  a__law_takes : Addr
  fd__law_takes : FuncData
  F__law_takes : Fun K "_law_takes" "_law_takes" s__law_takes a__law_takes fd__law_takes
  B__law_takes : Binds K fd__law_takes ["box", "inbox", "state"] []
  g__law_takes : mg "_law_takes" = some (.ref a__law_takes)
  a__law_reads : Addr
  fd__law_reads : FuncData
  F__law_reads : Fun K "_law_reads" "_law_reads" s__law_reads a__law_reads fd__law_reads
  B__law_reads : Binds K fd__law_reads ["inbox", "state", "count"] []
  g__law_reads : mg "_law_reads" = some (.ref a__law_reads)
  a__law_state : Addr
  fd__law_state : FuncData
  F__law_state : Fun K "_law_state" "_law_state" s__law_state a__law_state fd__law_state
  B__law_state : Binds K fd__law_state ["inbox", "state"] []
  g__law_state : mg "_law_state" = some (.ref a__law_state)
  a__law_most : Addr
  fd__law_most : FuncData
  F__law_most : Fun K "_law_most" "_law_most" s__law_most a__law_most fd__law_most
  B__law_most : Binds K fd__law_most ["state"] []
  g__law_most : mg "_law_most" = some (.ref a__law_most)
  a__law_finishes : Addr
  fd__law_finishes : FuncData
  F__law_finishes : Fun K "_law_finishes" "_law_finishes" s__law_finishes a__law_finishes fd__law_finishes
  B__law_finishes : Binds K fd__law_finishes ["box", "inbox", "state"] []
  g__law_finishes : mg "_law_finishes" = some (.ref a__law_finishes)
  a__law_finish_refused : Addr
  fd__law_finish_refused : FuncData
  F__law_finish_refused : Fun K "_law_finish_refused" "_law_finish_refused" s__law_finish_refused a__law_finish_refused fd__law_finish_refused
  B__law_finish_refused : Binds K fd__law_finish_refused ["box", "inbox", "state"] []
  g__law_finish_refused : mg "_law_finish_refused" = some (.ref a__law_finish_refused)
  a__law_read_refused : Addr
  fd__law_read_refused : FuncData
  F__law_read_refused : Fun K "_law_read_refused" "_law_read_refused" s__law_read_refused a__law_read_refused fd__law_read_refused
  B__law_read_refused : Binds K fd__law_read_refused ["box", "inbox"] []
  g__law_read_refused : mg "_law_read_refused" = some (.ref a__law_read_refused)
  a__law_limit_refused : Addr
  fd__law_limit_refused : FuncData
  F__law_limit_refused : Fun K "_law_limit_refused" "_law_limit_refused" s__law_limit_refused a__law_limit_refused fd__law_limit_refused
  B__law_limit_refused : Binds K fd__law_limit_refused ["box", "inbox"] []
  g__law_limit_refused : mg "_law_limit_refused" = some (.ref a__law_limit_refused)
  a__law_marks : Addr
  fd__law_marks : FuncData
  F__law_marks : Fun K "_law_marks" "_law_marks" s__law_marks a__law_marks fd__law_marks
  B__law_marks : Binds K fd__law_marks ["box", "inbox", "state"] []
  g__law_marks : mg "_law_marks" = some (.ref a__law_marks)
  a__law_deed : Addr
  fd__law_deed : FuncData
  F__law_deed : Fun K "_law_deed" "_law_deed" s__law_deed a__law_deed fd__law_deed
  B__law_deed : Binds K fd__law_deed ["box", "inbox", "state"] []
  g__law_deed : mg "_law_deed" = some (.ref a__law_deed)
  a__law_narrows : Addr
  fd__law_narrows : FuncData
  F__law_narrows : Fun K "_law_narrows" "_law_narrows" s__law_narrows a__law_narrows fd__law_narrows
  B__law_narrows : Binds K fd__law_narrows ["box", "inbox", "state"] []
  g__law_narrows : mg "_law_narrows" = some (.ref a__law_narrows)
  a__law_fills : Addr
  fd__law_fills : FuncData
  F__law_fills : Fun K "_law_fills" "_law_fills" s__law_fills a__law_fills fd__law_fills
  B__law_fills : Binds K fd__law_fills ["inbox", "state"] []
  g__law_fills : mg "_law_fills" = some (.ref a__law_fills)
  a_law : Addr
  fd_law : FuncData
  F_law : Fun K "law" "law" s_law a_law fd_law
  B_law : Binds K fd_law ["script"] []
  g_law : mg "law" = some (.ref a_law)
  X_LossError : GCls mg "LossError" c_LossError
  X_InvalidNumber : XCls K mg "InvalidNumber" c_InvalidNumber a_InvalidNumber_init_
  nX_InvalidNumber : PySem.W.findIn K (.ref c_InvalidNumber) "number" = some none
  X_InvalidSetting : XCls K mg "InvalidSetting" c_InvalidSetting a_InvalidSetting_init_
  nX_InvalidSetting : PySem.W.findIn K (.ref c_InvalidSetting) "setting" = some none
  Me_InvalidNumber_InvalidNumber : PySem.W.exmOne K (.ref c_InvalidNumber) (.ref c_InvalidNumber) = some true
  Me_InvalidSetting_InvalidSetting : PySem.W.exmOne K (.ref c_InvalidSetting) (.ref c_InvalidSetting) = some true
  Kt_InvalidNumber_InvalidNumber : PySem.W.kitOne K (.ref c_InvalidNumber) (.ref c_InvalidNumber) = some true
  Kt_InvalidNumber_InvalidSetting : PySem.W.kitOne K (.ref c_InvalidNumber) (.ref c_InvalidSetting) = some false
  Kt_InvalidSetting_InvalidNumber : PySem.W.kitOne K (.ref c_InvalidSetting) (.ref c_InvalidNumber) = some false
  Kt_InvalidSetting_InvalidSetting : PySem.W.kitOne K (.ref c_InvalidSetting) (.ref c_InvalidSetting) = some true
  Kt_InvalidNumber_LossError : PySem.W.kitOne K (.ref c_InvalidNumber) (.ref c_LossError) = some true
  Kt_InvalidSetting_LossError : PySem.W.kitOne K (.ref c_InvalidSetting) (.ref c_LossError) = some true
  Kv_InvalidNumber : PySem.W.kitOne K (.ref c_InvalidNumber) (.type "ValueError") = some true
  Kv_InvalidSetting : PySem.W.kitOne K (.ref c_InvalidSetting) (.type "ValueError") = some true
  b_NotImplemented : mg "NotImplemented" = none
  b_ValueError : mg "ValueError" = none
  b_abs : mg "abs" = none
  b_bool : mg "bool" = none
  b_int : mg "int" = none
  b_isinstance : mg "isinstance" = none
  b_len : mg "len" = none
  b_list : mg "list" = none
  b_max : mg "max" = none
  b_min : mg "min" = none
  b_property : mg "property" = none
  b_range : mg "range" = none
  b_repr : mg "repr" = none
  b_reversed : mg "reversed" = none
  b_sorted : mg "sorted" = none
  b_sum : mg "sum" = none
  b_tuple : mg "tuple" = none
  u_MOST_TOLD : Value
  g_MOST_TOLD : mg "MOST_TOLD" = some u_MOST_TOLD
  r_MOST_TOLD : RelV (.int 3) u_MOST_TOLD

section
variable {P : Program} {w : World} {K : PySem.W.Frag} {mg : Str → Option Value} {base : Heap}
/-! ### kinds of values -/
/-- whether x is an int and no bool, by its kind -/
def IntK (K : PySem.W.Frag) (H : Hp) (x : V) (r : Bool) : Prop := ∃ (t : Value) (i b : Bool), TyX K H x t ∧ PySem.W.kitOne K t (.type "int") = some i ∧ PySem.W.kitOne K t (.type "bool") = some b ∧ r = (i && !b)
theorem intK_int {K : PySem.W.Frag} {H : Hp} (n : Int) : IntK K H (.int n) true := ⟨.type "int", true, false, .base (.int n), kit_ty (by decide +kernel), kit_ty (by decide +kernel), rfl⟩
/-- isinstance(x, int) and not isinstance(x, bool) -/
def sp_is_integer (K : PySem.W.Frag) : Sp := fun vs H Q _ => ∃ (x : V) (r : Bool), vs = [x] ∧ IntK K H x r ∧ Q (.bl r) H
def sp_is_between (K : PySem.W.Frag) : Sp := fun vs H Q _ => ∃ (x : V) (lo hi : Int), vs = [x, .int lo, .int hi] ∧ ((∃ n, x = .int n ∧ Q (.bl (decide (lo ≤ n) && decide (n ≤ hi))) H) ∨ (IntK K H x false ∧ Q (.bl false) H))
theorem ok_is_integer (T : Txt K mg) : FnOk P w K mg base CX0 1 T.a_is_integer T.fd_is_integer ["value"] (sp_is_integer K) := by
  have S := sc_is_integer
  refine T.F_is_integer.ok S (fun vs H Q E h => ?_) (fun cdv A outer s H vs Q E hr h => ?_)
  · obtain ⟨x, r, rfl, _⟩ := h
    rfl
  · obtain ⟨x, r, rfl, ⟨t, i, b, ty, hi, hb, rfl⟩, k⟩ := h
    refine ⟨_, (pss_one (ps_ret (pe_and (pe_callB (id := "isinstance") call_isi (by rfl) T.b_isinstance (by decide +kernel) (pa_cons (pv 0) (pa_cons (pe_bltn (v := .ty "int") (u := .type "int") (by rfl) T.b_int (by decide +kernel) rfl) pa_nil))) (pe_one (pe_not (pe_callB (id := "isinstance") call_isi (by rfl) T.b_isinstance (by decide +kernel) (pa_cons (pv 0) (pa_cons (pe_bltn (v := .ty "bool") (u := .type "bool") (by rfl) T.b_bool (by decide +kernel) rfl) pa_nil)))))))), ?_⟩
    refine ⟨_, rfl, _, _, _, _, i, rfl, .ty _, ty, hi, i, rfl, ?_⟩
    cases i with
    | false => exact iteF k
    | true => exact iteT ⟨_, rfl, _, _, _, _, b, rfl, .ty _, ty, hb, b, rfl, k⟩
theorem ok_is_between (T : Txt K mg) : FnOk P w K mg base CX0 2 T.a_is_between T.fd_is_between ["value", "low", "high"] (sp_is_between K) := by
  have S := sc_is_between
  refine T.F_is_between.ok S (fun vs H Q E h => ?_) (fun cdv A outer s H vs Q E hr h => ?_)
  · obtain ⟨x, lo, hi, rfl, _⟩ := h
    rfl
  · obtain ⟨x, lo, hi, rfl, h⟩ := h
    refine ⟨_, (pss_one (ps_ret (pe_and (pe_call (ok_is_integer T) (hr.mono (by decide)) rfl T.g_is_integer T.F_is_integer.kp T.B_is_integer .nil pass0 (pa_cons (pv 0) pa_nil)) (pe_one (pe_chain op_le op_le (pv 1) (pv 0) (pv 2)))))), ?_⟩
    rcases h with ⟨n, rfl, k⟩ | ⟨hk, k⟩
    · refine ⟨_, rfl, _, true, rfl, intK_int n, true, rfl, iteT ?_⟩
      refine ⟨_, rfl, _, rfl, _, _, rfl, rfl, _, rfl, ?_⟩
      by_cases q : lo ≤ n
      · rw [decide_eq_true q, Bool.true_and] at k
        rw [decide_eq_true q]
        exact iteT ⟨_, rfl, _, _, rfl, rfl, k⟩
      · rw [decide_eq_false q, Bool.false_and] at k
        rw [decide_eq_false q]
        exact iteF k
    · exact ⟨_, rfl, _, false, rfl, hk, false, rfl, iteF k⟩
/-! ### sequences, items by their kinds -/
theorem tyX_same {K : PySem.W.Frag} {H H' : Hp} {x : V} {t : Value} (h : TyX K H x t) (s : Same H H') : TyX K H' x t := by
  cases h with
  | base b =>
    refine .base ?_
    cases b with
    | non => exact .non
    | bl y => exact .bl y
    | int i => exact .int i
    | str y => exact .str y
    | flt y => exact .flt y
    | lst e => exact .lst (s _ _ e)
    | frz e => exact .frz (s _ _ e)
    | tup e => exact .tup (s _ _ e)
    | dK e => exact .dK (s _ _ e)
    | dT e => exact .dT (s _ _ e)
    | ins e cl ha hn ht hm => exact .ins (s _ _ e) cl ha hn ht hm
  | byt b => exact .byt b
  | set e => exact .set (s _ _ e)
  | kList e c => exact .kList e c
  | kTuple e c => exact .kTuple e c
  | kDict e c => exact .kDict e c
  | fTuple e => exact .fTuple (s _ _ e)
  | fDict e => exact .fDict (s _ _ e)
theorem IntK.same {K : PySem.W.Frag} {H H' : Hp} {x : V} {r : Bool} (h : IntK K H x r) (s : Same H H') : IntK K H' x r := by
  obtain ⟨t, i, b, ty, h1, h2, h3⟩ := h
  exact ⟨t, i, b, tyX_same ty s, h1, h2, h3⟩
/-- x is the int n, or no int at all -/
def Kd (K : PySem.W.Frag) (H : Hp) (x : V) : Option Int → Prop
  | some n => x = .int n
  | none => IntK K H x false
theorem Kd.same {K : PySem.W.Frag} {H H' : Hp} {x : V} {o : Option Int} (h : Kd K H x o) (s : Same H H') : Kd K H' x o := by
  cases o with
  | some n => exact h
  | none => exact IntK.same h s
/-- what lies in lo .. hi -/
def inR (lo hi : Int) : Option Int → Bool
  | some n => decide (lo ≤ n) && decide (n ≤ hi)
  | none => false
/-- a list or a tuple -/
def SeqA (K : PySem.W.Frag) (H : Hp) (a : Addr) (xs : List V) : Prop := SqL K H a xs ∨ SqT K H a xs
theorem SeqA.lst {K : PySem.W.Frag} {H : Hp} {a : Addr} {xs : List V} (h : H a = some (.lst xs)) : SeqA K H a xs := .inl (SqL.of h)
theorem SeqA.tup {K : PySem.W.Frag} {H : Hp} {a : Addr} {xs : List V} (h : H a = some (.tup xs)) : SeqA K H a xs := .inr (SqT.of h)
theorem SeqA.sm {K : PySem.W.Frag} {H H' : Hp} {a : Addr} {xs : List V} (h : SeqA K H a xs) (s : Same H H') : SeqA K H' a xs := h.elim (fun h => .inl (s.seq h)) fun h => .inr (sqT_sm h s)
/-- whether x is a sequence, by its kind -/
def SeqK (K : PySem.W.Frag) (H : Hp) (x : V) (r : Bool) : Prop := ∃ t, TyX K H x t ∧ PySem.W.kitAny K t [.type "list", .type "tuple"] = some r
theorem kit2 {K : PySem.W.Frag} {t : Value} {a b : Bool} (h1 : PySem.W.kitOne K t (.type "list") = some a) (h2 : PySem.W.kitOne K t (.type "tuple") = some b) : PySem.W.kitAny K t [.type "list", .type "tuple"] = some (a || b) := by
  unfold PySem.W.kitAny
  rw [h1]
  cases a with
  | true => rfl
  | false =>
    show PySem.W.kitAny K t [.type "tuple"] = some b
    unfold PySem.W.kitAny
    rw [h2]
    cases b <;> rfl
theorem seqK_ty {K : PySem.W.Frag} {H : Hp} {x : V} {n : String} {a b : Bool} (t : TyX K H x (.type n)) (h1 : kitB n "list" = some a) (h2 : kitB n "tuple" = some b) : SeqK K H x (a || b) := ⟨_, t, kit2 (kit_ty h1) (kit_ty h2)⟩
theorem seqK_of {K : PySem.W.Frag} {H : Hp} {a : Addr} {xs : List V} (h : SeqA K H a xs) : SeqK K H (.ref a) true := by
  rcases h with h | h
  · rcases h with (h | ⟨o, h⟩) | ⟨o, its, n, hk, hc, _⟩
    · exact seqK_ty (a := true) (b := false) (.base (.lst h)) (by decide +kernel) (by decide +kernel)
    · exact seqK_ty (a := true) (b := false) (.base (.frz h)) (by decide +kernel) (by decide +kernel)
    · exact seqK_ty (a := true) (b := false) (.kList hk hc) (by decide +kernel) (by decide +kernel)
  · rcases h with (h | ⟨o, h⟩) | ⟨o, its, n, hk, hc, _⟩
    · exact seqK_ty (a := false) (b := true) (.base (.tup h)) (by decide +kernel) (by decide +kernel)
    · exact seqK_ty (a := false) (b := true) (.fTuple h) (by decide +kernel) (by decide +kernel)
    · exact seqK_ty (a := false) (b := true) (.kTuple hk hc) (by decide +kernel) (by decide +kernel)
/-! ### lists stay lists -/
def Typ (H H' : Hp) : Prop := ∀ a o, H a = some o → H' a = some o ∨ ((∃ xs, o = .lst xs) ∧ ∃ ys, H' a = some (.lst ys))
theorem Typ.refl (H : Hp) : Typ H H := fun _ _ h => .inl h
theorem Typ.of {H H' : Hp} (s : Same H H') : Typ H H' := fun _ _ h => .inl (s _ _ h)
theorem Typ.trans {H H1 H2 : Hp} (x : Typ H H1) (y : Typ H1 H2) : Typ H H2 := fun a o h => by
  rcases x a o h with h1 | ⟨hx, ys, h1⟩
  · exact y a o h1
  · rcases y a _ h1 with h2 | ⟨_, zs, h2⟩
    · exact .inr ⟨hx, ys, h2⟩
    · exact .inr ⟨hx, zs, h2⟩
theorem Typ.upd {H : Hp} {a : Addr} {xs ys : List V} (h : H a = some (.lst xs)) : Typ H (L2.upd H a (.lst ys)) := fun b o hb => by
  by_cases q : b = a
  · subst q
    rw [h] at hb
    cases hb
    exact .inr ⟨⟨_, rfl⟩, ys, upd_same⟩
  · exact .inl (by rw [upd_ne q]; exact hb)
theorem Typ.purse {H H' : Hp} {p c : Addr} (P : Purse p c H) (P' : Purse p c H') (s : SameX p H H') : Typ H H' := fun b o hb => by
  by_cases q : b = p
  · subst q
    obtain ⟨⟨xs, h⟩, _⟩ := P.there
    obtain ⟨⟨ys, h'⟩, _⟩ := P'.there
    rw [h] at hb
    cases hb
    exact .inr ⟨⟨_, rfl⟩, ys, h'⟩
  · exact .inl (s b o q hb)
theorem tyX_typ {K : PySem.W.Frag} {H H' : Hp} {x : V} {t : Value} (h : TyX K H x t) (s : Typ H H') : TyX K H' x t := by
  cases h with
  | base b =>
    refine .base ?_
    cases b with
    | non => exact .non
    | bl y => exact .bl y
    | int i => exact .int i
    | str y => exact .str y
    | flt y => exact .flt y
    | lst e => exact (s _ _ e).elim (fun h => .lst h) fun ⟨_, ys, h⟩ => .lst h
    | frz e => exact (s _ _ e).elim (fun h => .frz h) fun ⟨⟨_, z⟩, _⟩ => nomatch z
    | tup e => exact (s _ _ e).elim (fun h => .tup h) fun ⟨⟨_, z⟩, _⟩ => nomatch z
    | dK e => exact (s _ _ e).elim (fun h => .dK h) fun ⟨⟨_, z⟩, _⟩ => nomatch z
    | dT e => exact (s _ _ e).elim (fun h => .dT h) fun ⟨⟨_, z⟩, _⟩ => nomatch z
    | ins e cl ha hn ht hm => exact (s _ _ e).elim (fun h => .ins h cl ha hn ht hm) fun ⟨⟨_, z⟩, _⟩ => nomatch z
  | byt b => exact .byt b
  | set e => exact (s _ _ e).elim (fun h => .set h) fun ⟨⟨_, z⟩, _⟩ => nomatch z
  | kList e c => exact .kList e c
  | kTuple e c => exact .kTuple e c
  | kDict e c => exact .kDict e c
  | fTuple e => exact (s _ _ e).elim (fun h => .fTuple h) fun ⟨⟨_, z⟩, _⟩ => nomatch z
  | fDict e => exact (s _ _ e).elim (fun h => .fDict h) fun ⟨⟨_, z⟩, _⟩ => nomatch z
theorem Kd.typ {K : PySem.W.Frag} {H H' : Hp} {x : V} {o : Option Int} (h : Kd K H x o) (s : Typ H H') : Kd K H' x o := by
  cases o with
  | some n => exact h
  | none =>
    obtain ⟨t, i, b, ty, h1, h2, h3⟩ := (show IntK K H x false from h)
    exact ⟨t, i, b, tyX_typ ty s, h1, h2, h3⟩
theorem intK_no {K : PySem.W.Frag} {H : Hp} {x : V} {n : String} {i b : Bool} (t : TyX K H x (.type n)) (h1 : kitB n "int" = some i) (h2 : kitB n "bool" = some b) (h : (i && !b) = false) : IntK K H x false := ⟨_, i, b, t, kit_ty h1, kit_ty h2, h.symm⟩
theorem ixN_nat {n j : Nat} {z : Int} (e : z = (j : Int)) (h : j < n) : ixN n z = some j := by
  subst e
  unfold ixN
  rw [if_pos (by omega), if_pos (by omega)]
  rfl
/-! ### equality of words -/
theorem dec_int (a b : Int) : decide (V.int a = V.int b) = decide (a = b) := by
  by_cases e : a = b
  · rw [decide_eq_true e, decide_eq_true (congrArg V.int e)]
  · rw [decide_eq_false e, decide_eq_false (fun q => e (V.int.inj q))]
theorem dec_bl (a b : Bool) : decide (V.bl a = V.bl b) = (a == b) := by
  cases a <;> cases b <;> rfl
/-! ### steps: readings by their form -/
section
variable {K : PySem.W.Frag} {σ : L2.St} {H : Hp} {Q : VK} {QL : List V → Hp → Prop} {QB : Bool → Hp → Prop} {QO : Option Int → Hp → Prop} {QS : L2.St → Hp → Prop} {v w : V} {a0 a1 a2 a3 a4 a5 a6 a7 a8 a9 a10 a11 a12 a13 a14 a15 a16 a17 a18 a19 : Option V} {te tb tc : TE} {ta : TA} {t u : TT} {ts us : TS} {D : Ends} {g : TG}
def rTupOf (K : PySem.W.Frag) : List V → Hp → VK → Prop := fun xs H Q => ∃ p ys, xs = [.ref p] ∧ ((SqL K H p ys ∧ ∀ l, H l = none → Q (.ref l) (L2.upd H l (.tup ys))) ∨ SqT K H p ys ∧ Q (.ref p) H)
theorem call_tupK {X : Cx} {K : PySem.W.Frag} (e : X.K = K) : CallR X (.type "tuple") (rTupOf K) := e ▸ call_tuple_of
def rLstOf (K : PySem.W.Frag) : List V → Hp → VK → Prop := fun xs H Q => ∃ p ys, xs = [.ref p] ∧ (SqL K H p ys ∨ SqT K H p ys) ∧ ∀ l, H l = none → Q (.ref l) (L2.upd H l (.lst ys))
theorem call_listK {X : Cx} {K : PySem.W.Frag} (e : X.K = K) : CallR X (.type "list") (rLstOf K) := e ▸ call_list_of
def rLenOf (K : PySem.W.Frag) : List V → Hp → VK → Prop := fun xs H Q => ∃ p ys, xs = [.ref p] ∧ (SqL K H p ys ∨ SqT K H p ys) ∧ Q (.int (ys.length : Int)) H
theorem call_lenK {X : Cx} {K : PySem.W.Frag} (e : X.K = K) : CallR X (.builtin "len") (rLenOf K) := e ▸ call_len_seq
theorem all_cons {α : Type} {p : α → Prop} {a : α} {l : List α} (h : p a) (r : ∀ q ∈ l, p q) : ∀ q ∈ a :: l, p q := fun q hq => by
  rcases List.mem_cons.mp hq with e | e
  · rw [e]; exact h
  · exact r q e
theorem x_v0 (q : Q v H) : tVar 0 (some v :: σ) H Q := ⟨_, rfl, q⟩
theorem x_g0 (q : QS (some v :: σ) H) : gName 0 v (a0 :: σ) H QS := q
theorem x_v1 (q : Q v H) : tVar 1 (a0 :: some v :: σ) H Q := ⟨_, rfl, q⟩
theorem x_g1 (q : QS (a0 :: some v :: σ) H) : gName 1 v (a0 :: a1 :: σ) H QS := q
theorem x_v2 (q : Q v H) : tVar 2 (a0 :: a1 :: some v :: σ) H Q := ⟨_, rfl, q⟩
theorem x_g2 (q : QS (a0 :: a1 :: some v :: σ) H) : gName 2 v (a0 :: a1 :: a2 :: σ) H QS := q
theorem x_v3 (q : Q v H) : tVar 3 (a0 :: a1 :: a2 :: some v :: σ) H Q := ⟨_, rfl, q⟩
theorem x_g3 (q : QS (a0 :: a1 :: a2 :: some v :: σ) H) : gName 3 v (a0 :: a1 :: a2 :: a3 :: σ) H QS := q
theorem x_v4 (q : Q v H) : tVar 4 (a0 :: a1 :: a2 :: a3 :: some v :: σ) H Q := ⟨_, rfl, q⟩
theorem x_g4 (q : QS (a0 :: a1 :: a2 :: a3 :: some v :: σ) H) : gName 4 v (a0 :: a1 :: a2 :: a3 :: a4 :: σ) H QS := q
theorem x_v5 (q : Q v H) : tVar 5 (a0 :: a1 :: a2 :: a3 :: a4 :: some v :: σ) H Q := ⟨_, rfl, q⟩
theorem x_g5 (q : QS (a0 :: a1 :: a2 :: a3 :: a4 :: some v :: σ) H) : gName 5 v (a0 :: a1 :: a2 :: a3 :: a4 :: a5 :: σ) H QS := q
theorem x_v6 (q : Q v H) : tVar 6 (a0 :: a1 :: a2 :: a3 :: a4 :: a5 :: some v :: σ) H Q := ⟨_, rfl, q⟩
theorem x_g6 (q : QS (a0 :: a1 :: a2 :: a3 :: a4 :: a5 :: some v :: σ) H) : gName 6 v (a0 :: a1 :: a2 :: a3 :: a4 :: a5 :: a6 :: σ) H QS := q
theorem x_v7 (q : Q v H) : tVar 7 (a0 :: a1 :: a2 :: a3 :: a4 :: a5 :: a6 :: some v :: σ) H Q := ⟨_, rfl, q⟩
theorem x_g7 (q : QS (a0 :: a1 :: a2 :: a3 :: a4 :: a5 :: a6 :: some v :: σ) H) : gName 7 v (a0 :: a1 :: a2 :: a3 :: a4 :: a5 :: a6 :: a7 :: σ) H QS := q
theorem x_v8 (q : Q v H) : tVar 8 (a0 :: a1 :: a2 :: a3 :: a4 :: a5 :: a6 :: a7 :: some v :: σ) H Q := ⟨_, rfl, q⟩
theorem x_g8 (q : QS (a0 :: a1 :: a2 :: a3 :: a4 :: a5 :: a6 :: a7 :: some v :: σ) H) : gName 8 v (a0 :: a1 :: a2 :: a3 :: a4 :: a5 :: a6 :: a7 :: a8 :: σ) H QS := q
theorem x_v9 (q : Q v H) : tVar 9 (a0 :: a1 :: a2 :: a3 :: a4 :: a5 :: a6 :: a7 :: a8 :: some v :: σ) H Q := ⟨_, rfl, q⟩
theorem x_g9 (q : QS (a0 :: a1 :: a2 :: a3 :: a4 :: a5 :: a6 :: a7 :: a8 :: some v :: σ) H) : gName 9 v (a0 :: a1 :: a2 :: a3 :: a4 :: a5 :: a6 :: a7 :: a8 :: a9 :: σ) H QS := q
theorem x_v10 (q : Q v H) : tVar 10 (a0 :: a1 :: a2 :: a3 :: a4 :: a5 :: a6 :: a7 :: a8 :: a9 :: some v :: σ) H Q := ⟨_, rfl, q⟩
theorem x_g10 (q : QS (a0 :: a1 :: a2 :: a3 :: a4 :: a5 :: a6 :: a7 :: a8 :: a9 :: some v :: σ) H) : gName 10 v (a0 :: a1 :: a2 :: a3 :: a4 :: a5 :: a6 :: a7 :: a8 :: a9 :: a10 :: σ) H QS := q
theorem x_v11 (q : Q v H) : tVar 11 (a0 :: a1 :: a2 :: a3 :: a4 :: a5 :: a6 :: a7 :: a8 :: a9 :: a10 :: some v :: σ) H Q := ⟨_, rfl, q⟩
theorem x_g11 (q : QS (a0 :: a1 :: a2 :: a3 :: a4 :: a5 :: a6 :: a7 :: a8 :: a9 :: a10 :: some v :: σ) H) : gName 11 v (a0 :: a1 :: a2 :: a3 :: a4 :: a5 :: a6 :: a7 :: a8 :: a9 :: a10 :: a11 :: σ) H QS := q
theorem x_v12 (q : Q v H) : tVar 12 (a0 :: a1 :: a2 :: a3 :: a4 :: a5 :: a6 :: a7 :: a8 :: a9 :: a10 :: a11 :: some v :: σ) H Q := ⟨_, rfl, q⟩
theorem x_g12 (q : QS (a0 :: a1 :: a2 :: a3 :: a4 :: a5 :: a6 :: a7 :: a8 :: a9 :: a10 :: a11 :: some v :: σ) H) : gName 12 v (a0 :: a1 :: a2 :: a3 :: a4 :: a5 :: a6 :: a7 :: a8 :: a9 :: a10 :: a11 :: a12 :: σ) H QS := q
theorem x_v13 (q : Q v H) : tVar 13 (a0 :: a1 :: a2 :: a3 :: a4 :: a5 :: a6 :: a7 :: a8 :: a9 :: a10 :: a11 :: a12 :: some v :: σ) H Q := ⟨_, rfl, q⟩
theorem x_g13 (q : QS (a0 :: a1 :: a2 :: a3 :: a4 :: a5 :: a6 :: a7 :: a8 :: a9 :: a10 :: a11 :: a12 :: some v :: σ) H) : gName 13 v (a0 :: a1 :: a2 :: a3 :: a4 :: a5 :: a6 :: a7 :: a8 :: a9 :: a10 :: a11 :: a12 :: a13 :: σ) H QS := q
theorem x_v14 (q : Q v H) : tVar 14 (a0 :: a1 :: a2 :: a3 :: a4 :: a5 :: a6 :: a7 :: a8 :: a9 :: a10 :: a11 :: a12 :: a13 :: some v :: σ) H Q := ⟨_, rfl, q⟩
theorem x_g14 (q : QS (a0 :: a1 :: a2 :: a3 :: a4 :: a5 :: a6 :: a7 :: a8 :: a9 :: a10 :: a11 :: a12 :: a13 :: some v :: σ) H) : gName 14 v (a0 :: a1 :: a2 :: a3 :: a4 :: a5 :: a6 :: a7 :: a8 :: a9 :: a10 :: a11 :: a12 :: a13 :: a14 :: σ) H QS := q
theorem x_v15 (q : Q v H) : tVar 15 (a0 :: a1 :: a2 :: a3 :: a4 :: a5 :: a6 :: a7 :: a8 :: a9 :: a10 :: a11 :: a12 :: a13 :: a14 :: some v :: σ) H Q := ⟨_, rfl, q⟩
theorem x_g15 (q : QS (a0 :: a1 :: a2 :: a3 :: a4 :: a5 :: a6 :: a7 :: a8 :: a9 :: a10 :: a11 :: a12 :: a13 :: a14 :: some v :: σ) H) : gName 15 v (a0 :: a1 :: a2 :: a3 :: a4 :: a5 :: a6 :: a7 :: a8 :: a9 :: a10 :: a11 :: a12 :: a13 :: a14 :: a15 :: σ) H QS := q
theorem x_v16 (q : Q v H) : tVar 16 (a0 :: a1 :: a2 :: a3 :: a4 :: a5 :: a6 :: a7 :: a8 :: a9 :: a10 :: a11 :: a12 :: a13 :: a14 :: a15 :: some v :: σ) H Q := ⟨_, rfl, q⟩
theorem x_g16 (q : QS (a0 :: a1 :: a2 :: a3 :: a4 :: a5 :: a6 :: a7 :: a8 :: a9 :: a10 :: a11 :: a12 :: a13 :: a14 :: a15 :: some v :: σ) H) : gName 16 v (a0 :: a1 :: a2 :: a3 :: a4 :: a5 :: a6 :: a7 :: a8 :: a9 :: a10 :: a11 :: a12 :: a13 :: a14 :: a15 :: a16 :: σ) H QS := q
theorem x_v17 (q : Q v H) : tVar 17 (a0 :: a1 :: a2 :: a3 :: a4 :: a5 :: a6 :: a7 :: a8 :: a9 :: a10 :: a11 :: a12 :: a13 :: a14 :: a15 :: a16 :: some v :: σ) H Q := ⟨_, rfl, q⟩
theorem x_g17 (q : QS (a0 :: a1 :: a2 :: a3 :: a4 :: a5 :: a6 :: a7 :: a8 :: a9 :: a10 :: a11 :: a12 :: a13 :: a14 :: a15 :: a16 :: some v :: σ) H) : gName 17 v (a0 :: a1 :: a2 :: a3 :: a4 :: a5 :: a6 :: a7 :: a8 :: a9 :: a10 :: a11 :: a12 :: a13 :: a14 :: a15 :: a16 :: a17 :: σ) H QS := q
theorem x_v18 (q : Q v H) : tVar 18 (a0 :: a1 :: a2 :: a3 :: a4 :: a5 :: a6 :: a7 :: a8 :: a9 :: a10 :: a11 :: a12 :: a13 :: a14 :: a15 :: a16 :: a17 :: some v :: σ) H Q := ⟨_, rfl, q⟩
theorem x_g18 (q : QS (a0 :: a1 :: a2 :: a3 :: a4 :: a5 :: a6 :: a7 :: a8 :: a9 :: a10 :: a11 :: a12 :: a13 :: a14 :: a15 :: a16 :: a17 :: some v :: σ) H) : gName 18 v (a0 :: a1 :: a2 :: a3 :: a4 :: a5 :: a6 :: a7 :: a8 :: a9 :: a10 :: a11 :: a12 :: a13 :: a14 :: a15 :: a16 :: a17 :: a18 :: σ) H QS := q
theorem x_v19 (q : Q v H) : tVar 19 (a0 :: a1 :: a2 :: a3 :: a4 :: a5 :: a6 :: a7 :: a8 :: a9 :: a10 :: a11 :: a12 :: a13 :: a14 :: a15 :: a16 :: a17 :: a18 :: some v :: σ) H Q := ⟨_, rfl, q⟩
theorem x_g19 (q : QS (a0 :: a1 :: a2 :: a3 :: a4 :: a5 :: a6 :: a7 :: a8 :: a9 :: a10 :: a11 :: a12 :: a13 :: a14 :: a15 :: a16 :: a17 :: a18 :: some v :: σ) H) : gName 19 v (a0 :: a1 :: a2 :: a3 :: a4 :: a5 :: a6 :: a7 :: a8 :: a9 :: a10 :: a11 :: a12 :: a13 :: a14 :: a15 :: a16 :: a17 :: a18 :: a19 :: σ) H QS := q
theorem x_c (q : Q v H) : tC v σ H Q := q
theorem x_op {r : R2} (q : te σ H fun x H1 => tb σ H1 fun y H2 => r x y H2 Q) : tOp r te tb σ H Q := q
theorem x_un {r : V → Hp → VK → Prop} (q : te σ H fun x H1 => r x H1 Q) : tUn r te σ H Q := q
theorem x_test (q : te σ H fun x H1 => ∃ k, x = .bl k ∧ QB k H1) : tTest te σ H QB := q
theorem x_tB (q : te σ H fun x H1 => ∃ k, x = .bl k ∧ QB k H1) : tB te σ H QB := q
theorem x_and (q : t σ H fun c H1 => if c = true then u σ H1 QB else QB false H1) : tAnd t u σ H QB := q
theorem x_or (q : t σ H fun c H1 => if c = true then QB true H1 else u σ H1 QB) : tOr t u σ H QB := q
theorem x_not (q : t σ H fun c H1 => QB (!c) H1) : tNot t σ H QB := q
theorem x_andV (q : te σ H fun x H1 => ∃ c, x = .bl c ∧ if c = true then tb σ H1 Q else Q (.bl false) H1) : tAndV te tb σ H Q := q
theorem x_orV (q : te σ H fun x H1 => ∃ c, x = .bl c ∧ if c = true then Q (.bl true) H1 else tb σ H1 Q) : tOrV te tb σ H Q := q
theorem x_notV (q : te σ H fun x H1 => ∃ c, x = .bl c ∧ Q (.bl (!c)) H1) : tNotV te σ H Q := q
theorem x_if (q : t σ H fun c H1 => if c = true then te σ H1 Q else tb σ H1 Q) : tIf t te tb σ H Q := q
theorem x_ifS (q : t σ H fun b H1 => if b = true then ts D σ H1 else us D σ H1) : tIfS t ts us D σ H := q
theorem x_seq (q : ts ⟨us D, D.rt, D.bk, D.ct⟩ σ H) : tSeq ts us D σ H := q
theorem x_next (q : D.nx σ H) : tNext D σ H := q
theorem x_brk (q : D.bk σ H) : tBreak D σ H := q
theorem x_cont (q : D.ct σ H) : tCont D σ H := q
theorem x_nx {f : L2.St → Hp → Prop} {r : VK} {b c : L2.St → Hp → Prop} (q : f σ H) : Ends.nx ⟨f, r, b, c⟩ σ H := q
theorem x_rt {f : VK} {n b c : L2.St → Hp → Prop} (q : f v H) : Ends.rt ⟨n, f, b, c⟩ v H := q
theorem x_bk {f : L2.St → Hp → Prop} {r : VK} {n c : L2.St → Hp → Prop} (q : f σ H) : Ends.bk ⟨n, r, f, c⟩ σ H := q
theorem x_ct {f : L2.St → Hp → Prop} {r : VK} {n b : L2.St → Hp → Prop} (q : f σ H) : Ends.ct ⟨n, r, b, f⟩ σ H := q
theorem x_drop (q : te σ H fun _ H1 => D.nx σ H1) : tDrop te D σ H := q
theorem x_ret (q : te σ H fun x H1 => D.rt x H1) : tRet te D σ H := q
theorem x_retN (q : D.rt .non H) : tRetN D σ H := q
theorem x_asg (q : te σ H fun x H1 => g x σ H1 D.nx) : tAsg te g D σ H := q
theorem x_nil (q : QL [] H) : tNil σ H QL := q
theorem x_cons (q : te σ H fun x H1 => ta σ H1 fun xs H2 => QL (x :: xs) H2) : tCons te ta σ H QL := q
theorem x_call {sp : Sp} {dvs : List V} {E : XK} (q : ta σ H fun vs H1 => sp (vs ++ dvs) H1 Q E) : tCall sp dvs E ta σ H Q := q
theorem x_cb {r : List V → Hp → VK → Prop} (q : ta σ H fun vs H1 => r vs H1 Q) : tCB r ta σ H Q := q
theorem x_bm {T : String} {r : V → List V → Hp → VK → Prop} (q : te σ H fun x H1 => tyV K T x H1 ∧ ta σ H1 fun xs H2 => r x xs H2 Q) : tBM K T r te ta σ H Q := q
theorem x_sl {r : V → Option Int → Option Int → Hp → VK → Prop} {tl th : TO} (q : te σ H fun x H1 => tl σ H1 fun l H2 => th σ H2 fun u H3 => r x l u H3 Q) : tSl r te tl th σ H Q := q
theorem x_np (q : QO none H) : tNoPart σ H QO := q
theorem x_pt (q : te σ H fun x H1 => ∃ i, x = .int i ∧ QO (some i) H1) : tPart te σ H QO := q
theorem x_exI {P : Int → Prop} {i : Int} (q : P i) : ∃ k, V.int i = V.int k ∧ P k := ⟨_, rfl, q⟩
theorem x_exB {P : Bool → Prop} {b : Bool} (q : P b) : ∃ k, V.bl b = V.bl k ∧ P k := ⟨_, rfl, q⟩
theorem x_I0 {f : Int → Int → V} {i j : Int} (q : Q (f i j) H) : rI0 f (.int i) (.int j) H Q := ⟨_, _, rfl, rfl, q⟩
theorem x_eqI {i j : Int} (q : Q (.bl (decide (i = j))) H) : rEq (.int i) (.int j) H Q := ⟨rfl, by rw [My.dec_int]; exact q⟩
theorem x_neI {i j : Int} (q : Q (.bl (!decide (i = j))) H) : rNe (.int i) (.int j) H Q := ⟨rfl, by rw [My.dec_int]; exact q⟩
theorem x_eqS {i j : Str} (q : Q (.bl (decide (i = j))) H) : rEq (.str i) (.str j) H Q := ⟨rfl, by
  have e : decide (V.str i = V.str j) = decide (i = j) := by
    by_cases h : i = j
    · rw [decide_eq_true h, decide_eq_true (congrArg V.str h)]
    · rw [decide_eq_false h, decide_eq_false (fun z => h (V.str.inj z))]
  rw [e]; exact q⟩
theorem x_neS {i j : Str} (q : Q (.bl (!decide (i = j))) H) : rNe (.str i) (.str j) H Q := ⟨rfl, by
  have e : decide (V.str i = V.str j) = decide (i = j) := by
    by_cases h : i = j
    · rw [decide_eq_true h, decide_eq_true (congrArg V.str h)]
    · rw [decide_eq_false h, decide_eq_false (fun z => h (V.str.inj z))]
  rw [e]; exact q⟩
def brB (b : Bool) (p q : Prop) : Prop := (b = true → p) ∧ (b = false → q)
theorem x_ite {b : Bool} {p q : Prop} (h : brB b p q) : if b = true then p else q := by
  cases b with
  | true => rw [if_pos rfl]; exact h.1 rfl
  | false => rw [if_neg Bool.false_ne_true]; exact h.2 rfl
theorem x_brT {p q : Prop} (h : p) : brB true p q := ⟨fun _ => h, fun z => nomatch z⟩
theorem x_brF {p q : Prop} (h : q) : brB false p q := ⟨fun z => (nomatch z), fun _ => h⟩
theorem x_brN {b : Bool} {p q : Prop} (h : brB b q p) : brB (!b) p q := by
  cases b with
  | true => exact x_brF (h.1 rfl)
  | false => exact x_brT (h.2 rfl)
theorem br2 {b : Bool} {p q : Prop} (h1 : b = true → p) (h2 : b = false → q) : brB b p q := ⟨h1, h2⟩
theorem brD {c : Prop} [Decidable c] {p q : Prop} (h1 : c → p) (h2 : ¬ c → q) : brB (decide c) p q := ⟨fun h => h1 (of_decide_eq_true h), fun h => h2 (of_decide_eq_false h)⟩
theorem brT {b : Bool} {p q : Prop} (e : b = true) (h : p) : brB b p q := ⟨fun _ => h, fun z => by rw [e] at z; cases z⟩
theorem brF {b : Bool} {p q : Prop} (e : b = false) (h : q) : brB b p q := ⟨fun z => (by rw [e] at z; cases z), fun _ => h⟩
theorem brDT {c : Prop} [Decidable c] {p q : Prop} (e : c) (h : p) : brB (decide c) p q := brT (decide_eq_true e) h
theorem brDF {c : Prop} [Decidable c] {p q : Prop} (e : ¬ c) (h : q) : brB (decide c) p q := brF (decide_eq_false e) h
theorem x_ixL {a : Addr} {xs : List V} {i : Int} (h : H a = some (.lst xs)) (hi : atI xs i = some v) (q : Q v H) : rIxL K (.ref a) (.int i) H Q := ⟨_, _, _, _, rfl, rfl, SqL.of h, hi, q⟩
theorem x_ixT {a : Addr} {xs : List V} {i : Int} (h : H a = some (.tup xs)) (hi : atI xs i = some v) (q : Q v H) : rIxT K (.ref a) (.int i) H Q := ⟨_, _, _, _, rfl, rfl, SqT.of h, hi, q⟩
def rNewL (xs : List V) (H : Hp) (Q : VK) : Prop := xs.length ≤ sizeLine ∧ ∀ p, H p = none → Q (.ref p) (L2.upd H p (.lst xs))
def rNewT (xs : List V) (H : Hp) (Q : VK) : Prop := xs.length ≤ sizeLine ∧ ∀ p, H p = none → Q (.ref p) (L2.upd H p (.tup xs))
theorem x_lst (q : ta σ H fun xs H1 => rNewL xs H1 Q) : tLst ta σ H Q := q
theorem x_tup (q : ta σ H fun xs H1 => rNewT xs H1 Q) : tTup ta σ H Q := q
theorem x_new {n : Nat} {P : Prop} (h : n ≤ 100000) (q : P) : n ≤ sizeLine ∧ P := ⟨Nat.le_trans h (by decide), q⟩
theorem x_sFld {f : Str} (q : tb σ H fun y H1 => te σ H1 fun x H2 => ∃ a C dx fs, x = .ref a ∧ H2 a = some (.ins C dx fs) ∧ Cls K C ∧ NoAttr K C f ∧ fs.length < 1000 ∧ D.nx σ (L2.upd H2 a (.ins C dx (putF f y fs)))) : sFld K te tb f D σ H := q
theorem x_fld {f : Str} (q : te σ H fun x H1 => ∃ a C dx fs v, x = .ref a ∧ H1 a = some (.ins C dx fs) ∧ Cls K C ∧ NoAttr K C f ∧ fs.lookup f = some v ∧ Q v H1) : tFld K te f σ H Q := q
/-- a field is stored -/
theorem fstore {f : Str} {y : V} {p C dx : Addr} {fs fs' : List (Str × V)} {P : Hp → Prop} (h : H p = some (.ins C dx fs)) (c : Cls K C) (n : NoAttr K C f) (l : fs.length < 1000) (e : putF f y fs = fs') (q : ∀ H', SameX p H H' → H' p = some (.ins C dx fs') → P H') :
    ∃ a C dx fs, V.ref p = .ref a ∧ H a = some (.ins C dx fs) ∧ Cls K C ∧ NoAttr K C f ∧ fs.length < 1000 ∧ P (L2.upd H a (.ins C dx (putF f y fs))) := ⟨p, C, dx, fs, rfl, h, c, n, l, q _ SameX.upd (by rw [e]; exact upd_same)⟩
/-- a field is read -/
theorem fget {f : Str} {v : V} {p C dx : Addr} {fs : List (Str × V)} {P : V → Prop} (h : H p = some (.ins C dx fs)) (c : Cls K C) (n : NoAttr K C f) (e : fs.lookup f = some v) (q : P v) :
    ∃ a C dx fs v, V.ref p = .ref a ∧ H a = some (.ins C dx fs) ∧ Cls K C ∧ NoAttr K C f ∧ fs.lookup f = some v ∧ P v := ⟨p, C, dx, fs, v, rfl, h, c, n, e, q⟩
/-- tuple(seq) -/
theorem tupleOf {a : Addr} {xs : List V} (h : SeqA K H a xs) (q : ∀ l H', Same H H' → SqT K H' l xs → Q (.ref l) H') :
    rTupOf K [.ref a] H Q :=
  ⟨a, xs, rfl, h.elim (fun h => .inl ⟨h, fun l hl => q l _ (Same.new hl) (SqT.of upd_same)⟩) fun h => .inr ⟨h, q a H (Same.refl H) h⟩⟩
/-- list(seq) -/
theorem listOf {a : Addr} {xs : List V} (h : SeqA K H a xs) (q : ∀ l H', H l = none → Same H H' → H' l = some (.lst xs) → Q (.ref l) H') :
    rLstOf K [.ref a] H Q := ⟨a, xs, rfl, h, fun l hl => q l _ hl (Same.new hl) upd_same⟩
/-- new lists, new tuples, sums of lists, appends, by what stands afterwards -/
theorem newList {xs : List V} (h : xs.length ≤ 100000) (q : ∀ l H', H l = none → Same H H' → H' l = some (.lst xs) → Q (.ref l) H') : rNewL xs H Q := ⟨Nat.le_trans h (by decide), fun l hl => q l _ hl (Same.new hl) upd_same⟩
theorem newTup {xs : List V} (h : xs.length ≤ 100000) (q : ∀ l H', H l = none → Same H H' → H' l = some (.tup xs) → Q (.ref l) H') : rNewT xs H Q := ⟨Nat.le_trans h (by decide), fun l hl => q l _ hl (Same.new hl) upd_same⟩
theorem catList {a b : Addr} {xs zs : List V} (ha : H a = some (.lst xs)) (hb : H b = some (.lst zs)) (h : xs.length + zs.length ≤ 100000) (q : ∀ l H', H l = none → Same H H' → H' l = some (.lst (xs ++ zs)) → Q (.ref l) H') : rCat (.ref a) (.ref b) H Q :=
  ⟨a, b, xs, zs, rfl, rfl, ha, hb, Nat.le_trans h (by decide), fun l hl => q l _ hl (Same.new hl) upd_same⟩
theorem appList {a : Addr} {xs : List V} {y : V} (ha : H a = some (.lst xs)) (h : xs.length < 100000) (q : ∀ H', SameX a H H' → H' a = some (.lst (xs ++ [y])) → Q .non H') : rAppend (.ref a) [y] H Q := ⟨a, xs, y, rfl, rfl, ha, Nat.lt_of_lt_of_le h (by decide), q _ SameX.upd upd_same⟩
theorem isList {a : Addr} {xs : List V} (ha : H a = some (.lst xs)) : tyV K "list" (.ref a) H := .inl ⟨rfl, xs, SqL.of ha⟩
theorem ixL {a : Addr} {xs : List V} {i : Nat} (ha : H a = some (.lst xs)) (hi : xs[i]? = some v) (q : Q v H) : rIxL K (.ref a) (.int (i : Int)) H Q := ⟨a, xs, i, v, rfl, rfl, SqL.of ha, atI_nat hi, q⟩
theorem ixT {a : Addr} {xs : List V} {i : Nat} (ha : SqT K H a xs) (hi : xs[i]? = some v) (q : Q v H) : rIxT K (.ref a) (.int (i : Int)) H Q := ⟨a, xs, i, v, rfl, rfl, ha, atI_nat hi, q⟩
theorem setL {a : Addr} {xs : List V} {i : Nat} {P : Hp → Prop} (ha : H a = some (.lst xs)) (hi : i < xs.length) (q : ∀ H', SameX a H H' → H' a = some (.lst (xs.set i v)) → P H') : rSetL (.ref a) (.int (i : Int)) v H P := ⟨a, xs, i, i, rfl, rfl, ha, ixN_nat rfl hi, q _ SameX.upd upd_same⟩
theorem lenA {a : Addr} {xs : List V} (h : SeqA K H a xs) (q : Q (.int (xs.length : Int)) H) : rLenOf K [.ref a] H Q := ⟨a, xs, rfl, h, q⟩
/-- what a for asks once its turns are known -/
def forK (J : It) (g : TG) (tb : TS) (D : Ends) (σ : L2.St) (H : Hp) : Prop := ∃ W : Nat → Nat → L2.St → Hp → Prop, (∃ m, W 0 m σ H) ∧ ∀ i m σ H, W i m σ H →
  (J.stop i H ∧ D.nx σ H) ∨ (J.go i H ∧ ∃ N : L2.St → Hp → Prop, (∀ σ' H', N σ' H' → ∃ m', m' < m ∧ W (i + 1) m' σ' H') ∧ ∀ x H', J.yld i H x H' → g x σ H' fun σ2 H2 => tb { D with nx := N, ct := N, bk := D.nx } σ2 H2)
def forI (g : TG) (tb : TS) (D : Ends) (σ : L2.St) (n : Int) (H : Hp) : Prop := ∃ j : Int, [V.int n] = [.int j] ∧ -(2 ^ 62) ≤ j ∧ j < 2 ^ 62 ∧ forK (Itr 0 j.toNat) g tb D σ H
theorem x_for1 (q : ta σ H fun vs H1 => ∃ j : Int, vs = [.int j] ∧ -(2 ^ 62) ≤ j ∧ j < 2 ^ 62 ∧ forK (Itr 0 j.toNat) g ts D σ H1) : tFor (iRng1 ta) g ts D σ H := q
theorem x_forL (q : te σ H fun x H1 => ∃ a, x = .ref a ∧ (∃ xs, SqL K H1 a xs) ∧ forK (Itl K a) g ts D σ H1) : tFor (iList K te) g ts D σ H := q
theorem x_forT (q : te σ H fun x H1 => ∃ a, x = .ref a ∧ (∃ xs, SqT K H1 a xs) ∧ forK (Itt K a) g ts D σ H1) : tFor (iTup K te) g ts D σ H := q
theorem rng1 {n : Int} (h0 : -100000 ≤ n) (h1 : n ≤ 100000) (q : forK (Itr 0 n.toNat) g ts D σ H) : ∃ j : Int, [V.int n] = [.int j] ∧ -(2 ^ 62) ≤ j ∧ j < 2 ^ 62 ∧ forK (Itr 0 j.toNat) g ts D σ H := ⟨n, rfl, by omega, by omega, q⟩
theorem overL {a : Addr} {xs : List V} (h : SqL K H a xs) (q : forK (Itl K a) g ts D σ H) : ∃ b, V.ref a = .ref b ∧ (∃ xs, SqL K H b xs) ∧ forK (Itl K b) g ts D σ H := ⟨a, rfl, ⟨_, h⟩, q⟩
theorem overT {a : Addr} {xs : List V} (h : SqT K H a xs) (q : forK (Itt K a) g ts D σ H) : ∃ b, V.ref a = .ref b ∧ (∃ xs, SqT K H b xs) ∧ forK (Itt K b) g ts D σ H := ⟨a, rfl, ⟨_, h⟩, q⟩
end
/-! ### steps: more readings by their form -/
theorem pe_fldK {X : Cx} {K : PySem.W.Frag} {e : Expr} {f : Str} {pos : Pos} {ta : TE} (eK : X.K = K) (he : PE X e ta) (hb : attributeBase e f X.env (eval e X.env) = eval e X.env) : PE X (.Attribute e f pos) (tFld K ta f) := eK ▸ pe_fld he hb
section
variable {K : PySem.W.Frag} {σ : L2.St} {H : Hp} {Q : VK} {QS : L2.St → Hp → Prop} {v : V} {te tb ti : TE} {tt : TT} {D : Ends}
theorem x_gsub {to ti : TE} {t : TSet} (q : to σ H fun o H1 => ti σ H1 fun i H2 => t o i v H2 fun H3 => QS σ H3) : gSub to ti t v σ H QS := q
theorem x_int1 {P : Int → Prop} {R : Prop} {i : Int} (q : P i) : (∃ k, [V.int i] = [V.int k] ∧ P k) ∨ R := .inl ⟨i, rfl, q⟩
theorem x_exL {P : Int → Prop} {i : Int} (q : P i) : ∃ k, [V.int i] = [V.int k] ∧ P k := ⟨i, rfl, q⟩
theorem min_if (i j : Int) : (if j < i then j else i) = min i j := by rw [Int.min_def]; split <;> split <;> omega
theorem max_if (i j : Int) : (if j > i then j else i) = max i j := by rw [Int.max_def]; split <;> split <;> omega
def rMin2 : List V → Hp → VK → Prop := fun xs H Q => ∃ i j, xs = [.int i, .int j] ∧ Q (.int (min i j)) H
def rMax2 : List V → Hp → VK → Prop := fun xs H Q => ∃ i j, xs = [.int i, .int j] ∧ Q (.int (max i j)) H
def ab (x : Int) : Int := if x < 0 then -x else x
def rAbs : List V → Hp → VK → Prop := fun xs H Q => ∃ i, xs = [.int i] ∧ Q (.int (ab i)) H
theorem call_min2K {X : Cx} (hc : X.calm = true) : CallR X (.builtin "min") rMin2 := by
  intro pins s σ H xs us Q I r h
  obtain ⟨i, j, e, q⟩ := h
  exact call_min2 hc pins s σ H xs us Q I r ⟨i, j, e, by rw [min_if]; exact q⟩
theorem call_max2K {X : Cx} (hc : X.calm = true) : CallR X (.builtin "max") rMax2 := by
  intro pins s σ H xs us Q I r h
  obtain ⟨i, j, e, q⟩ := h
  exact call_max2 hc pins s σ H xs us Q I r ⟨i, j, e, by rw [max_if]; exact q⟩
theorem call_absK {X : Cx} : CallR X (.builtin "abs") rAbs := call_abs
theorem x_min2 {i j : Int} (q : Q (.int (min i j)) H) : rMin2 [.int i, .int j] H Q := ⟨i, j, rfl, q⟩
theorem x_max2 {i j : Int} (q : Q (.int (max i j)) H) : rMax2 [.int i, .int j] H Q := ⟨i, j, rfl, q⟩
theorem x_abs {i : Int} (q : Q (.int (ab i)) H) : rAbs [.int i] H Q := ⟨i, rfl, q⟩
theorem x_brTT {p q : Prop} (h : p) : brB (true && true) p q := x_brT h
theorem x_mod {i j : Int} (h : 0 < j) (q : Q (.int (i % j)) H) : rI (fun _ j => 0 < j) (fun i j => .int (i % j)) (.int i) (.int j) H Q := ⟨i, j, rfl, rfl, h, q⟩
theorem x_mulR {i j : Int} (h : -(2 ^ 64) < j ∧ j < 2 ^ 64) (q : Q (.int (i * j)) H) : rI CMul (fun i j => .int (i * j)) (.int i) (.int j) H Q := ⟨i, j, rfl, rfl, .inr h, q⟩
theorem x_mulL {i j : Int} (h : -(2 ^ 64) < i ∧ i < 2 ^ 64) (q : Q (.int (i * j)) H) : rI CMul (fun i j => .int (i * j)) (.int i) (.int j) H Q := ⟨i, j, rfl, rfl, .inl h, q⟩
theorem x_div {i j : Int} (h : 0 < j ∧ j < 1073741824) (q : Q (.int (i / j)) H) : rI CDiv (fun i j => .int (i / j)) (.int i) (.int j) H Q := ⟨i, j, rfl, rfl, h, q⟩
theorem x_divW {i j : Int} (h0 : 0 < j) (h : j < 2 ^ 62) (q : Q (.int (i / j)) H) : rI CDivW (fun i j => .int (i / j)) (.int i) (.int j) H Q := ⟨i, j, rfl, rfl, ⟨h0, Nat.lt_trans (PySem.Flt.log2_lt_of (k := 62) (by decide) (by omega)) (by decide)⟩, q⟩
theorem x_pow {i j : Int} (h : 0 ≤ j ∧ j ≤ 1000000 ∧ i.natAbs < 2 ^ 64) (q : Q (.int (i ^ j.toNat)) H) : rI CPow (fun i j => .int (i ^ j.toNat)) (.int i) (.int j) H Q := ⟨i, j, rfl, rfl, h, q⟩
theorem x_nN {P : Prop} (q : P) : V.non = V.non ∧ P := ⟨rfl, q⟩
theorem x_chain {r r' : R2} {tc : TE} (q : te σ H fun x H1 => tb σ H1 fun y H2 => r x y H2 fun z H3 => ∃ k, z = .bl k ∧ brB k (tc σ H3 fun w' H4 => r' y w' H4 Q) (Q (.bl false) H3)) : tChain r r' te tb tc σ H Q := by
  refine cast (congrArg (fun z => te σ H z) ?_) q
  funext x H1
  refine congrArg (fun z => tb σ H1 z) ?_
  funext y H2
  refine congrArg (fun z => r x y H2 z) ?_
  funext z H3
  refine congrArg Exists ?_
  funext k
  refine congrArg (fun p => z = .bl k ∧ p) ?_
  exact propext ⟨fun h => x_ite h, fun h => by cases k with
    | true => exact x_brT (by rw [if_pos rfl] at h; exact h)
    | false => exact x_brF (by rw [if_neg Bool.false_ne_true] at h; exact h)⟩
theorem x_meth {C : Addr} {m : Str} {sp : Sp} {dvs : List V} {E : XK} {ta : TE} {t : TA} (q : ta σ H fun x H1 => ∃ a dx fs, x = .ref a ∧ H1 a = some (.ins C dx fs) ∧ fs.lookup m = none ∧ t σ H1 fun vs H2 => sp (x :: (vs ++ dvs)) H2 Q E) : tMeth C m sp dvs E ta t σ H Q := q
theorem x_prop {C : Addr} {sp : Sp} {dvs : List V} {E : XK} {ta : TE} (q : ta σ H fun x H1 => ∃ a dx fs, x = .ref a ∧ H1 a = some (.ins C dx fs) ∧ sp (.ref a :: dvs) H1 Q E) : tProp C sp dvs E ta σ H Q := q
theorem x_make {C : Addr} {sp : Sp} {dvs : List V} {E : XK} {t : TA} (q : t σ H fun vs H1 => ∀ x dx, H1 x = none → H1 dx = none → dx ≠ x → sp (.ref x :: (vs ++ dvs)) (upd (upd H1 dx (.own x)) x (.ins C dx [])) (fun v H2 => v = .non ∧ Q (.ref x) H2) E) : tMake C sp dvs E t σ H Q := q
theorem x_fldaug {rd : V → V → Hp → VK → Prop} {f : Str} (q : te σ H fun x H1 => ∃ a C dx fs v, x = .ref a ∧ H1 a = some (.ins C dx fs) ∧ Cls K C ∧ NoAttr K C f ∧ fs.lookup f = some v ∧ tb σ H1 fun y H2 => rd v y H2 fun z H3 => ∃ dx' fs', H3 a = some (.ins C dx' fs') ∧ fs'.length < 1000 ∧ D.nx σ (L2.upd H3 a (.ins C dx' (putF f z fs')))) : sFldAug K te tb rd f D σ H := q
theorem x_rAdd {i j : Int} (q : Q (.int (i + j)) H) : rAdd (.int i) (.int j) H Q := ⟨i, j, rfl, rfl, q⟩
theorem x_ipI {f : Int → Int → Int} {i j : Int} (q : Q (.int (f i j)) H) : ipI f (.int i) (.int j) H Q := ⟨i, j, rfl, rfl, q⟩
theorem x_rSub {i j : Int} (q : Q (.int (i - j)) H) : rSub (.int i) (.int j) H Q := ⟨i, j, rfl, rfl, q⟩
theorem rngF {n : Int} {g : TG} {ts : TS} (h0 : -100000 ≤ n) (h1 : n ≤ 100000) (q : forK (Itr 0 n.toNat) g ts D σ H) : -(2 ^ 62) ≤ n ∧ n < 2 ^ 62 ∧ forK (Itr 0 n.toNat) g ts D σ H := ⟨by omega, by omega, q⟩
/-- a field is raised -/
theorem fraise {f : Str} {p C dx : Addr} {fs : List (Str × V)} {P : Hp → Prop} {T : V → V → Hp → VK → Prop} {tv : TE} {σ : L2.St} (h : H p = some (.ins C dx fs)) (c : Cls K C) (n : NoAttr K C f) (l : fs.length < 1000) (e : fs.lookup f = some v)
    (q : tv σ H fun y H2 => T v y H2 fun z H3 => ∃ dx' fs', H3 p = some (.ins C dx' fs') ∧ fs'.length < 1000 ∧ P (L2.upd H3 p (.ins C dx' (putF f z fs')))) :
    ∃ a C dx fs v, V.ref p = .ref a ∧ H a = some (.ins C dx fs) ∧ Cls K C ∧ NoAttr K C f ∧ fs.lookup f = some v ∧ tv σ H fun y H2 => T v y H2 fun z H3 => ∃ dx' fs', H3 a = some (.ins C dx' fs') ∧ fs'.length < 1000 ∧ P (L2.upd H3 a (.ins C dx' (putF f z fs'))) := ⟨p, C, dx, fs, v, rfl, h, c, n, e, q⟩
theorem fput {f : Str} {z : V} {p C dx : Addr} {fs fs' : List (Str × V)} {P : Hp → Prop} (h : H p = some (.ins C dx fs)) (l : fs.length < 1000) (e : putF f z fs = fs') (q : ∀ H', SameX p H H' → H' p = some (.ins C dx fs') → P H') :
    ∃ dx' fs', H p = some (.ins C dx' fs') ∧ fs'.length < 1000 ∧ P (L2.upd H p (.ins C dx' (putF f z fs'))) := ⟨dx, fs, h, l, q _ SameX.upd (by rw [e]; exact upd_same)⟩
end
/-! ### o[i] op= e, o a list -/
theorem pget_list {X : Cx} : PGet X (rIxL X.K) := by
  intro pins s σ H o i ov iv Q I ro ri h
  obtain ⟨p, xs, k, z, rfl, rfl, hq, he, q⟩ := h
  cases ro
  obtain ⟨t, rfl⟩ := ri
  obtain ⟨its, r, pl, hz⟩ := I.list hq
  obtain ⟨j, h1, h2, h3, h4, h5⟩ := atI_get he
  obtain ⟨w, ew, rw'⟩ := r.get h2
  have hl := r.length
  have hn := line63
  have fin : EP X pins σ Q w s := ⟨z, H, I, rw', q⟩
  by_cases h0 : 0 ≤ k
  · have hj : k.toNat = j := by
      rw [seqIndex_of h0 h5] at h1
      exact Option.some.inj h1
    exact wpAny_getItem_list pl.isList h0 (by omega) (by rw [hj]; simpa using ew) fin
  · have hj : (k + (its.toArray.size : Int)).toNat = j := by
      rw [seqIndex_neg (by omega) h4] at h1
      rw [List.size_toArray, ← hl]
      exact Option.some.inj h1
    exact wpAny_getItem_list_neg pl.isList (by omega) (by rw [List.size_toArray] <;> omega) (by omega) (by rw [hj]; simpa using ew) fin
theorem x_augS {to ti te : TE} {tget : V → V → Hp → VK → Prop} {tip : TIp} {tset : TSet} {D : Ends} {σ : L2.St} {H : Hp} (q : to σ H fun o H1 => ti σ H1 fun i H2 => tget o i H2 fun x H3 => te σ H3 fun y H4 => tip x y H4 fun z H5 => tset o i z H5 fun H6 => D.nx σ H6) : tAugS to ti te tget tip tset D σ H := q
theorem x_negU {i : Int} {H : Hp} {Q : VK} (q : Q (.int (-i)) H) : rU (fun i => .int (-i)) (.int i) H Q := ⟨i, rfl, q⟩
/-- for_range, by its name -/
theorem for_rangeK {lo : Int} {n : Nat} {g : TG} {ts : TS} {D : Ends} {σ : L2.St} {H : Hp} (Pv : Nat → L2.St → Hp → Prop) (h0 : Pv 0 σ H)
    (hs : ∀ i σ H, i < n → Pv i σ H → g (.int (lo + i)) σ H fun σ2 H2 => ts { D with nx := Pv (i + 1), ct := Pv (i + 1), bk := D.nx } σ2 H2) (hd : ∀ σ H, Pv n σ H → D.nx σ H) : forK (Itr lo n) g ts D σ H := for_range Pv h0 hs hd
local macro_rules
  | `(tactic| w_up) => `(tactic| with_reducible first
    | refine x_seq ?_ | refine x_asg ?_ | refine x_op ?_ | refine x_c ?_
    | refine x_v0 ?_ | refine x_v1 ?_ | refine x_v2 ?_ | refine x_v3 ?_ | refine x_v4 ?_ | refine x_v5 ?_ | refine x_v6 ?_ | refine x_v7 ?_ | refine x_v8 ?_ | refine x_v9 ?_ | refine x_v10 ?_ | refine x_v11 ?_ | refine x_v12 ?_ | refine x_v13 ?_ | refine x_v14 ?_ | refine x_v15 ?_ | refine x_v16 ?_ | refine x_v17 ?_ | refine x_v18 ?_ | refine x_v19 ?_
    | refine x_g0 ?_ | refine x_g1 ?_ | refine x_g2 ?_ | refine x_g3 ?_ | refine x_g4 ?_ | refine x_g5 ?_ | refine x_g6 ?_ | refine x_g7 ?_ | refine x_g8 ?_ | refine x_g9 ?_ | refine x_g10 ?_ | refine x_g11 ?_ | refine x_g12 ?_ | refine x_g13 ?_ | refine x_g14 ?_ | refine x_g15 ?_ | refine x_g16 ?_ | refine x_g17 ?_ | refine x_g18 ?_ | refine x_g19 ?_
    | refine x_cons ?_ | refine x_nil ?_ | refine x_I0 ?_ | refine x_exI ?_ | refine x_exB ?_ | refine x_eqI ?_ | refine x_neI ?_ | refine x_eqS ?_ | refine x_neS ?_
    | refine x_test ?_ | refine x_tB ?_ | refine x_ifS ?_ | refine x_if ?_ | refine x_and ?_ | refine x_or ?_ | refine x_not ?_ | refine x_andV ?_ | refine x_orV ?_ | refine x_notV ?_
    | refine x_ite ?_ | refine x_brT ?_ | refine x_brF ?_ | refine x_brN ?_
    | refine x_call ?_ | refine x_for1 ?_ | refine x_forL ?_ | refine x_forT ?_ | refine x_sFld ?_ | refine x_fld ?_ | refine x_cb ?_ | refine x_bm ?_ | refine x_un ?_ | refine x_sl ?_ | refine x_np ?_ | refine x_pt ?_
    | refine x_next ?_ | refine x_ret ?_ | refine x_retN ?_ | refine x_drop ?_ | refine x_brk ?_ | refine x_cont ?_ | refine x_lst ?_ | refine x_tup ?_ | dsimp only | dsimp only [List.set_cons_succ, List.set_cons_zero])
local macro_rules
  | `(tactic| o_args) => `(tactic| repeat w_up)
local macro_rules
  | `(tactic| w_up) => `(tactic| first
    | with_reducible refine x_augS ?_ | with_reducible refine x_negU ?_ | with_reducible refine x_gsub ?_ | with_reducible refine x_int1 ?_ | with_reducible refine x_exL ?_ | with_reducible refine x_min2 ?_ | with_reducible refine x_max2 ?_ | with_reducible refine x_abs ?_ | with_reducible refine x_brTT ?_
    | with_reducible refine x_mod (by decide) ?_ | with_reducible refine x_mulR ⟨by decide, by decide⟩ ?_ | with_reducible refine x_mulL ⟨by decide, by decide⟩ ?_ | with_reducible refine x_div ⟨by decide, by decide⟩ ?_
    | with_reducible refine x_pow ⟨by decide, by decide, by decide⟩ ?_
    | with_reducible refine x_nN ?_ | with_reducible refine x_chain ?_ | with_reducible refine x_meth ?_ | with_reducible refine x_prop ?_ | with_reducible refine x_make ?_ | with_reducible refine x_fldaug ?_ | with_reducible refine x_ipI ?_ | with_reducible refine x_rAdd ?_ | with_reducible refine x_rSub ?_
    | with_reducible refine brDT (by decide) ?_ | with_reducible refine brDF (by decide) ?_
    | with_reducible refine x_ixT (by assumption) (by with_unfolding_all exact rfl) ?_
    | with_reducible refine x_ixL (by assumption) (by with_unfolding_all exact rfl) ?_)
/-! ### general words -/
theorem Same.ofX {D : Addr} {H H' : Hp} (hD : H D = none) (s : SameX D H H') : Same H H' := fun b o e => s b o (ne_of_none e hD) e
theorem getq_lt {α : Type} {xs : List α} {i : Nat} {x : α} (h : xs[i]? = some x) : i < xs.length := (List.getElem?_eq_some_iff.mp h).1
theorem getq_app {α : Type} {vs : List α} {v w : α} {k : Nat} (h : (vs ++ [v])[k]? = some w) : (k < vs.length ∧ vs[k]? = some w) ∨ (k = vs.length ∧ w = v) := by
  have hk := getq_lt h
  rw [List.length_append] at hk
  have hk : k < vs.length + 1 := hk
  by_cases q : k < vs.length
  · rw [List.getElem?_append_left q] at h
    exact .inl ⟨q, h⟩
  · have e : k = vs.length := by omega
    subst e
    rw [List.getElem?_append_right (Nat.le_refl _), Nat.sub_self] at h
    exact .inr ⟨rfl, (Option.some.inj h).symm⟩
theorem none_back {p l : Addr} {H H' : Hp} (s : SameX p H H') (n : l ≠ p) (h : H' l = none) : H l = none := by
  cases q : H l with
  | none => rfl
  | some o => rw [s _ _ n q] at h; cases h
theorem none_of {H H' : Hp} {l : Addr} (s : Same H H') (h : H' l = none) : H l = none := by
  cases q : H l with
  | none => rfl
  | some o => rw [s _ _ q] at h; cases h
/-- only lists change -/
def LS (H H' : Hp) : Prop := ∀ a o, (∀ xs, o ≠ .lst xs) → H a = some o → H' a = some o
theorem LS.refl (H : Hp) : LS H H := fun _ _ _ h => h
theorem LS.trans {H H1 H2 : Hp} (x : LS H H1) (y : LS H1 H2) : LS H H2 := fun a o n h => y a o n (x a o n h)
theorem LS.of {H H' : Hp} (s : Same H H') : LS H H' := fun a o _ h => s a o h
theorem LS.ofX {H H' : Hp} {p : Addr} {xs : List V} (hp : H p = some (.lst xs)) (s : SameX p H H') : LS H H' := fun a o n h => s a o (fun e => by subst e; rw [hp] at h; cases h; exact n _ rfl) h
theorem LS.sqT {K : PySem.W.Frag} {H H' : Hp} {a : Addr} {xs : List V} (s : LS H H') (h : SqT K H a xs) : SqT K H' a xs := by
  rcases h with (h | ⟨o, h⟩) | h
  · exact .inl (.inl (s _ _ (fun _ z => nomatch z) h))
  · exact .inl (.inr ⟨o, s _ _ (fun _ z => nomatch z) h⟩)
  · exact .inr h
theorem sliceL {K : PySem.W.Frag} {H : Hp} {Q : VK} {a : Addr} {xs : List V} {lo hi : Option Int} (h : SqL K H a xs) (q : ∀ l H', H l = none → Same H H' → H' l = some (.lst (cutV xs lo hi)) → Q (.ref l) H') : rSlL K (.ref a) lo hi H Q := ⟨a, xs, rfl, h, fun l hl => q l _ hl (Same.new hl) upd_same⟩
theorem cut_to (xs : List V) (i : Nat) : cutV xs none (some (i : Int)) = xs.take i := by
  have e1 : HT.sIx xs.length 0 none = 0 := rfl
  have e2 : HT.sIx xs.length xs.length (some (i : Int)) = min i xs.length := by
    unfold HT.sIx
    simp
    intro h
    omega
  unfold cutV
  rw [e1, e2, List.drop_zero, Nat.sub_zero, List.take_eq_take_iff]
  omega
theorem cut_from (xs : List V) (i : Nat) : cutV xs (some (i : Int)) none = xs.drop i := by
  have e1 : HT.sIx xs.length xs.length none = xs.length := rfl
  have e2 : HT.sIx xs.length 0 (some (i : Int)) = min i xs.length := HT.sIx_nat _ _ _
  unfold cutV
  rw [e1, e2]
  by_cases h : i ≤ xs.length
  · rw [Nat.min_eq_left h, List.take_of_length_le (by rw [List.length_drop]; exact Nat.le_refl _)]
  · rw [Nat.min_eq_right (by omega), Nat.sub_self, List.take_zero, List.drop_of_length_le (by omega)]
theorem dp_ints {K : PySem.W.Frag} {H : Hp} : ∀ ns : List Int, DpAll K H (ns.map V.int) (ns.map PyData.int)
  | [] => .nil
  | n :: r => .cons (.int n) (dp_ints r)
theorem lay_all : ∀ ns : List Int, PyData.canLayAll0 (ns.map PyData.int) = true ∧ PyData.depthAll (ns.map PyData.int) = 0
  | [] => ⟨by simp only [List.map_nil, PyData.canLayAll0], by simp only [List.map_nil, PyData.depthAll]⟩
  | n :: r => by
    obtain ⟨h1, h2⟩ := lay_all r
    exact ⟨by simp only [List.map_cons, PyData.canLayAll0, PyData.canLay0, h1, Bool.and_self], by simp only [List.map_cons, PyData.depthAll, PyData.depth, h2, Nat.max_self]⟩
theorem lay_ints (ns : List Int) : PySem.SeqAt.shaped (.list (ns.map PyData.int)) = true := by
  obtain ⟨h1, h2⟩ := lay_all ns
  unfold PySem.SeqAt.shaped
  simp only [PyData.canLay0, PyData.depth, h1, h2]
  decide
theorem eqv_all : ∀ xs ys : List Int, PyData.eqvAll (xs.map PyData.int) (ys.map PyData.int) = decide (xs = ys)
  | [], [] => by simp [PyData.eqvAll]
  | [], y :: ys => by simp [PyData.eqvAll]
  | x :: xs, [] => by simp [PyData.eqvAll]
  | x :: xs, y :: ys => by
    have e := eqv_all xs ys
    simp only [List.map_cons, PyData.eqvAll, e, PyData.eqv]
    by_cases h : x = y <;> by_cases g : xs = ys <;> simp [h, g]
theorem eqv_ints (xs ys : List Int) : PyData.eqv (.list (xs.map PyData.int)) (.list (ys.map PyData.int)) = decide (xs = ys) := by
  simp only [PyData.eqv]
  exact eqv_all xs ys
/-- two lists of ints compared -/
theorem eqLL {K : PySem.W.Frag} {H : Hp} {Q : VK} {a b : Addr} {xs ys : List Int} (ha : SqL K H a (xs.map V.int)) (hb : SqL K H b (ys.map V.int)) (q : Q (.bl (decide (xs = ys))) H) : rEqD K (.ref a) (.ref b) H Q :=
  ⟨_, _, .lst ha (dp_ints xs), .lst hb (dp_ints ys), lay_ints xs, lay_ints ys, by rw [eqv_ints]; exact q⟩
theorem neLL {K : PySem.W.Frag} {H : Hp} {Q : VK} {a b : Addr} {xs ys : List Int} (ha : SqL K H a (xs.map V.int)) (hb : SqL K H b (ys.map V.int)) (q : Q (.bl (!decide (xs = ys))) H) : rNeD K (.ref a) (.ref b) H Q :=
  ⟨_, _, .lst ha (dp_ints xs), .lst hb (dp_ints ys), lay_ints xs, lay_ints ys, by rw [eqv_ints]; exact q⟩
/-- a comprehension over a list of ints, filtered, its items ints -/
theorem lc_ints {K : PySem.W.Frag} {a : Addr} {ns : List Int} {te tel : TE} {tt : TT} {σ : L2.St} {H : Hp} {Q : VK} {j : Nat} (p : Int → Bool) (f : Int → Int) (hte : ∀ R' : VK, R' (.ref a) H → te σ H R') (hS : SqL K H a (ns.map V.int)) (hz : ns.length < 100000)
    (ht : ∀ x ∈ ns, ∀ H', Same H H' → ∀ Qt : Bool → Hp → Prop, Qt (p x) H' → tt ((σ.set j none).set j (some (.int x))) H' Qt)
    (he : ∀ x ∈ ns, p x = true → ∀ H', Same H H' → ∀ Qe : VK, Qe (.int (f x)) H' → tel ((σ.set j none).set j (some (.int x))) H' Qe)
    (hd : ∀ D H', H D = none → Same H H' → H' D = some (.lst (((ns.filter p).map f).map V.int)) → Q (.ref D) H') : tLc (iList K te) (gName j) tt tel [j] σ H Q := by
  refine hte _ ⟨a, rfl, ⟨_, hS⟩, fun D hD => lc_list (K := K) (a := a) (xs := ns.map V.int) (fun i H' => H' D = some (.lst ((((ns.take i).filter p).map f).map V.int)) ∧ SameX D H H') ⟨upd_same, SameX.upd⟩ (fun i H' _ h => (Same.ofX hD h.2).seq hS) ?_ ?_⟩
  · rintro i x H' hi ⟨h1, h2⟩
    rw [List.getElem?_map] at hi
    cases e : ns[i]? with
    | none => rw [e] at hi; cases hi
    | some u =>
      rw [e] at hi
      cases hi
      have hil := getq_lt e
      have mem : u ∈ ns := List.mem_of_getElem? e
      refine ⟨?_, ?_⟩
      · show ((((σ.set j none).set j (some (.int u))).set j none) = σ.set j none)
        rw [List.set_set, List.set_set]
      have e2 : ns.take (i + 1) = ns.take i ++ [u] := by
        rw [List.take_succ, e]
        rfl
      refine ht u mem H' (Same.ofX hD h2) _ ?_
      cases hp : p u with
      | false =>
        rw [if_neg Bool.false_ne_true]
        refine ⟨?_, h2⟩
        rw [e2, List.filter_append]
        simp only [List.filter, hp, List.append_nil]
        exact h1
      | true =>
        rw [if_pos rfl]
        refine he u mem hp H' (Same.ofX hD h2) _ ⟨_, h1, ?_, ?_, h2.upd'⟩
        · rw [List.length_map, List.length_map]
          have := List.length_filter_le p (ns.take i)
          rw [List.length_take] at this
          exact Nat.lt_of_lt_of_le (show _ < 100000 by omega) (by decide)
        · rw [e2, List.filter_append]
          simp only [List.filter, hp, List.map_append, List.map_cons, List.map_nil]
          exact upd_same
  · rintro H' ⟨h1, h2⟩
    rw [List.length_map, List.take_length] at h1
    exact hd D H' hD (Same.ofX hD h2) h1
/-- a comprehension over a list, its items new -/
theorem lc_lstN {K : PySem.W.Frag} {a : Addr} {xs : List V} {te tel : TE} {σ : L2.St} {H : Hp} {Q : VK} {j : Nat} (P : Nat → List V → Hp → Prop) (hte : ∀ R' : VK, R' (.ref a) H → te σ H R') (hS : SqL K H a xs) (hz : xs.length < 100000) (h0 : ∀ H', Same H H' → P 0 [] H')
    (hm : ∀ i vs H1 H2, Same H1 H2 → P i vs H1 → P i vs H2) (hw : ∀ D H1 H2 i vs, H D = none → SameX D H1 H2 → Same H H1 → (∃ acc, H1 D = some (.lst acc)) → P i vs H1 → P i vs H2)
    (hs : ∀ D i x vs H', xs[i]? = some x → Same H H' → P i vs H' → vs.length = i → H D = none → (∃ o, H' D = some o) → ∀ Qe : VK, (∀ v H'', Same H' H'' → P (i + 1) (vs ++ [v]) H'' → Qe v H'') → tel ((σ.set j none).set j (some x)) H' Qe)
    (hd : ∀ D vs H', H D = none → vs.length = xs.length → P xs.length vs H' → H' D = some (.lst vs) → Same H H' → Q (.ref D) H') : tLc (iList K te) (gName j) tYes tel [j] σ H Q := by
  refine hte _ ⟨a, rfl, ⟨_, hS⟩, fun D hD => lc_list (K := K) (a := a) (xs := xs) (fun i H' => ∃ vs : List V, vs.length = i ∧ P i vs H' ∧ H' D = some (.lst vs) ∧ SameX D H H') ⟨[], rfl, h0 _ (Same.new hD), upd_same, SameX.upd⟩ (fun i H' _ ⟨_, _, _, _, h⟩ => (Same.ofX hD h).seq hS) ?_ ?_⟩
  · rintro i x H' hi ⟨vs, hl, hr, h1, h2⟩
    refine ⟨?_, ?_⟩
    · show ((((σ.set j none).set j (some x)).set j none) = σ.set j none)
      rw [List.set_set, List.set_set]
    dsimp only [tYes]
    rw [if_pos rfl]
    have S0 := Same.ofX hD h2
    refine hs D i x vs H' hi S0 hr hl hD ⟨_, h1⟩ _ fun v H'' s2 r => ⟨vs, s2 _ _ h1, ?_, vs ++ [v], ?_, hw D H'' _ _ _ hD SameX.upd (S0.trans s2) ⟨vs, s2 _ _ h1⟩ r, upd_same, (h2.trans (SameX.of s2)).upd'⟩
    · have := getq_lt hi
      exact Nat.lt_of_lt_of_le (show vs.length < 100000 by omega) (by decide)
    · rw [List.length_append, hl]; rfl
  · rintro H' ⟨vs, hl, hr, h1, h2⟩
    exact hd D vs H' hD hl hr h1 (Same.ofX hD h2)
theorem all_rep (n : Nat) : (List.replicate n true).all id = true := by simp
theorem Same.ofX2 {H H1 H2 : Hp} {l : Addr} (hl : H l = none) (s1 : Same H H1) (s2 : SameX l H1 H2) : Same H H2 := fun b o e => s2 b o (ne_of_none e hl) (s1 b o e)
/-! ### own errors -/
abbrev sp_InvalidNumber_init_ (K : PySem.W.Frag) : Sp := sp_xinit K "number"
theorem ok_InvalidNumber_init_ (T : Txt K mg) : FnOk P w K mg base CX0 1 T.a_InvalidNumber_init_ T.fd_InvalidNumber_init_ ["self", "number"] (sp_InvalidNumber_init_ K) := by
  have S := sc_InvalidNumber_init_
  refine T.F_InvalidNumber_init_.ok S (fun vs H Q E h => ?_) (fun cdv A outer s H vs Q E hr h => ?_)
  · obtain ⟨a, C, v, rfl, _⟩ := h
    rfl
  · obtain ⟨a, C, v, rfl, O, hn, ha, k⟩ := h
    refine ⟨_, (pss_one (ps_ost (pv 0) (pv 1))), ?_⟩
    exact ⟨_, rfl, _, rfl, a, C, rfl, O, hn, .inl ⟨ha, k⟩⟩
abbrev sp_InvalidSetting_init_ (K : PySem.W.Frag) : Sp := sp_xinit K "setting"
theorem ok_InvalidSetting_init_ (T : Txt K mg) : FnOk P w K mg base CX0 1 T.a_InvalidSetting_init_ T.fd_InvalidSetting_init_ ["self", "setting"] (sp_InvalidSetting_init_ K) := by
  have S := sc_InvalidSetting_init_
  refine T.F_InvalidSetting_init_.ok S (fun vs H Q E h => ?_) (fun cdv A outer s H vs Q E hr h => ?_)
  · obtain ⟨a, C, v, rfl, _⟩ := h
    rfl
  · obtain ⟨a, C, v, rfl, O, hn, ha, k⟩ := h
    refine ⟨_, (pss_one (ps_ost (pv 0) (pv 1))), ?_⟩
    exact ⟨_, rfl, _, rfl, a, C, rfl, O, hn, .inl ⟨ha, k⟩⟩
/-- an error of the class at C with the one field f -/
def Err (C : Addr) (f : Str) (v : V) (H : Hp) (E : XK) : Prop := ∀ d H', Same H H' → H' d = some (.xd [(f, v)]) → E (.ref C) (some d) H'
/-- x lies not in lo .. hi -/
def Out (K : PySem.W.Frag) (H : Hp) (x : V) (lo hi : Int) : Prop := ∃ o, Kd K H x o ∧ inR lo hi o = false
theorem Out.same {K : PySem.W.Frag} {H H' : Hp} {x : V} {lo hi : Int} (h : Out K H x lo hi) (s : Same H H') : Out K H' x lo hi := h.elim fun o h => ⟨o, h.1.same s, h.2⟩
theorem Out.typ {K : PySem.W.Frag} {H H' : Hp} {x : V} {lo hi : Int} (h : Out K H x lo hi) (s : Typ H H') : Out K H' x lo hi := h.elim fun o h => ⟨o, h.1.typ s, h.2⟩
theorem Out.int {K : PySem.W.Frag} {H : Hp} {n lo hi : Int} (h : n < lo ∨ hi < n) : Out K H (.int n) lo hi := ⟨some n, rfl, by
  show (decide (lo ≤ n) && decide (n ≤ hi)) = false
  rcases h with h | h
  · rw [decide_eq_false (show ¬ lo ≤ n by omega)]; rfl
  · rw [decide_eq_false (show ¬ n ≤ hi by omega), Bool.and_false]⟩
theorem Out.odd {K : PySem.W.Frag} {H : Hp} {x : V} {lo hi : Int} (h : IntK K H x false) : Out K H x lo hi := ⟨none, h, rfl⟩
theorem out_between {K : PySem.W.Frag} {H : Hp} {Q : VK} {x : V} {lo hi : Int} {E : XK} (h : Out K H x lo hi) (q : Q (.bl false) H) : sp_is_between K [x, .int lo, .int hi] H Q E := by
  obtain ⟨o, h1, h2⟩ := h
  cases o with
  | none => exact ⟨x, lo, hi, rfl, .inr ⟨h1, q⟩⟩
  | some n => exact ⟨x, lo, hi, rfl, .inl ⟨n, h1, by rw [show (decide (lo ≤ n) && decide (n ≤ hi)) = false from h2]; exact q⟩⟩
theorem in_between {K : PySem.W.Frag} {H : Hp} {Q : VK} {n lo hi : Int} {E : XK} (h1 : lo ≤ n) (h2 : n ≤ hi) (q : Q (.bl true) H) : sp_is_between K [.int n, .int lo, .int hi] H Q E :=
  ⟨.int n, lo, hi, rfl, .inl ⟨n, rfl, by rw [decide_eq_true h1, decide_eq_true h2]; exact q⟩⟩
/-- x is no count -/
def Less (K : PySem.W.Frag) (H : Hp) (x : V) (lo : Int) : Prop := (∃ n, x = .int n ∧ n < lo) ∨ IntK K H x false
theorem Less.same {K : PySem.W.Frag} {H H' : Hp} {x : V} {lo : Int} (h : Less K H x lo) (s : Same H H') : Less K H' x lo := h.elim .inl fun h => .inr (h.same s)
/-- menus of a try: what is caught, and what e is -/
theorem errX {K : PySem.W.Frag} {a D dd : Addr} {fs : List (Str × V)} {c : V} {cv : Value} {b : Bool} {H : Hp} {Q : VK} (hcv : ∀ u, RelV c u → u = cv) (ec : ExcC K D) (hd : H dd = some (.xd fs)) (hk : PySem.W.kitOne K (.ref D) cv = some b) (q : Q (.bl b) H) : rIsX K a (.ref D) (some dd) [.ref a, c] H Q := ⟨c, cv, b, D, dd, fs, rfl, hcv, rfl, ec, rfl, hd, hk, q⟩
theorem errF {K : PySem.W.Frag} {a C dd : Addr} {f : Str} {fs : List (Str × V)} {v : V} {H : Hp} {P : V → Prop} (T : XfC K C) (hn : PySem.W.findIn K (.ref C) f = some none) (hd : H dd = some (.xd fs)) (e : fs.lookup f = some v) (q : P v) :
    V.ref a = V.ref a ∧ ∃ (C' dd' : Addr) (fs : List (Str × V)) (v : V), Value.ref C = .ref C' ∧ XfC K C' ∧ PySem.W.findIn K (.ref C') f = some none ∧ some dd = some dd' ∧ H dd' = some (.xd fs) ∧ fs.lookup f = some v ∧ P v := ⟨rfl, C, dd, fs, v, rfl, T, hn, rfl, hd, e, q⟩
section
variable {K : PySem.W.Frag} {σ : L2.St} {H : Hp} {Q : VK} {v : V} {te : TE} {D : Ends} {i : Nat}
theorem x_xg {a : Addr} {cls : Value} {d : Option Addr} {f : Str} (q : te σ H fun x H1 => x = .ref a ∧ ∃ (C dd : Addr) (fs : List (Str × V)) (v : V), cls = .ref C ∧ XfC K C ∧ PySem.W.findIn K (.ref C) f = some none ∧ d = some dd ∧ H1 dd = some (.xd fs) ∧ fs.lookup f = some v ∧ Q v H1) : tXg K a cls d f te σ H Q := q
theorem x_clgo {a : Addr} {ts : TS} (q : ts (unN D i) (σ.set i (some (.ref a))) H) : clGo D (some i) ts a σ H := q
theorem x_methX {C : Addr} {m : Str} {sp : Sp} {E : L2.St → XK} {ta : TE} {t : TA} (q : ta σ H fun x H1 => ∃ a dx fs, x = .ref a ∧ H1 a = some (.ins C dx fs) ∧ fs.lookup m = none ∧ t σ H1 fun vs H2 => sp (x :: vs) H2 Q (E σ)) : tMethX C m sp E ta t σ H Q := q
theorem x_unrt (q : D.rt v H) : (unN D i).rt v H := q
theorem x_unnx (q : D.nx (σ.set i none) H) : (unN D i).nx σ H := q
end
theorem len2 {α : Type} {l : List α} (h : l.length = 2) : ∃ a b, l = [a, b] := by
  match l, h with
  | [a, b], _ => exact ⟨a, b, rfl⟩
theorem len4 {α : Type} {l : List α} (h : l.length = 4) : ∃ a b c d, l = [a, b, c, d] := by
  match l, h with
  | [a, b, c, d], _ => exact ⟨a, b, c, d, rfl⟩
local macro_rules
  | `(tactic| w_up) => `(tactic| first | with_reducible refine x_clgo ?_ | with_reducible refine x_methX ?_ | with_reducible refine x_xg ?_ | with_reducible refine x_unrt ?_ | with_reducible refine x_unnx ?_)
/-! ### is it a sequence -/
def sp_is_sequence (K : PySem.W.Frag) : Sp := fun vs H Q _ => ∃ (x : V) (r : Bool), vs = [x] ∧ SeqK K H x r ∧ ∀ H', Same H H' → Q (.bl r) H'
theorem ok_is_sequence (T : Txt K mg) : FnOk P w K mg base CX0 1 T.a_is_sequence T.fd_is_sequence ["value"] (sp_is_sequence K) := by
  have S := sc_is_sequence
  refine T.F_is_sequence.ok S (fun vs H Q E h => ?_) (fun cdv A outer s H vs Q E hr h => ?_)
  · obtain ⟨x, r, rfl, _⟩ := h
    rfl
  · obtain ⟨x, r, rfl, ⟨t, ty, hk⟩, k⟩ := h
    refine ⟨_, (pss_one (ps_ret (pe_callB (id := "isinstance") call_isiT (by rfl) T.b_isinstance (by decide +kernel) (pa_cons (pv 0) (pa_cons (pe_tup (pa_cons (pe_bltn (v := .ty "list") (u := .type "list") (by rfl) T.b_list (by decide +kernel) rfl) (pa_cons (pe_bltn (v := .ty "tuple") (u := .type "tuple") (by rfl) T.b_tuple (by decide +kernel) rfl) pa_nil))) pa_nil))))), ?_⟩
    refine ⟨_, rfl, (by show 2 ≤ sizeLine; decide), fun tp htp => ?_⟩
    exact ⟨_, tp, _, t, [.type "list", .type "tuple"], r, rfl, upd_same, .cons (.ty _) (.cons (.ty _) .nil), tyX_same ty (Same.new htp), hk, k _ (Same.new htp)⟩
def sp_is_at_least (K : PySem.W.Frag) : Sp := fun vs H Q _ => ∃ (x : V) (lo : Int), vs = [x, .int lo] ∧ ((∃ n, x = .int n ∧ lo ≤ n ∧ Q (.bl true) H) ∨ (Less K H x lo ∧ Q (.bl false) H))
theorem ok_is_at_least (T : Txt K mg) : FnOk P w K mg base CX0 2 T.a_is_at_least T.fd_is_at_least ["value", "low"] (sp_is_at_least K) := by
  have S := sc_is_at_least
  refine T.F_is_at_least.ok S (fun vs H Q E h => ?_) (fun cdv A outer s H vs Q E hr h => ?_)
  · obtain ⟨x, lo, rfl, _⟩ := h
    rfl
  · obtain ⟨x, lo, rfl, h⟩ := h
    refine ⟨_, (pss_one (ps_ret (pe_and (pe_call (ok_is_integer T) (hr.mono (by decide)) rfl T.g_is_integer T.F_is_integer.kp T.B_is_integer .nil pass0 (pa_cons (pv 0) pa_nil)) (pe_one (pe_cmpR op_le (pv 1) (pv 0) (nomark _)))))), ?_⟩
    refine st_is_at_least ?_
    o_args
    rcases h with ⟨n, rfl, hn, k⟩ | ⟨⟨n, rfl, hn⟩ | hk, k⟩
    · refine ⟨_, true, rfl, intK_int n, ?_⟩
      o_args
      rw [decide_eq_true hn]
      exact k
    · refine ⟨_, true, rfl, intK_int n, ?_⟩
      o_args
      rw [decide_eq_false (show ¬ lo ≤ n by omega)]
      exact k
    · refine ⟨_, false, rfl, hk, ?_⟩
      o_args
      exact k
/-! ### comprehensions, any -/
theorem lcG {K : PySem.W.Frag} {a : Addr} {xs : List V} {te tel : TE} {tt : TT} {σ : L2.St} {H : Hp} {Q : VK} {j : Nat} (P : Addr → Nat → List V → Hp → Prop) (hte : ∀ R' : VK, R' (.ref a) H → te σ H R') (hS : SqL K H a xs) (hz : xs.length < 100000)
    (h0 : ∀ D, H D = none → P D 0 [] (upd H D (.lst []))) (hsq : ∀ D i vs H', H D = none → P D i vs H' → SqL K H' a xs)
    (hs : ∀ D i x vs H', H D = none → xs[i]? = some x → vs.length ≤ i → H' D = some (.lst vs) → P D i vs H' → ∀ (Y : VK) (N : Hp → Prop), (∀ v H3, H3 D = some (.lst vs) → P D (i + 1) (vs ++ [v]) (upd H3 D (.lst (vs ++ [v]))) → Y v H3) → (∀ H3, H3 D = some (.lst vs) → P D (i + 1) vs H3 → N H3) →
      tt ((σ.set j none).set j (some x)) H' fun b H2 => if b = true then tel ((σ.set j none).set j (some x)) H2 Y else N H2)
    (hd : ∀ D vs H', H D = none → H' D = some (.lst vs) → vs.length ≤ xs.length → P D xs.length vs H' → Q (.ref D) H') : tLc (iList K te) (gName j) tt tel [j] σ H Q := by
  refine hte _ ⟨a, rfl, ⟨_, hS⟩, fun D hD => lc_list (K := K) (a := a) (xs := xs) (fun i H' => ∃ vs : List V, vs.length ≤ i ∧ P D i vs H' ∧ H' D = some (.lst vs)) ⟨[], Nat.le_refl _, h0 D hD, upd_same⟩ (fun i H' _ ⟨vs, _, h, _⟩ => hsq D i vs H' hD h) ?_ ?_⟩
  · rintro i x H' hi ⟨vs, hl, hp, h1⟩
    have il := (List.getElem?_eq_some_iff.mp hi).1
    refine ⟨?_, ?_⟩
    · show ((((σ.set j none).set j (some x)).set j none) = σ.set j none)
      rw [List.set_set, List.set_set]
    refine hs D i x vs H' hD hi hl h1 hp _ _ (fun v H3 e p => ⟨vs, e, Nat.lt_of_lt_of_le (show vs.length < 100000 by omega) (by decide), vs ++ [v], ?_, p, upd_same⟩) (fun H3 e p => ⟨vs, by omega, p, e⟩)
    rw [List.length_append]
    exact Nat.succ_le_succ hl
  · rintro H' ⟨vs, hl, hp, h1⟩
    exact hd D vs H' hD h1 hl hp
theorem lcGT {K : PySem.W.Frag} {a : Addr} {xs : List V} {te tel : TE} {tt : TT} {σ : L2.St} {H : Hp} {Q : VK} {j : Nat} (P : Addr → Nat → List V → Hp → Prop) (hte : ∀ R' : VK, R' (.ref a) H → te σ H R') (hS : SqT K H a xs) (hz : xs.length < 100000)
    (h0 : ∀ D, H D = none → P D 0 [] (upd H D (.lst []))) (hsq : ∀ D i vs H', H D = none → P D i vs H' → SqT K H' a xs)
    (hs : ∀ D i x vs H', H D = none → xs[i]? = some x → vs.length ≤ i → H' D = some (.lst vs) → P D i vs H' → ∀ (Y : VK) (N : Hp → Prop), (∀ v H3, H3 D = some (.lst vs) → P D (i + 1) (vs ++ [v]) (upd H3 D (.lst (vs ++ [v]))) → Y v H3) → (∀ H3, H3 D = some (.lst vs) → P D (i + 1) vs H3 → N H3) →
      tt ((σ.set j none).set j (some x)) H' fun b H2 => if b = true then tel ((σ.set j none).set j (some x)) H2 Y else N H2)
    (hd : ∀ D vs H', H D = none → H' D = some (.lst vs) → vs.length ≤ xs.length → P D xs.length vs H' → Q (.ref D) H') : tLc (iTup K te) (gName j) tt tel [j] σ H Q := by
  refine hte _ ⟨a, rfl, ⟨_, hS⟩, fun D hD => lc_tup (K := K) (a := a) (xs := xs) (fun i H' => ∃ vs : List V, vs.length ≤ i ∧ P D i vs H' ∧ H' D = some (.lst vs)) ⟨[], Nat.le_refl _, h0 D hD, upd_same⟩ (fun i H' _ ⟨vs, _, h, _⟩ => hsq D i vs H' hD h) ?_ ?_⟩
  · rintro i x H' hi ⟨vs, hl, hp, h1⟩
    have il := (List.getElem?_eq_some_iff.mp hi).1
    refine ⟨?_, ?_⟩
    · show ((((σ.set j none).set j (some x)).set j none) = σ.set j none)
      rw [List.set_set, List.set_set]
    refine hs D i x vs H' hD hi hl h1 hp _ _ (fun v H3 e p => ⟨vs, e, Nat.lt_of_lt_of_le (show vs.length < 100000 by omega) (by decide), vs ++ [v], ?_, p, upd_same⟩) (fun H3 e p => ⟨vs, by omega, p, e⟩)
    rw [List.length_append]
    exact Nat.succ_le_succ hl
  · rintro H' ⟨vs, hl, hp, h1⟩
    exact hd D vs H' hD h1 hl hp
/-! ### a list or a tuple, walked and read -/
def iOr (w1 w2 : TI) : TI := fun σ H R => w1 σ H R ∨ w2 σ H R
theorem pi_seqA {X : Cx} {tg e : Expr} {te : TE} (he : PE X e te) : PI X tg e (iOr (iList X.K te) (iTup X.K te)) := ⟨fun pins s σ H R I h => h.elim ((pi_list he).run pins s σ H R I) ((pi_tup he).run pins s σ H R I)⟩
theorem ix_seqA {K : PySem.W.Frag} {H : Hp} {Q : VK} {a : Addr} {xs : List V} {i : Int} {v : V} (h : SeqA K H a xs) (hi : atI xs i = some v) (q : Q v H) : rIx K (.ref a) (.int i) H Q :=
  h.elim (fun h => .inl ⟨_, _, _, _, rfl, rfl, h, hi, q⟩) (fun h => .inr (.inl ⟨_, _, _, _, rfl, rfl, h, hi, q⟩))
theorem sqT_at {K : PySem.W.Frag} {H H' : Hp} {a : Addr} {xs : List V} (h : SqT K H a xs) (k : ∀ o, H a = some o → H' a = some o) : SqT K H' a xs := by
  rcases h with (h | ⟨o, h⟩) | h
  · exact .inl (.inl (k _ h))
  · exact .inl (.inr ⟨o, k _ h⟩)
  · exact .inr h
theorem sqL_at {K : PySem.W.Frag} {H H' : Hp} {a : Addr} {xs : List V} (h : SqL K H a xs) (k : ∀ o, H a = some o → H' a = some o) : SqL K H' a xs := by
  rcases h with (h | ⟨o, h⟩) | h
  · exact .inl (.inl (k _ h))
  · exact .inl (.inr ⟨o, k _ h⟩)
  · exact .inr h
theorem lcGA {K : PySem.W.Frag} {a : Addr} {xs : List V} {te tel : TE} {tt : TT} {σ : L2.St} {H : Hp} {Q : VK} {j : Nat} (P : Addr → Nat → List V → Hp → Prop) (hte : ∀ R' : VK, R' (.ref a) H → te σ H R') (hS : SeqA K H a xs) (hz : xs.length < 100000)
    (h0 : ∀ D, H D = none → P D 0 [] (upd H D (.lst []))) (hk : ∀ D i vs H', H D = none → P D i vs H' → ∀ o, H a = some o → H' a = some o)
    (hs : ∀ D i x vs H', H D = none → xs[i]? = some x → vs.length ≤ i → H' D = some (.lst vs) → P D i vs H' → ∀ (Y : VK) (N : Hp → Prop), (∀ v H3, H3 D = some (.lst vs) → P D (i + 1) (vs ++ [v]) (upd H3 D (.lst (vs ++ [v]))) → Y v H3) → (∀ H3, H3 D = some (.lst vs) → P D (i + 1) vs H3 → N H3) →
      tt ((σ.set j none).set j (some x)) H' fun b H2 => if b = true then tel ((σ.set j none).set j (some x)) H2 Y else N H2)
    (hd : ∀ D vs H', H D = none → H' D = some (.lst vs) → vs.length ≤ xs.length → P D xs.length vs H' → Q (.ref D) H') : tLc (iOr (iList K te) (iTup K te)) (gName j) tt tel [j] σ H Q :=
  hS.elim (fun h => .inl (lcG P hte h hz h0 (fun D i vs H' hD p => sqL_at h (hk D i vs H' hD p)) hs hd)) fun h => .inr (lcGT P hte h hz h0 (fun D i vs H' hD p => sqT_at h (hk D i vs H' hD p)) hs hd)
/-! ### frames: all but what is named stands, nothing goes -/
def Ch (G : List Addr) (H H' : Hp) : Prop := (∀ b o, b ∉ G → H b = some o → H' b = some o) ∧ ∀ b, H b ≠ none → H' b ≠ none
def Al (F : List Addr) (H : Hp) : Prop := ∀ x ∈ F, H x ≠ none
section
variable {G F : List Addr} {H H1 H2 : Hp} {a l : Addr} {o : HO}
theorem Ch.refl : Ch G H H := ⟨fun _ _ _ h => h, fun _ h => h⟩
theorem Ch.trans (x : Ch G H H1) (y : Ch G H1 H2) : Ch G H H2 := ⟨fun b o n h => y.1 b o n (x.1 b o n h), fun b h => y.2 b (x.2 b h)⟩
theorem Ch.of (s : Same H H1) : Ch G H H1 := ⟨fun b o _ h => s b o h, fun b h => by
  cases q : H b with
  | none => exact absurd q h
  | some o => rw [s _ _ q]; exact fun z => nomatch z⟩
theorem Ch.ofX (h : a ∈ G) (s : SameX a H H1) (e : H1 a = some o) : Ch G H H1 := ⟨fun b o n q => s b o (fun z => n (z ▸ h)) q, fun b q => by
  by_cases z : b = a
  · rw [z, e]; exact fun z => nomatch z
  · cases q' : H b with
    | none => exact absurd q' q
    | some o => rw [s _ _ z q']; exact fun z => nomatch z⟩
theorem Ch.more (x : Ch G H H1) (h : ∀ b ∈ G, b ∈ F) : Ch F H H1 := ⟨fun b o n q => x.1 b o (fun z => n (h b z)) q, x.2⟩
/-- what is new may change -/
theorem Ch.drop (x : Ch (l :: G) H H1) (h : H l = none) : Ch G H H1 := ⟨fun b o n q => x.1 b o (fun z => by
  rcases List.mem_cons.mp z with z | z
  · rw [z, h] at q; cases q
  · exact n z) q, x.2⟩
theorem Ch.same (x : Ch [] H H1) : Same H H1 := fun b o h => x.1 b o (fun z => nomatch z) h
theorem Ch.sameX (x : Ch [a] H H1) : SameX a H H1 := fun b o n h => x.1 b o (fun z => n (List.mem_singleton.mp z)) h
theorem Ch.at (x : Ch G H H1) (n : a ∉ G) (h : H a = some o) : H1 a = some o := x.1 a o n h
theorem Ch.none (x : Ch G H H1) (h : H1 a = none) : H a = none := by
  cases q : H a with
  | none => rfl
  | some o => exact absurd h (x.2 a (by rw [q]; exact fun z => nomatch z))
theorem Al.ch (A : Al F H) (x : Ch G H H1) : Al F H1 := fun b h => x.2 b (A b h)
theorem Al.same (A : Al F H) (x : Same H H1) : Al F H1 := A.ch (Ch.of (G := []) x)
theorem Al.nil : Al [] H := fun _ h => nomatch h
theorem Al.cons (h : H a = some o) (A : Al F H) : Al (a :: F) H := fun b hb => by
  rcases List.mem_cons.mp hb with e | hb
  · rw [e, h]; exact fun z => nomatch z
  · exact A b hb
theorem Al.less (A : Al F H) (h : ∀ b ∈ G, b ∈ F) : Al G H := fun b q => A b (h b q)
theorem Al.new (A : Al F H) (h : H l = none) : l ∉ F := fun z => A l z h
theorem Al.one (h : H a = some o) : Al [a] H := .cons h .nil
end
/-! ### a box of five, drawn from -/
def Box (a : Addr) (F : List Addr) (H : Hp) : Prop := ∃ (c : Addr) (cs : List Int) (p r s n : Int), H a = some (.lst [.ref c, .int p, .int r, .int s, .int n]) ∧ H c = some (.lst (cs.map V.int)) ∧ a ∉ F ∧ c ∉ F ∧ 0 ≤ p ∧ 0 ≤ r
section
variable {a l : Addr} {F G : List Addr} {H H' : Hp}
theorem Box.ch (B : Box a F H) (x : Ch G H H') (h : ∀ b ∈ G, b ∈ F) : Box a F H' := by
  obtain ⟨c, cs, p, r, s, n, h1, h2, h3, h4, h5, h6⟩ := B
  exact ⟨c, cs, p, r, s, n, x.at (fun z => h3 (h _ z)) h1, x.at (fun z => h4 (h _ z)) h2, h3, h4, h5, h6⟩
theorem Box.same (B : Box a F H) (s : Same H H') : Box a F H' := B.ch (Ch.of (G := []) s) (fun _ h => nomatch h)
theorem Box.own (B : Box a F H) (hl : H l = none) (s : Same H H') : Box a (l :: F) H' := by
  obtain ⟨c, cs, p, r, z, n, h1, h2, h3, h4, h5, h6⟩ := B
  refine ⟨c, cs, p, r, z, n, s _ _ h1, s _ _ h2, fun q => ?_, fun q => ?_, h5, h6⟩
  · rcases List.mem_cons.mp q with q | q
    · rw [q, hl] at h1; cases h1
    · exact h3 q
  · rcases List.mem_cons.mp q with q | q
    · rw [q, hl] at h2; cases h2
    · exact h4 q
theorem Box.less (B : Box a F H) (h : ∀ b ∈ G, b ∈ F) : Box a G H := by
  obtain ⟨c, cs, p, r, z, n, h1, h2, h3, h4, h5, h6⟩ := B
  exact ⟨c, cs, p, r, z, n, h1, h2, fun q => h3 (h _ q), fun q => h4 (h _ q), h5, h6⟩
theorem Box.al (B : Box a F H) : ∃ o, H a = some o := by
  obtain ⟨c, cs, p, r, z, n, h1, _⟩ := B
  exact ⟨_, h1⟩
theorem Box.nin (B : Box a F H) : a ∉ F := by
  obtain ⟨c, cs, p, r, z, n, _, _, h, _⟩ := B
  exact h
end
def sp__law_box (K : PySem.W.Frag) : Sp := fun vs H Q _ => ∃ (a : Addr) (ns : List Int), vs = [.ref a] ∧ SqL K H a (ns.map V.int) ∧ ∀ b H', H b = none → Same H H' → (∀ F, Al F H → Box b F H') → Q (.ref b) H'
theorem ok__law_box (T : Txt K mg) : FnOk P w K mg base CX0 1 T.a__law_box T.fd__law_box ["script"] (sp__law_box K) := by
  have S := sc__law_box
  refine T.F__law_box.ok S (fun vs H Q E h => ?_) (fun cdv A outer s H vs Q E hr h => ?_)
  · obtain ⟨a, ns, rfl, _⟩ := h
    rfl
  · obtain ⟨a, ns, rfl, hS, k⟩ := h
    refine ⟨_, (pss_one (ps_ret (pe_lst (pa_cons (pe_callTy (T := "list") (call_listK (K := K) rfl) (by rfl) T.b_list (by decide +kernel) (pa_cons (pv 0) pa_nil)) (pa_cons pe_int (pa_cons pe_int (pa_cons pe_int (pa_cons pe_int pa_nil)))))))), ?_⟩
    refine st__law_box ?_
    o_args
    refine listOf (.inl hS) fun c H1 nc s1 h1 => ?_
    o_args
    refine newList (by simp) fun b H2 nb s2 h2 => ?_
    have bH : H b = none := none_of s1 nb
    o_args
    refine k b H2 bH (s1.trans s2) fun F A => ⟨c, ns, _, _, _, _, h2, s2 _ _ h1, A.new bH, A.new nc, by decide, by decide⟩
def sp__law_draw : Sp := fun vs H Q _ => ∃ (a : Addr) (F : List Addr) (m : Int), vs = [.ref a, .int m] ∧ Box a F H ∧ 0 < m ∧ m < 2 ^ 62 ∧ ∀ d H', 0 ≤ d → d < m → Box a F H' → Ch [a] H H' → Q (.int d) H'
theorem ok__law_draw (T : Txt K mg) : FnOk P w K mg base CX0 1 T.a__law_draw T.fd__law_draw ["box", "size"] (sp__law_draw) := by
  have S := sc__law_draw
  refine T.F__law_draw.ok S (fun vs H Q E h => ?_) (fun cdv A outer s H vs Q E hr h => ?_)
  · obtain ⟨a, F, m, rfl, _⟩ := h
    rfl
  · obtain ⟨a, F, m, rfl, ⟨c, cs, p, r, s, n, hA, hC, nA, nC, p0, r0⟩, m0, m1, k⟩ := h
    have m0' : m ≠ 0 := by omega
    have ca : c ≠ a := ne_of hC hA (fun e => by
      injection e with e
      cases cs with
      | nil => cases e
      | cons x r => injection e with e1 _; cases e1)
    refine ⟨_, (pss_cons (ps_asg (pe_op op_add (pe_ix ix_list (pv 0) pe_int (fun _ _ => rfl)) pe_int) (pg_sub (pv 0) pe_int set_list))
      (C8.pss_cut (ps_if (PW.pt (pw_and (pt_cmpR op_eq (pe_ix ix_list (pv 0) pe_int (fun _ _ => rfl)) pe_int (nomark _)) (pw_and1 (pt_cmpR op_lt (pe_ix ix_list (pv 0) pe_int (fun _ _ => rfl)) (pe_callB (id := "len") (call_lenK (K := K) rfl) (by rfl) T.b_len (by decide +kernel) (pa_cons (pe_ix ix_list (pv 0) pe_int (fun _ _ => rfl)) pa_nil)) (nomark _))))) (pss_cons (ps_set (i := 2) S.nd rfl (Or.inl rfl) (pe_ix ix_list (pe_ix ix_list (pv 0) pe_int (fun _ _ => rfl)) (pe_ix ix_list (pv 0) pe_int (fun _ _ => rfl)) (fun _ _ => rfl)))
      (pss_cons (ps_asg (pe_op op_add (pe_ix ix_list (pv 0) pe_int (fun _ _ => rfl)) pe_int) (pg_sub (pv 0) pe_int set_list))
      (pss_one (ps_if (pt_cmpR op_ge (pe_callB (id := "abs") call_absK (by rfl) T.b_abs (by decide +kernel) (pa_cons (pv 2) pa_nil)) (pe_op op_pow pe_int pe_int) (nomark _)) (pss_one (ps_asg (pe_callB (id := "abs") call_absK (by rfl) T.b_abs (by decide +kernel) (pa_cons (pv 2) pa_nil)) (pg_sub (pv 0) pe_int set_list))) (pss_one (ps_asg (pe_op op_mod (pe_callTy (T := "int") call_int1 (by rfl) T.b_int (by decide +kernel) (pa_cons (pe_op op_add (pe_op op_add (pe_op op_mul (pe_ix ix_list (pv 0) pe_int (fun _ _ => rfl)) pe_int) (pe_op op_mul (pv 2) pe_int)) (pe_ix ix_list (pv 0) pe_int (fun _ _ => rfl))) pa_nil)) pe_int) (pg_sub (pv 0) pe_int set_list))))))) pss_nil)
      (pss_cons (ps_if (pt_cmpR op_gt (pe_ix ix_list (pv 0) pe_int (fun _ _ => rfl)) pe_int (nomark _)) (pss_cons (ps_set (i := 3) S.nd rfl (Or.inl rfl) (pe_op op_mod (pe_callTy (T := "int") call_int1 (by rfl) T.b_int (by decide +kernel) (pa_cons (pe_ix ix_list (pv 0) pe_int (fun _ _ => rfl)) pa_nil)) (pv 1)))
      (pss_cons (ps_asg (pe_op op_fdivW (pe_ix ix_list (pv 0) pe_int (fun _ _ => rfl)) (pv 1)) (pg_sub (pv 0) pe_int set_list))
      (pss_one (ps_ret (pv 3))))) pss_nil)
      (pss_cons (ps_asg (pe_op op_mod (pe_callTy (T := "int") call_int1 (by rfl) T.b_int (by decide +kernel) (pa_cons (pe_op op_mul (pe_ix ix_list (pv 0) pe_int (fun _ _ => rfl)) pe_int) pa_nil)) pe_int) (pg_sub (pv 0) pe_int set_list))
      (pss_cons (ps_set (i := 4) S.nd rfl (Or.inl rfl) (pe_op op_mod (pe_callTy (T := "int") call_int1 (by rfl) T.b_int (by decide +kernel) (pa_cons (pe_op op_mul (pe_ix ix_list (pv 0) pe_int (fun _ _ => rfl)) pe_int) pa_nil)) pe_int))
      (pss_one (ps_ret (pe_op op_mod (pe_callTy (T := "int") call_int1 (by rfl) T.b_int (by decide +kernel) (pa_cons (pe_op op_add (pe_op op_add (pe_op op_fdiv (pv 4) pe_int) (pe_ix ix_list (pv 0) pe_int (fun _ _ => rfl))) (pe_op op_fdiv (pe_ix ix_list (pv 0) pe_int (fun _ _ => rfl)) pe_int)) pa_nil)) (pv 1))))))))), ?_⟩
    refine st__law_draw ?_
    o_args
    refine setL (i := 4) hA (by simp) fun H1 s1 h1 => ?_
    have h1 : H1 a = some (.lst [.ref c, .int p, .int r, .int s, .int (n + 1)]) := h1
    have c1 := s1 _ _ ca hC
    refine ⟨fun σ H' => ∃ v p' r' s', σ = [some (.ref a), some (.int m), v, none, none] ∧ H' a = some (.lst [.ref c, .int p', .int r', .int s', .int (n + 1)]) ∧ SameX a H1 H' ∧ 0 ≤ p' ∧ 0 ≤ r', ?_, ?_⟩
    · o_args
      refine brD (fun q => ?_) (fun q => ?_)
      · o_args
        refine lenA (.inl (SqL.of c1)) ?_
        o_args
        refine brD (fun q2 => ?_) (fun q2 => ?_)
        · obtain ⟨pn, rfl⟩ : ∃ pn : Nat, p = pn := ⟨p.toNat, by omega⟩
          have q3 : pn < (cs.map V.int).length := by omega
          rw [List.length_map] at q3
          o_args
          refine ixL c1 (show (cs.map V.int)[pn]? = some (.int cs[pn]) by rw [List.getElem?_map, List.getElem?_eq_getElem q3]; rfl) ?_
          generalize cs[pn] = cell
          o_args
          refine setL (i := 1) h1 (by simp) fun H2 s2 h2 => ?_
          have h2 : H2 a = some (.lst [.ref c, .int ((pn : Int) + 1), .int r, .int s, .int (n + 1)]) := h2
          have e18 : (10 : Int) ^ Int.toNat 18 = 1000000000000000000 := rfl
          o_args
          refine brD (fun q4 => ?_) (fun q4 => ?_)
          · rw [e18] at q4
            o_args
            refine setL (i := 2) h2 (by simp) fun H3 s3 h3 => ?_
            o_args
            exact ⟨_, _, _, _, rfl, h3, s2.trans s3, by omega, by omega⟩
          · o_args
            refine setL (i := 3) h2 (by simp) fun H3 s3 h3 => ?_
            o_args
            exact ⟨_, _, _, _, rfl, h3, s2.trans s3, by omega, by omega⟩
        · o_args
          exact ⟨_, _, _, _, rfl, h1, SameX.refl, p0, r0⟩
      · o_args
        exact ⟨_, _, _, _, rfl, h1, SameX.refl, p0, r0⟩
    · rintro σ H2 ⟨v, p', r', s', rfl, h2, s2, p1, r1⟩
      have fin : ∀ {r'' s'' H3}, H3 a = some (.lst [.ref c, .int p', .int r'', .int s'', .int (n + 1)]) → SameX a H2 H3 → 0 ≤ r'' → Box a F H3 ∧ Ch [a] H H3 := fun h3 s3 r3 => by
        have S := (s1.trans s2).trans s3
        exact ⟨⟨c, cs, p', _, _, n + 1, h3, S _ _ ca hC, nA, nC, p1, r3⟩, Ch.ofX List.mem_cons_self S h3⟩
      o_args
      refine brD (fun q => ?_) (fun q => ?_)
      · o_args
        refine ⟨_, _, rfl, rfl, m0, ?_⟩
        o_args
        refine x_divW m0 m1 ?_
        o_args
        refine setL (i := 2) h2 (by simp) fun H3 s3 h3 => ?_
        o_args
        obtain ⟨B3, C3⟩ := fin h3 s3 (Int.ediv_nonneg r1 (by omega))
        exact k _ _ (Int.emod_nonneg _ m0') (Int.emod_lt_of_pos _ m0) B3 C3
      · o_args
        refine setL (i := 3) h2 (by simp) fun H3 s3 h3 => ?_
        have h3 : H3 a = some (.lst [.ref c, .int p', .int r', .int (s' * 48271 % 2147483647), .int (n + 1)]) := h3
        o_args
        refine ⟨_, _, rfl, rfl, m0, ?_⟩
        o_args
        obtain ⟨B3, C3⟩ := fin h3 s3 r1
        exact k _ _ (Int.emod_nonneg _ m0') (Int.emod_lt_of_pos _ m0) B3 C3
/-! ### runs -/
abbrev Run := Int × Int
def Mem (o : Int) (rs : List Run) : Prop := ∃ r ∈ rs, r.1 ≤ o ∧ o < r.2
def Nrm (rs : List Run) : Prop := (∀ r ∈ rs, r.1 < r.2) ∧ rs.Pairwise fun a b => a.2 < b.1
theorem Mem.nil {o : Int} : ¬ Mem o [] := fun ⟨_, h, _⟩ => nomatch h
theorem Mem.cons {o : Int} {r : Run} {rs : List Run} : Mem o (r :: rs) ↔ (r.1 ≤ o ∧ o < r.2) ∨ Mem o rs := by
  constructor
  · rintro ⟨q, h, c⟩
    rcases List.mem_cons.mp h with rfl | h
    · exact .inl c
    · exact .inr ⟨q, h, c⟩
  · rintro (c | ⟨q, h, c⟩)
    · exact ⟨r, List.mem_cons_self, c⟩
    · exact ⟨q, List.mem_cons_of_mem _ h, c⟩
theorem Mem.app {o : Int} {rs qs : List Run} : Mem o (rs ++ qs) ↔ Mem o rs ∨ Mem o qs := by
  constructor
  · rintro ⟨q, h, c⟩
    rcases List.mem_append.mp h with h | h
    · exact .inl ⟨q, h, c⟩
    · exact .inr ⟨q, h, c⟩
  · rintro (⟨q, h, c⟩ | ⟨q, h, c⟩)
    · exact ⟨q, List.mem_append_left _ h, c⟩
    · exact ⟨q, List.mem_append_right _ h, c⟩
theorem Mem.one {o : Int} {r : Run} : Mem o [r] ↔ (r.1 ≤ o ∧ o < r.2) := by
  rw [Mem.cons]
  exact ⟨fun h => h.elim id fun h => absurd h Mem.nil, .inl⟩
theorem Nrm.nil : Nrm [] := ⟨fun _ h => (nomatch h), List.Pairwise.nil⟩
theorem Nrm.cons {r : Run} {rs : List Run} : Nrm (r :: rs) ↔ r.1 < r.2 ∧ (∀ q ∈ rs, r.2 < q.1) ∧ Nrm rs := by
  unfold Nrm
  rw [List.pairwise_cons]
  constructor
  · rintro ⟨h1, h2, h3⟩
    exact ⟨h1 r List.mem_cons_self, h2, fun q hq => h1 q (List.mem_cons_of_mem _ hq), h3⟩
  · rintro ⟨h1, h2, h3, h4⟩
    refine ⟨fun q hq => ?_, h2, h4⟩
    rcases List.mem_cons.mp hq with rfl | hq
    · exact h1
    · exact h3 q hq
theorem Nrm.snoc {r : Run} {rs : List Run} : Nrm (rs ++ [r]) ↔ Nrm rs ∧ r.1 < r.2 ∧ (∀ q ∈ rs, q.2 < r.1) := by
  unfold Nrm
  rw [List.pairwise_append]
  constructor
  · rintro ⟨h1, h2, _, h4⟩
    exact ⟨⟨fun q hq => h1 q (List.mem_append_left _ hq), h2⟩, h1 r (by simp), fun q hq => h4 q hq r (by simp)⟩
  · rintro ⟨⟨h1, h2⟩, h3, h4⟩
    refine ⟨fun q hq => ?_, h2, by simp, fun q hq q' hq' => ?_⟩
    · rcases List.mem_append.mp hq with hq | hq
      · exact h1 q hq
      · rw [List.mem_singleton] at hq; rw [hq]; exact h3
    · rw [List.mem_singleton] at hq'; rw [hq']; exact h4 q hq
/-- two such lists with the same offsets are one -/
theorem Nrm.uniq : ∀ {rs qs : List Run}, Nrm rs → Nrm qs → (∀ o, Mem o rs ↔ Mem o qs) → rs = qs
  | [], [], _, _, _ => rfl
  | [], q :: qs, _, n, h => absurd ((h q.1).mpr ⟨q, List.mem_cons_self, Int.le_refl _, (Nrm.cons.mp n).1⟩) Mem.nil
  | r :: rs, [], n, _, h => absurd ((h r.1).mp ⟨r, List.mem_cons_self, Int.le_refl _, (Nrm.cons.mp n).1⟩) Mem.nil
  | r :: rs, q :: qs, n, m, h => by
    obtain ⟨n1, n2, n3⟩ := Nrm.cons.mp n
    obtain ⟨m1, m2, m3⟩ := Nrm.cons.mp m
    have lo : ∀ {r : Run} {rs : List Run} {o : Int}, r.1 < r.2 → (∀ q ∈ rs, r.2 < q.1) → Mem o (r :: rs) → r.1 ≤ o := fun {r rs o} c d e => by
      rcases Mem.cons.mp e with e | ⟨q, hq, e⟩
      · exact e.1
      · have := d q hq; omega
    have hi : ∀ {r : Run} {rs : List Run}, r.1 < r.2 → (∀ q ∈ rs, r.2 < q.1) → ¬ Mem r.2 (r :: rs) := fun {r rs} c d e => by
      rcases Mem.cons.mp e with e | ⟨q, hq, e⟩
      · omega
      · have := d q hq; omega
    have e1 : r.1 = q.1 := by
      have a := lo m1 m2 ((h r.1).mp (Mem.cons.mpr (.inl ⟨Int.le_refl _, n1⟩)))
      have b := lo n1 n2 ((h q.1).mpr (Mem.cons.mpr (.inl ⟨Int.le_refl _, m1⟩)))
      omega
    have e2 : r.2 = q.2 := by
      have a := hi n1 n2
      have b := hi m1 m2
      rcases Int.lt_trichotomy r.2 q.2 with c | c | c
      · exact absurd ((h r.2).mpr (Mem.cons.mpr (.inl ⟨by omega, c⟩))) a
      · exact c
      · exact absurd ((h q.2).mp (Mem.cons.mpr (.inl ⟨by omega, c⟩))) b
    have e : r = q := Prod.ext e1 e2
    subst e
    have t : ∀ o, Mem o rs ↔ Mem o qs := fun o => by
      constructor
      · intro g
        obtain ⟨x, hx, c⟩ := g
        rcases Mem.cons.mp ((h o).mp (Mem.cons.mpr (.inr ⟨x, hx, c⟩))) with d | d
        · have := n2 x hx; omega
        · exact d
      · intro g
        obtain ⟨x, hx, c⟩ := g
        rcases Mem.cons.mp ((h o).mpr (Mem.cons.mpr (.inr ⟨x, hx, c⟩))) with d | d
        · have := m2 x hx; omega
        · exact d
    rw [Nrm.uniq n3 m3 t]
theorem Nrm.le_last {r : Run} {rs : List Run} (n : Nrm (rs ++ [r])) : ∀ q ∈ rs ++ [r], q.2 ≤ r.2 := fun q hq => by
  obtain ⟨_, n2, n3⟩ := Nrm.snoc.mp n
  rcases List.mem_append.mp hq with hq | hq
  · have := n3 q hq; omega
  · rw [List.mem_singleton] at hq; rw [hq]; exact Int.le_refl _
/-- a list is empty or has a last item -/
theorem snoc_or {α : Type} (l : List α) : l = [] ∨ ∃ a x, l = a ++ [x] := by
  rcases l.eq_nil_or_concat with h | ⟨a, x, h⟩
  · exact .inl h
  · exact .inr ⟨a, x, by rw [h, List.concat_eq_append]⟩
/-! joined -/
/-- what joined has made of the sorted pairs ps -/
structure Jnd (ps runs : List Run) : Prop where
  nrm : Nrm runs
  mem : ∀ o, Mem o runs ↔ Mem o ps
  lo : ∀ r ∈ runs, ∃ p ∈ ps, r.1 = p.1
  hi : ∀ p ∈ ps, runs = [] ∧ p.2 ≤ p.1 ∨ ∃ a r, runs = a ++ [r] ∧ (p.2 ≤ r.2 ∨ p.2 ≤ p.1)
theorem Jnd.nil : Jnd [] [] := ⟨.nil, fun _ => Iff.rfl, fun _ h => (nomatch h), fun _ h => (nomatch h)⟩
theorem Jnd.glue {ps a : List Run} {r p : Run} (J : Jnd ps (a ++ [r])) (hs : ∀ q ∈ ps, q.1 ≤ p.1) (h : p.1 ≤ r.2) : Jnd (ps ++ [p]) (a ++ [(r.1, max r.2 p.2)]) := by
  obtain ⟨n1, n2, n3⟩ := Nrm.snoc.mp J.nrm
  refine ⟨Nrm.snoc.mpr ⟨n1, by show r.1 < max r.2 p.2; omega, n3⟩, fun o => ?_, fun q hq => ?_, fun q hq => .inr ⟨a, _, rfl, ?_⟩⟩
  · have j := J.mem o
    have l : r.1 ≤ p.1 := by
      obtain ⟨q, hq, e⟩ := J.lo r (by simp)
      have := hs q hq; omega
    rw [Mem.app, Mem.one] at j
    rw [Mem.app, Mem.app, Mem.one, Mem.one, ← j]
    show (Mem o a ∨ r.1 ≤ o ∧ o < max r.2 p.2) ↔ ((Mem o a ∨ r.1 ≤ o ∧ o < r.2) ∨ p.1 ≤ o ∧ o < p.2)
    constructor
    · rintro (h | h)
      · exact .inl (.inl h)
      · by_cases c : o < r.2
        · exact .inl (.inr ⟨h.1, c⟩)
        · exact .inr (by omega)
    · rintro ((h | h) | h)
      · exact .inl h
      · exact .inr (by omega)
      · exact .inr (by omega)
  · rcases List.mem_append.mp hq with hq | hq
    · obtain ⟨p', h1, h2⟩ := J.lo q (List.mem_append_left _ hq)
      exact ⟨p', List.mem_append_left _ h1, h2⟩
    · rw [List.mem_singleton] at hq
      obtain ⟨p', h1, h2⟩ := J.lo r (by simp)
      exact ⟨p', List.mem_append_left _ h1, by rw [hq]; exact h2⟩
  · show q.2 ≤ max r.2 p.2 ∨ q.2 ≤ q.1
    rcases List.mem_append.mp hq with hq | hq
    · rcases J.hi q hq with ⟨e, _⟩ | ⟨a', r', e, h⟩
      · exact absurd e (by simp)
      · have e := (List.append_inj' e rfl).2
        cases e
        omega
    · rw [List.mem_singleton] at hq; rw [hq]; omega
theorem Jnd.push {ps runs : List Run} {p : Run} (J : Jnd ps runs) (hs : ∀ q ∈ ps, q.1 ≤ p.1) (h : ∀ r ∈ runs, r.2 < p.1) (c : p.1 < p.2) : Jnd (ps ++ [p]) (runs ++ [p]) := by
  refine ⟨Nrm.snoc.mpr ⟨J.nrm, c, h⟩, fun o => ?_, fun q hq => ?_, fun q hq => .inr ⟨runs, p, rfl, ?_⟩⟩
  · rw [Mem.app, Mem.app, J.mem o]
  · rcases List.mem_append.mp hq with hq | hq
    · obtain ⟨p', h1, h2⟩ := J.lo q hq
      exact ⟨p', List.mem_append_left _ h1, h2⟩
    · rw [List.mem_singleton] at hq
      exact ⟨p, by simp, by rw [hq]⟩
  · rcases List.mem_append.mp hq with hq | hq
    · rcases J.hi q hq with ⟨_, e⟩ | ⟨a', r', e, d⟩
      · exact .inr e
      · have := h r' (by rw [e]; simp)
        omega
    · rw [List.mem_singleton] at hq; rw [hq]; exact .inl (Int.le_refl _)
theorem Jnd.skip {ps runs : List Run} {p : Run} (J : Jnd ps runs) (c : p.2 ≤ p.1) : Jnd (ps ++ [p]) runs := by
  refine ⟨J.nrm, fun o => ?_, fun q hq => ?_, fun q hq => ?_⟩
  · rw [Mem.app, J.mem o, Mem.one]
    exact ⟨.inl, fun h => h.elim id fun h => by omega⟩
  · obtain ⟨p', h1, h2⟩ := J.lo q hq
    exact ⟨p', List.mem_append_left _ h1, h2⟩
  · rcases List.mem_append.mp hq with hq | hq
    · exact J.hi q hq
    · rw [List.mem_singleton] at hq
      rw [hq]
      rcases snoc_or runs with e | ⟨a, r, e⟩
      · exact .inl ⟨e, c⟩
      · exact .inr ⟨a, r, e, .inr c⟩
/-- the last run ends last -/
theorem Nrm.ends {a : List Run} {r : Run} (n : Nrm (a ++ [r])) {o : Int} (h : r.2 < o) : ∀ q ∈ a ++ [r], q.2 < o := fun q hq => by
  have := n.le_last q hq
  omega
/-! missing -/
structure Msg (low high at_ : Int) (pre found : List Run) : Prop where
  nrm : Nrm found
  bef : ∀ q ∈ found, q.2 < at_ ∧ low ≤ q.1 ∧ q.2 ≤ high
  lo : low ≤ at_
  prv : ∀ r ∈ pre, r.2 ≤ at_
  wh : at_ = low ∨ ∃ r ∈ pre, at_ = r.2
  mem : ∀ o, Mem o found ↔ low ≤ o ∧ o < high ∧ o < at_ ∧ ¬ Mem o pre
theorem Msg.start {low high : Int} : Msg low high low [] [] := ⟨.nil, fun _ h => (nomatch h), Int.le_refl _, fun _ h => (nomatch h), .inl rfl, fun o => ⟨fun h => absurd h Mem.nil, fun h => by omega⟩⟩
theorem Msg.step {low high at_ : Int} {pre found : List Run} {r : Run} (M : Msg low high at_ pre found) (hr : r.1 < r.2) (hp : ∀ q ∈ pre, q.2 < r.1) :
    Msg low high (max at_ r.2) (pre ++ [r]) (if at_ < min r.1 high then found ++ [(at_, min r.1 high)] else found) := by
  have lo := M.lo
  have pr : ∀ q ∈ pre ++ [r], q.2 ≤ max at_ r.2 := fun q hq => by
    rcases List.mem_append.mp hq with hq | hq
    · have := M.prv q hq; omega
    · rw [List.mem_singleton] at hq; rw [hq]; omega
  have wh : max at_ r.2 = low ∨ ∃ q ∈ pre ++ [r], max at_ r.2 = q.2 := by
    by_cases c : at_ ≤ r.2
    · exact .inr ⟨r, by simp, by omega⟩
    · rcases M.wh with e | ⟨q, hq, e⟩
      · exact .inl (by omega)
      · exact .inr ⟨q, List.mem_append_left _ hq, by omega⟩
  split
  · rename_i h
    refine ⟨Nrm.snoc.mpr ⟨M.nrm, h, fun q hq => (M.bef q hq).1⟩, fun q hq => ?_, by omega, pr, wh, fun o => ?_⟩
    · rcases List.mem_append.mp hq with hq | hq
      · obtain ⟨b1, b2, b3⟩ := M.bef q hq
        omega
      · rw [List.mem_singleton] at hq; rw [hq]
        show min r.1 high < max at_ r.2 ∧ low ≤ at_ ∧ min r.1 high ≤ high
        omega
    · rw [Mem.app, Mem.app, Mem.one, Mem.one, M.mem o]
      show (_ ∨ at_ ≤ o ∧ o < min r.1 high) ↔ _
      constructor
      · rintro (⟨h1, h2, h3, h4⟩ | ⟨h1, h2⟩)
        · refine ⟨h1, h2, by omega, fun z => z.elim h4 fun z => ?_⟩
          omega
        · refine ⟨by omega, by omega, by omega, fun z => z.elim (fun ⟨q, hq, c⟩ => ?_) fun z => ?_⟩
          · have := M.prv q hq; omega
          · omega
      · rintro ⟨h1, h2, h3, h4⟩
        by_cases c : o < at_
        · exact .inl ⟨h1, h2, c, fun z => h4 (.inl z)⟩
        · refine .inr ⟨by omega, ?_⟩
          by_cases d : o < r.1
          · omega
          · exact absurd (.inr ⟨by omega, by omega⟩) h4
  · rename_i h
    refine ⟨M.nrm, fun q hq => ?_, by omega, pr, wh, fun o => ?_⟩
    · obtain ⟨b1, b2, b3⟩ := M.bef q hq
      omega
    · rw [Mem.app, Mem.one, M.mem o]
      constructor
      · rintro ⟨h1, h2, h3, h4⟩
        refine ⟨h1, h2, by omega, fun z => z.elim h4 fun z => ?_⟩
        rcases M.wh with e | ⟨q, hq, e⟩
        · omega
        · have := hp q hq; omega
      · rintro ⟨h1, h2, h3, h4⟩
        by_cases c : o < at_
        · exact ⟨h1, h2, c, fun z => h4 (.inl z)⟩
        · by_cases d : o < r.1
          · omega
          · exact absurd (.inr ⟨by omega, by omega⟩) h4
theorem Msg.done {low high at_ : Int} {rs found : List Run} (M : Msg low high at_ rs found) : ∃ out, out = (if at_ < high then found ++ [(at_, high)] else found) ∧ Nrm out ∧ (∀ q ∈ out, low ≤ q.1 ∧ q.2 ≤ high) ∧ ∀ o, Mem o out ↔ low ≤ o ∧ o < high ∧ ¬ Mem o rs := by
  have lo := M.lo
  refine ⟨_, rfl, ?_⟩
  split
  · rename_i h
    refine ⟨Nrm.snoc.mpr ⟨M.nrm, h, fun q hq => (M.bef q hq).1⟩, fun q hq => ?_, fun o => ?_⟩
    · rcases List.mem_append.mp hq with hq | hq
      · exact (M.bef q hq).2
      · rw [List.mem_singleton] at hq; rw [hq]
        exact ⟨M.lo, Int.le_refl _⟩
    · rw [Mem.app, Mem.one, M.mem o]
      show (_ ∨ at_ ≤ o ∧ o < high) ↔ _
      constructor
      · rintro (⟨h1, h2, h3, h4⟩ | ⟨h1, h2⟩)
        · exact ⟨h1, h2, h4⟩
        · exact ⟨by omega, h2, fun ⟨q, hq, c⟩ => by have := M.prv q hq; omega⟩
      · rintro ⟨h1, h2, h3⟩
        by_cases c : o < at_
        · exact .inl ⟨h1, h2, c, h3⟩
        · exact .inr ⟨by omega, h2⟩
  · rename_i h
    refine ⟨M.nrm, fun q hq => (M.bef q hq).2, fun o => ?_⟩
    rw [M.mem o]
    exact ⟨fun ⟨h1, h2, _, h4⟩ => ⟨h1, h2, h4⟩, fun ⟨h1, h2, h3⟩ => ⟨h1, h2, by omega, h3⟩⟩
/-! common -/
structure Com (F S A B found : List Run) : Prop where
  nrm : Nrm found
  na : Nrm A
  nb : Nrm B
  bef : ∀ q ∈ found, ∀ a ∈ A, ∀ b ∈ B, q.2 < max a.1 b.1
  lo : ∀ q ∈ found, ∃ a ∈ F, a.1 ≤ q.1
  sub : ∀ a ∈ A, a ∈ F
  mem : ∀ o, (Mem o F ∧ Mem o S) ↔ Mem o found ∨ (Mem o A ∧ Mem o B)
theorem Com.start {F S : List Run} (hF : Nrm F) (hS : Nrm S) : Com F S F S [] := ⟨.nil, hF, hS, fun _ h => (nomatch h), fun _ h => (nomatch h), fun _ h => h, fun o => ⟨.inr, fun h => h.elim (fun z => absurd z Mem.nil) id⟩⟩
def piece (a b : Run) (found : List Run) : List Run := if max a.1 b.1 < min a.2 b.2 then found ++ [(max a.1 b.1, min a.2 b.2)] else found
theorem mem_piece {a b : Run} {found : List Run} {o : Int} : Mem o (piece a b found) ↔ Mem o found ∨ ((a.1 ≤ o ∧ o < a.2) ∧ (b.1 ≤ o ∧ o < b.2)) := by
  unfold piece
  split
  · rw [Mem.app, Mem.one]
    show (_ ∨ max a.1 b.1 ≤ o ∧ o < min a.2 b.2) ↔ _
    constructor
    · rintro (h | h)
      · exact .inl h
      · exact .inr (by omega)
    · rintro (h | h)
      · exact .inl h
      · exact .inr (by omega)
  · constructor
    · exact .inl
    · rintro (h | h)
      · exact h
      · omega
theorem Com.piece {F S A B found : List Run} {a b : Run} (C : Com F S (a :: A) (b :: B) found) : Nrm (piece a b found) ∧ (∀ q ∈ piece a b found, ∃ x ∈ F, x.1 ≤ q.1) ∧ ∀ q ∈ piece a b found, (∀ x ∈ a :: A, ∀ y ∈ b :: B, q.2 < max x.1 y.1) ∨ q.2 = min a.2 b.2 := by
  unfold My.piece
  split
  · rename_i h
    refine ⟨Nrm.snoc.mpr ⟨C.nrm, h, fun q hq => C.bef q hq a List.mem_cons_self b List.mem_cons_self⟩, fun q hq => ?_, fun q hq => ?_⟩
    · rcases List.mem_append.mp hq with hq | hq
      · exact C.lo q hq
      · rw [List.mem_singleton] at hq; rw [hq]
        exact ⟨a, C.sub a List.mem_cons_self, by show a.1 ≤ max a.1 b.1; omega⟩
    · rcases List.mem_append.mp hq with hq | hq
      · exact .inl (C.bef q hq)
      · rw [List.mem_singleton] at hq; rw [hq]; exact .inr rfl
  · exact ⟨C.nrm, C.lo, fun q hq => .inl (C.bef q hq)⟩
theorem Com.left {F S A B found : List Run} {a b : Run} (C : Com F S (a :: A) (b :: B) found) (h : a.2 < b.2) : Com F S A (b :: B) (My.piece a b found) := by
  obtain ⟨p1, p2, p3⟩ := C.piece
  obtain ⟨a1, a2, a3⟩ := Nrm.cons.mp C.na
  obtain ⟨b1, b2, b3⟩ := Nrm.cons.mp C.nb
  refine ⟨p1, a3, C.nb, fun q hq x hx y hy => ?_, p2, fun x hx => C.sub x (List.mem_cons_of_mem _ hx), fun o => ?_⟩
  · rcases p3 q hq with e | e
    · exact e x (List.mem_cons_of_mem _ hx) y hy
    · have := a2 x hx; omega
  · rw [C.mem o, mem_piece, Mem.cons]
    constructor
    · rintro (h1 | ⟨h1 | h1, h2⟩)
      · exact .inl (.inl h1)
      · rcases Mem.cons.mp h2 with h2 | ⟨y, hy, h2⟩
        · exact .inl (.inr ⟨h1, h2⟩)
        · have := b2 y hy; omega
      · exact .inr ⟨h1, h2⟩
    · rintro ((h1 | h1) | h1)
      · exact .inl h1
      · exact .inr ⟨.inl h1.1, Mem.cons.mpr (.inl h1.2)⟩
      · exact .inr ⟨.inr h1.1, h1.2⟩
theorem Com.right {F S A B found : List Run} {a b : Run} (C : Com F S (a :: A) (b :: B) found) (h : ¬ a.2 < b.2) : Com F S (a :: A) B (My.piece a b found) := by
  obtain ⟨p1, p2, p3⟩ := C.piece
  obtain ⟨a1, a2, a3⟩ := Nrm.cons.mp C.na
  obtain ⟨b1, b2, b3⟩ := Nrm.cons.mp C.nb
  refine ⟨p1, C.na, b3, fun q hq x hx y hy => ?_, p2, C.sub, fun o => ?_⟩
  · rcases p3 q hq with e | e
    · exact e x hx y (List.mem_cons_of_mem _ hy)
    · have := b2 y hy; omega
  · rw [C.mem o, mem_piece, Mem.cons (rs := B)]
    constructor
    · rintro (h1 | ⟨h1, h2 | h2⟩)
      · exact .inl (.inl h1)
      · rcases Mem.cons.mp h1 with h1 | ⟨y, hy, h1⟩
        · exact .inl (.inr ⟨h1, h2⟩)
        · have := a2 y hy; omega
      · exact .inr ⟨h1, h2⟩
    · rintro ((h1 | h1) | h1)
      · exact .inl h1
      · exact .inr ⟨Mem.cons.mpr (.inl h1.1), .inl h1.2⟩
      · exact .inr ⟨h1.1, .inr h1.2⟩
theorem Com.done {F S A B found : List Run} (C : Com F S A B found) (h : A = [] ∨ B = []) : Nrm found ∧ (∀ q ∈ found, ∃ a ∈ F, a.1 ≤ q.1) ∧ ∀ o, Mem o found ↔ Mem o F ∧ Mem o S := by
  refine ⟨C.nrm, C.lo, fun o => ?_⟩
  rw [C.mem o]
  constructor
  · exact .inl
  · rintro (e | e)
    · exact e
    · rcases h with rfl | rfl
      · exact absurd e.1 Mem.nil
      · exact absurd e.2 Mem.nil
/-! the law's own way: the ends in order, a truth between them -/
structure Due (f : Int → Bool) (es : List Int) (k : Nat) (due : List Run) : Prop where
  nrm : Nrm due
  bef : ∀ q ∈ due, ∀ e, es[k]? = some e → q.2 ≤ e
  mem : ∀ o, Mem o due ↔ f o = true ∧ ∃ e0 e, es[0]? = some e0 ∧ es[k]? = some e ∧ e0 ≤ o ∧ o < e
def addDue (low high : Int) (due : List Run) : List Run := match due.getLast? with
  | some r => if r.2 = low then due.dropLast ++ [(r.1, high)] else due ++ [(low, high)]
  | none => due ++ [(low, high)]
theorem Due.start {f : Int → Bool} {es : List Int} : Due f es 0 [] := ⟨.nil, fun _ h => (nomatch h), fun o => ⟨fun h => absurd h Mem.nil, fun ⟨_, e0, e, h1, h2, h3, h4⟩ => by
  rw [h1] at h2; cases h2; omega⟩⟩
theorem Due.skip {f : Int → Bool} {es : List Int} {k : Nat} {due : List Run} {low high : Int} (D : Due f es k due) (hl : es[k]? = some low) (hh : es[k + 1]? = some high) (so : low ≤ high) (c : ∀ o, low ≤ o → o < high → f o = f low) (h : ¬ (low < high ∧ f low = true)) : Due f es (k + 1) due := by
  refine ⟨D.nrm, fun q hq e he => ?_, fun o => ?_⟩
  · rw [hh] at he; cases he
    have := D.bef q hq low hl; omega
  · rw [D.mem o]
    constructor
    · rintro ⟨h1, e0, e, h2, h3, h4, h5⟩
      rw [hl] at h3; cases h3
      exact ⟨h1, e0, high, h2, hh, h4, by omega⟩
    · rintro ⟨h1, e0, e, h2, h3, h4, h5⟩
      rw [hh] at h3; cases h3
      refine ⟨h1, e0, low, h2, hl, h4, ?_⟩
      by_cases d : o < low
      · exact d
      · exact absurd ⟨by omega, by rw [← c o (by omega) h5]; exact h1⟩ h
theorem Due.add {f : Int → Bool} {es : List Int} {k : Nat} {due : List Run} {low high e0 : Int} (D : Due f es k due) (hl : es[k]? = some low) (hh : es[k + 1]? = some high) (h0 : es[0]? = some e0) (l0 : e0 ≤ low) (so : low < high) (c : ∀ o, low ≤ o → o < high → f o = f low) (h : f low = true) : Due f es (k + 1) (addDue low high due) := by
  have mm : ∀ o, (Mem o due ∨ low ≤ o ∧ o < high) ↔ f o = true ∧ ∃ e0 e, es[0]? = some e0 ∧ es[k + 1]? = some e ∧ e0 ≤ o ∧ o < e := fun o => by
    rw [D.mem o]
    constructor
    · rintro (⟨h1, e0, e, h2, h3, h4, h5⟩ | h5)
      · rw [hl] at h3; cases h3
        exact ⟨h1, e0, high, h2, hh, h4, by omega⟩
      · exact ⟨by rw [c o h5.1 h5.2]; exact h, e0, high, h0, hh, by omega, h5.2⟩
    · rintro ⟨h1, e1, e, h2, h3, h4, h5⟩
      rw [hh] at h3; cases h3
      by_cases d : o < low
      · exact .inl ⟨h1, e1, low, h2, hl, h4, d⟩
      · exact .inr ⟨by omega, h5⟩
  have bf : ∀ q ∈ due, q.2 ≤ low := fun q hq => D.bef q hq low hl
  unfold addDue
  rcases snoc_or due with rfl | ⟨a, r, rfl⟩
  · refine ⟨Nrm.snoc.mpr ⟨.nil, so, fun _ h => (nomatch h)⟩, fun q hq e he => ?_, fun o => ?_⟩
    · rw [hh] at he; cases he
      have hq : q ∈ [(low, high)] := hq
      rw [List.mem_singleton] at hq; rw [hq]; exact Int.le_refl _
    · show Mem o ([] ++ [(low, high)]) ↔ _
      rw [Mem.app, Mem.one]; exact mm o
  · rw [List.getLast?_concat]
    show Due f es (k + 1) (if r.2 = low then (a ++ [r]).dropLast ++ [(r.1, high)] else (a ++ [r]) ++ [(low, high)])
    obtain ⟨n1, n2, n3⟩ := Nrm.snoc.mp D.nrm
    split
    · rename_i e
      rw [List.dropLast_concat]
      refine ⟨Nrm.snoc.mpr ⟨n1, by show r.1 < high; omega, n3⟩, fun q hq e' he => ?_, fun o => ?_⟩
      · rw [hh] at he; cases he
        rcases List.mem_append.mp hq with hq | hq
        · have := bf q (List.mem_append_left _ hq); omega
        · rw [List.mem_singleton] at hq; rw [hq]; exact Int.le_refl _
      · rw [← mm o, Mem.app, Mem.app, Mem.one, Mem.one]
        show (Mem o a ∨ r.1 ≤ o ∧ o < high) ↔ _
        constructor
        · rintro (h | h)
          · exact .inl (.inl h)
          · by_cases d : o < low
            · exact .inl (.inr (by omega))
            · exact .inr (by omega)
        · rintro ((h | h) | h)
          · exact .inl h
          · exact .inr (by omega)
          · exact .inr (by omega)
    · rename_i e
      refine ⟨Nrm.snoc.mpr ⟨D.nrm, so, fun q hq => ?_⟩, fun q hq e' he => ?_, fun o => ?_⟩
      · have hr := bf r (by simp)
        have := D.nrm.le_last q hq
        show q.2 < low
        omega
      · rw [hh] at he; cases he
        rcases List.mem_append.mp hq with hq | hq
        · have := bf q hq; omega
        · rw [List.mem_singleton] at hq; rw [hq]; exact Int.le_refl _
      · rw [Mem.app, Mem.one]; exact mm o
/-- an offset lies in one run alone -/
theorem pair_uniq {rs : List Run} {r q : Run} {o : Int} (n : Nrm rs) (hr : r ∈ rs) (hq : q ∈ rs) (c1 : r.1 ≤ o) (c2 : o < r.2) (d1 : q.1 ≤ o) (d2 : o < q.2) : r = q := by
  induction rs with
  | nil => exact nomatch hr
  | cons a rs ih =>
    obtain ⟨_, n2, n3⟩ := Nrm.cons.mp n
    rcases List.mem_cons.mp hr with e1 | h1 <;> rcases List.mem_cons.mp hq with e2 | h2
    · exact e1.trans e2.symm
    · have := n2 q h2; subst e1; omega
    · have := n2 r h1; subst e2; omega
    · exact ih n3 h1 h2
/-! ### pairs, tuples of runs -/
def PairAt (H : Hp) (v : V) (p : Run) : Prop := ∃ t, v = .ref t ∧ (H t = some (.tup [.int p.1, .int p.2]) ∨ H t = some (.lst [.int p.1, .int p.2]))
def Tups (H : Hp) (ts : List Addr) (rs : List Run) : Prop := ts.length = rs.length ∧ ∀ (i : Nat) t r, ts[i]? = some t → rs[i]? = some r → H t = some (.tup [.int r.1, .int r.2])
def RunsL (l : Addr) (ts : List Addr) (rs : List Run) (H : Hp) : Prop := H l = some (.lst (ts.map V.ref)) ∧ Tups H ts rs
section
variable {H H' : Hp} {ts G : List Addr} {rs : List Run} {t l : Addr} {r : Run} {v : V} {p : Run}
theorem PairAt.same (h : PairAt H v p) (s : Same H H') : PairAt H' v p := by
  obtain ⟨t, e, h | h⟩ := h
  · exact ⟨t, e, .inl (s _ _ h)⟩
  · exact ⟨t, e, .inr (s _ _ h)⟩
theorem Tups.ch (h : Tups H ts rs) (x : Ch G H H') (n : ∀ t ∈ ts, t ∉ G) : Tups H' ts rs := ⟨h.1, fun i t r h1 h2 => x.at (n t (List.mem_of_getElem? h1)) (h.2 i t r h1 h2)⟩
theorem Tups.same (h : Tups H ts rs) (s : Same H H') : Tups H' ts rs := ⟨h.1, fun i t r h1 h2 => s _ _ (h.2 i t r h1 h2)⟩
theorem Tups.nil : Tups H [] [] := ⟨rfl, fun _ _ _ h => nomatch h⟩
theorem Tups.snoc (h : Tups H ts rs) (e : H t = some (.tup [.int r.1, .int r.2])) : Tups H (ts ++ [t]) (rs ++ [r]) := ⟨by rw [List.length_append, List.length_append, h.1]; rfl, fun i a b h1 h2 => by
  rcases getq_app h1 with ⟨c, h1⟩ | ⟨c, d⟩
  · rw [List.getElem?_append_left (by have := h.1; omega)] at h2
    exact h.2 i a b h1 h2
  · subst d
    rw [c, h.1, List.getElem?_append_right (Nat.le_refl _), Nat.sub_self] at h2
    cases h2
    exact e⟩
theorem Tups.init {t : Addr} {r : Run} (h : Tups H (ts ++ [t]) (rs ++ [r])) : Tups H ts rs ∧ H t = some (.tup [.int r.1, .int r.2]) := by
  have e : ts.length = rs.length := by
    have := h.1
    rw [List.length_append, List.length_append] at this
    exact Nat.add_right_cancel this
  refine ⟨⟨e, fun i a b h1 h2 => ?_⟩, ?_⟩
  · have l1 := getq_lt h1
    exact h.2 i a b (by rw [List.getElem?_append_left l1]; exact h1) (by rw [List.getElem?_append_left (by omega)]; exact h2)
  · exact h.2 ts.length t r (by simp) (by rw [e]; simp)
theorem RunsL.ch (h : RunsL l ts rs H) (x : Ch G H H') (n : l ∉ G) (m : ∀ t ∈ ts, t ∉ G) : RunsL l ts rs H' := ⟨x.at n h.1, h.2.ch x m⟩
theorem RunsL.same (h : RunsL l ts rs H) (s : Same H H') : RunsL l ts rs H' := ⟨s _ _ h.1, h.2.same s⟩
theorem RunsL.len (h : RunsL l ts rs H) : ts.length = rs.length := h.2.1
theorem RunsL.at (h : RunsL l ts rs H) {i : Nat} {r : Run} (e : rs[i]? = some r) : ∃ t, ts[i]? = some t ∧ (ts.map V.ref)[i]? = some (.ref t) ∧ H t = some (.tup [.int r.1, .int r.2]) := by
  have l1 := getq_lt e
  have l2 : i < ts.length := by have := h.2.1; omega
  exact ⟨ts[i], List.getElem?_eq_getElem l2, by rw [List.getElem?_map, List.getElem?_eq_getElem l2]; rfl, h.2.2 i _ r (List.getElem?_eq_getElem l2) e⟩
theorem Tups.lst_ne {xs : List V} (h : Tups H ts rs) (e : H l = some (.lst xs)) : ∀ t ∈ ts, t ≠ l := fun t ht z => by
  obtain ⟨i, hi⟩ := List.mem_iff_getElem?.mp ht
  have l1 := getq_lt hi
  have l2 : i < rs.length := by have := h.1; omega
  have := h.2 i t rs[i] hi (List.getElem?_eq_getElem l2)
  rw [z, e] at this
  cases this
end
/-- a pair's two places -/
theorem two_to {K : PySem.W.Frag} {t : Addr} {x y : V} {i j : Nat} {σ : L2.St} {H : Hp} {QS : L2.St → Hp → Prop} (h : H t = some (.tup [x, y])) (q : QS ((σ.set i (some x)).set j (some y)) H) : gTup K 2 (gCons (gName i) (gCons (gName j) gNil)) (.ref t) σ H QS :=
  ⟨t, _, rfl, SqT.of h, rfl, x, [y], rfl, y, [], rfl, rfl, q⟩
/-- the last item of a list -/
theorem ixLast {K : PySem.W.Frag} {H : Hp} {Q : VK} {a : Addr} {xs : List V} {v : V} (h : H a = some (.lst (xs ++ [v]))) (q : Q v H) : rIxL K (.ref a) (.int (-1)) H Q := ⟨a, _, -1, v, rfl, rfl, SqL.of h, atI_last xs v, q⟩
theorem ixN_last {α : Type} (xs : List α) (v : α) : ixN (xs ++ [v]).length (-1) = some xs.length := by
  have hl : (xs ++ [v]).length = xs.length + 1 := by simp
  unfold ixN
  rw [if_neg (by decide), if_pos (by omega), hl]
  congr 1
  omega
theorem setLast {H : Hp} {a : Addr} {xs : List V} {v w : V} {P : Hp → Prop} (h : H a = some (.lst (xs ++ [v]))) (q : ∀ H', SameX a H H' → H' a = some (.lst (xs ++ [w])) → P H') : rSetL (.ref a) (.int (-1)) w H P :=
  ⟨a, _, -1, _, rfl, rfl, h, ixN_last xs v, q _ SameX.upd (by rw [upd_same]; simp)⟩
/-- tuple(v), v a pair -/
theorem tupPair {K : PySem.W.Frag} {H : Hp} {Q : VK} {v : V} {p : Run} (h : PairAt H v p) (q : ∀ t H', Same H H' → H' t = some (.tup [.int p.1, .int p.2]) → Q (.ref t) H') : rTupOf K [v] H Q := by
  obtain ⟨t, rfl, h | h⟩ := h
  · exact ⟨t, _, rfl, .inr ⟨SqT.of h, q t H (Same.refl _) h⟩⟩
  · exact ⟨t, _, rfl, .inl ⟨SqL.of h, fun l hl => q l _ (Same.new hl) upd_same⟩⟩
/-- what the heap says of a pair -/
def kOf (H : Hp) (v : V) : Int × Int := match v with
  | .ref t => match H t with
    | some (.tup [.int a, .int b]) => (a, b)
    | _ => (0, 0)
  | _ => (0, 0)
theorem kOf_at {H : Hp} {t : Addr} {p : Run} (h : H t = some (.tup [.int p.1, .int p.2])) : kOf H (.ref t) = p := by
  unfold kOf
  simp only [h]
theorem x_asg2 {te : TE} {g1 g2 : TG} {D : Ends} {σ : L2.St} {H : Hp} (q : te σ H fun x H1 => g1 x σ H1 fun σ1 H2 => g2 x σ1 H2 D.nx) : tAsg2 te g1 g2 D σ H := q
theorem truL {K : PySem.W.Frag} {H : Hp} {l : Addr} {xs : List V} (h : H l = some (.lst xs)) : TruV K (.ref l) H (!xs.isEmpty) := .inl ⟨xs, SqL.of h, rfl⟩
theorem x_for2 {ta : TA} {g : TG} {ts : TS} {D : Ends} {σ : L2.St} {H : Hp} (q : ta σ H fun vs H1 => ∃ i j : Int, vs = [.int i, .int j] ∧ (-(2 ^ 62) ≤ i ∧ i < 2 ^ 62 ∧ -(2 ^ 62) ≤ j ∧ j < 2 ^ 62) ∧ forK (Itr i (j - i).toNat) g ts D σ H1) : tFor (iRng2 ta) g ts D σ H := q
local macro_rules
  | `(tactic| w_up) => `(tactic| first | with_reducible refine x_asg2 ?_ | with_reducible refine x_makeR ?_ | with_reducible refine x_star ?_ | with_reducible refine x_for2 ?_)
/-! ### a comprehension over a list of pairs -/
theorem lcG2 {K : PySem.W.Frag} {a : Addr} {xs : List V} {te tel : TE} {tt : TT} {σ : L2.St} {H : Hp} {Q : VK} {i j : Nat} (P : Addr → Nat → List V → Hp → Prop) (hw : ∀ x y, wipe (((wipe σ [i, j]).set i (some x)).set j (some y)) [i, j] = wipe σ [i, j]) (hte : ∀ R' : VK, R' (.ref a) H → te σ H R') (hS : SqL K H a xs) (hz : xs.length < 100000)
    (h0 : ∀ D, H D = none → P D 0 [] (upd H D (.lst []))) (hsq : ∀ D k vs H', H D = none → P D k vs H' → SqL K H' a xs)
    (hs : ∀ D k v vs H', H D = none → xs[k]? = some v → vs.length ≤ k → H' D = some (.lst vs) → P D k vs H' → ∃ t x y, v = .ref t ∧ H' t = some (.tup [x, y]) ∧ ∀ (Y : VK) (N : Hp → Prop), (∀ w H3, H3 D = some (.lst vs) → P D (k + 1) (vs ++ [w]) (upd H3 D (.lst (vs ++ [w]))) → Y w H3) → (∀ H3, H3 D = some (.lst vs) → P D (k + 1) vs H3 → N H3) →
      tt ((((σ.set j none).set i none).set i (some x)).set j (some y)) H' fun b H2 => if b = true then tel ((((σ.set j none).set i none).set i (some x)).set j (some y)) H2 Y else N H2)
    (hd : ∀ D vs H', H D = none → H' D = some (.lst vs) → vs.length ≤ xs.length → P D xs.length vs H' → Q (.ref D) H') : tLc (iList K te) (gTup K 2 (gCons (gName i) (gCons (gName j) gNil))) tt tel [i, j] σ H Q := by
  refine hte _ ⟨a, rfl, ⟨_, hS⟩, fun D hD => lc_list (K := K) (a := a) (xs := xs) (fun i H' => ∃ vs : List V, vs.length ≤ i ∧ P D i vs H' ∧ H' D = some (.lst vs)) ⟨[], Nat.le_refl _, h0 D hD, upd_same⟩ (fun i H' _ ⟨vs, _, h, _⟩ => hsq D i vs H' hD h) ?_ ?_⟩
  · rintro k v H' hi ⟨vs, hl, hp, h1⟩
    have il := (List.getElem?_eq_some_iff.mp hi).1
    obtain ⟨t, x, y, rfl, ht, go⟩ := hs D k v vs H' hD hi hl h1 hp
    refine two_to ht ⟨hw x y, ?_⟩
    refine go _ _ (fun v H3 e p => ⟨vs, e, Nat.lt_of_lt_of_le (show vs.length < 100000 by omega) (by decide), vs ++ [v], ?_, p, upd_same⟩) (fun H3 e p => ⟨vs, by omega, p, e⟩)
    rw [List.length_append]
    exact Nat.succ_le_succ hl
  · rintro H' ⟨vs, hl, hp, h1⟩
    exact hd D vs H' hD h1 hl hp
/-! ### the functions of runs -/
/-- no pair of offsets -/
def BadPair (K : PySem.W.Frag) (H : Hp) (x : V) : Prop := SeqK K H x false ∨ ∃ t xs, x = .ref t ∧ SeqA K H t xs ∧ (xs.length ≠ 2 ∨ ∃ a b, xs = [a, b] ∧ (Less K H a 0 ∨ ∃ n, a = .int n ∧ 0 ≤ n ∧ Less K H b n))
theorem PairAt.seq {K : PySem.W.Frag} {H : Hp} {t : Addr} {p : Run} (h : H t = some (.tup [.int p.1, .int p.2]) ∨ H t = some (.lst [.int p.1, .int p.2])) : SeqA K H t [.int p.1, .int p.2] := h.elim .tup .lst
def sp_is_run (K : PySem.W.Frag) : Sp := fun vs H Q _ => ∃ (x : V), vs = [x] ∧ ((∃ p, PairAt H x p ∧ 0 ≤ p.1 ∧ p.1 ≤ p.2 ∧ ∀ H', Same H H' → Q (.bl true) H') ∨ (BadPair K H x ∧ ∀ H', Same H H' → Q (.bl false) H'))
theorem ok_is_run (T : Txt K mg) : FnOk P w K mg base CX0 3 T.a_is_run T.fd_is_run ["pair"] (sp_is_run K) := by
  have S := sc_is_run
  refine T.F_is_run.ok S (fun vs H Q E h => ?_) (fun cdv A outer s H vs Q E hr h => ?_)
  · obtain ⟨x, rfl, _⟩ := h
    rfl
  · obtain ⟨x, rfl, h⟩ := h
    refine ⟨_, (pss_one (ps_ret (pe_and (pe_call (ok_is_sequence T) (hr.mono (by decide)) rfl T.g_is_sequence T.F_is_sequence.kp T.B_is_sequence .nil pass0 (pa_cons (pv 0) pa_nil)) (pe_and (pe_cmpR op_eq (pe_callB (id := "len") (call_lenK (K := K) rfl) (by rfl) T.b_len (by decide +kernel) (pa_cons (pv 0) pa_nil)) pe_int (nomark _)) (pe_and (pe_call (ok_is_at_least T) (hr.mono (by decide)) rfl T.g_is_at_least T.F_is_at_least.kp T.B_is_at_least .nil pass0 (pa_cons (pe_ix ix_seq (pv 0) pe_int (fun _ _ => rfl)) (pa_cons pe_int pa_nil))) (pe_one (pe_call (ok_is_at_least T) (hr.mono (by decide)) rfl T.g_is_at_least T.F_is_at_least.kp T.B_is_at_least .nil pass0 (pa_cons (pe_ix ix_seq (pv 0) pe_int (fun _ _ => rfl)) (pa_cons (pe_ix ix_seq (pv 0) pe_int (fun _ _ => rfl)) pa_nil))))))))), ?_⟩
    refine st_is_run ?_
    o_args
    rcases h with ⟨p, ⟨t, rfl, hp⟩, p0, p1, k⟩ | ⟨hb | ⟨t, xs, rfl, hS, hb⟩, k⟩
    · have hS := PairAt.seq (K := K) hp
      refine ⟨_, true, rfl, seqK_of hS, fun H1 s1 => ?_⟩
      have hS := hS.sm s1
      o_args
      refine lenA hS ?_
      o_args
      refine brDT rfl ?_
      o_args
      refine ix_seqA (i := 0) (v := .int p.1) hS rfl ?_
      o_args
      refine ⟨_, 0, rfl, .inl ⟨p.1, rfl, p0, ?_⟩⟩
      o_args
      refine ix_seqA (i := 1) (v := .int p.2) hS rfl ?_
      o_args
      refine ix_seqA (i := 0) (v := .int p.1) hS rfl ?_
      o_args
      exact ⟨_, p.1, rfl, .inl ⟨p.2, rfl, p1, k H1 s1⟩⟩
    · refine ⟨_, false, rfl, hb, fun H1 s1 => ?_⟩
      o_args
      exact k H1 s1
    · refine ⟨_, true, rfl, seqK_of hS, fun H1 s1 => ?_⟩
      have hS := hS.sm s1
      o_args
      refine lenA hS ?_
      o_args
      rcases hb with hn | ⟨a, b, rfl, hb⟩
      · refine brDF (by omega) ?_
        exact k H1 s1
      · refine brDT rfl ?_
        o_args
        refine ix_seqA (i := 0) (v := a) hS rfl ?_
        o_args
        rcases hb with hb | ⟨n, rfl, n0, hb⟩
        · refine ⟨_, 0, rfl, .inr ⟨hb.same s1, ?_⟩⟩
          o_args
          exact k H1 s1
        · refine ⟨_, 0, rfl, .inl ⟨n, rfl, n0, ?_⟩⟩
          o_args
          refine ix_seqA (i := 1) (v := b) hS rfl ?_
          o_args
          refine ix_seqA (i := 0) (v := .int n) hS rfl ?_
          o_args
          exact ⟨_, n, rfl, .inr ⟨hb.same s1, k H1 s1⟩⟩
def sp_joined (K : PySem.W.Frag) : Sp := fun vs H Q _ => ∃ (q : Addr) (xs : List V) (ps : List Run), vs = [.ref q] ∧ SeqA K H q xs ∧ xs.length < 100000 ∧ xs.length = ps.length ∧ (∀ (i : Nat) x p, xs[i]? = some x → ps[i]? = some p → PairAt H x p) ∧
  ∀ l ts rs H', H l = none → (∀ t ∈ ts, H t = none) → Same H H' → RunsL l ts rs H' → rs.length ≤ ps.length → Nrm rs → (∀ o, Mem o rs ↔ Mem o ps) → (∀ r ∈ rs, ∃ p ∈ ps, r.1 = p.1) → Q (.ref l) H'
theorem ok_joined (T : Txt K mg) : FnOk P w K mg base CX0 1 T.a_joined T.fd_joined ["pairs"] (sp_joined K) := by
  have S := sc_joined
  refine T.F_joined.ok S (fun vs H Q E h => ?_) (fun cdv A outer s H vs Q E hr h => ?_)
  · obtain ⟨q, xs, ps, rfl, _⟩ := h
    rfl
  · obtain ⟨q, xs, ps, rfl, hS, hz, hl, hp, k⟩ := h
    refine ⟨_, (pss_cons (ps_set (i := 1) S.nd rfl (Or.inl rfl) (pe_lst pa_nil))
      (pss_cons (ps_for PassesOwn.never rfl (pi_list (pe_callB (id := "sorted") cr_sortedPO (by rfl) T.b_sorted (by decide +kernel) (pa_cons (pe_lc (own := [("pair", 4)]) (g := gName 4) (tt := tYes) rfl S.nd (pi_seqA (pv 0)) (blkOk_by (N := ["pairs", "runs", "low", "high", "pair"]) (sc := defScope s_joined) (by decide +kernel)) (fun _ _ _ _ _ => pg_name (i := 4) S.nd rfl (Or.inl rfl)) (fun _ _ _ _ _ => pts_nil) (fun _ _ _ _ _ => (pe_callTy (T := "tuple") (call_tupK (K := K) rfl) (by rfl) T.b_tuple (by decide +kernel) (pa_cons (pv 4) pa_nil)))) pa_nil))) (pg_tup rfl (pgs_cons (pg_name (i := 2) S.nd rfl (Or.inl rfl)) (pgs_cons (pg_name (i := 3) S.nd rfl (Or.inl rfl)) pgs_nil))) (pss_one (ps_if (PW.pt (pw_and (pt_truth (pv 1) (fun _ => rfl)) (pw_and1 (pt_cmpR op_le (pv 2) (pe_ix ix_tup (pe_ix ix_list (pv 1) (pe_un un_neg pe_int) (fun _ _ => rfl)) pe_int (fun _ _ => rfl)) (nomark _))))) (pss_one (ps_asg (pe_tup (pa_cons (pe_ix ix_tup (pe_ix ix_list (pv 1) (pe_un un_neg pe_int) (fun _ _ => rfl)) pe_int (fun _ _ => rfl)) (pa_cons (pe_callB (id := "max") (call_max2K rfl) (by rfl) T.b_max (by decide +kernel) (pa_cons (pe_ix ix_tup (pe_ix ix_list (pv 1) (pe_un un_neg pe_int) (fun _ _ => rfl)) pe_int (fun _ _ => rfl)) (pa_cons (pv 3) pa_nil))) pa_nil))) (pg_sub (pv 1) (pe_un un_neg pe_int) set_list))) (pss_one (ps_if (pt_cmpR op_lt (pv 2) (pv 3) (nomark _)) (pss_one (ps_expr (pe_bm PySem.F.plainAttrs_list PySem.F.slot_list_append PySem.F.type_list_append mt_append (pv 1) (pa_cons (pe_tup (pa_cons (pv 2) (pa_cons (pv 3) pa_nil))) pa_nil)))) pss_nil)))))
      (pss_one (ps_ret (pv 1))))), ?_⟩
    refine st_joined ?_
    o_args
    refine newList (by simp) fun l H1 nl s1 h1 => ?_
    o_args
    refine lcGA (xs := xs) (fun D i vs H' => SameX D H1 H' ∧ vs.length = i ∧ ∀ (k : Nat) v, vs[k]? = some v → ∃ p t, ps[k]? = some p ∧ v = .ref t ∧ H' t = some (.tup [.int p.1, .int p.2])) (fun R h => ⟨_, rfl, h⟩) (hS.sm s1) hz (fun D _ => ⟨SameX.upd, rfl, fun k v h => by cases h⟩) (fun D i vs H' hD hP o ho => hP.1 _ _ (ne_of_none ho hD) ho) (fun D i x vs H' hD hx hle h2 hP Y N hY hN => ?_) (fun D vs H' hD h2 hle hP => ?_)
    · obtain ⟨s2, e, hP⟩ := hP
      have il : i < ps.length := by have := getq_lt hx; omega
      have pa := ((hp i x _ hx (List.getElem?_eq_getElem il)).same s1).same (Same.ofX hD s2)
      dsimp only [tYes]
      rw [if_pos rfl]
      o_args
      refine tupPair pa fun t H3 s3 h3 => hY _ H3 (s3 _ _ h2) ⟨(s2.trans (SameX.of s3)).upd', by rw [List.length_append, e]; rfl, fun k v hk => ?_⟩
      have tD : t ≠ D := fun z => by
        have := s3 _ _ h2
        rw [← z, h3] at this
        cases this
      rcases getq_app hk with ⟨_, hk⟩ | ⟨rfl, rfl⟩
      · obtain ⟨p, t', e1, e2, e3⟩ := hP k v hk
        have t'D : t' ≠ D := fun z => by rw [z, h2] at e3; cases e3
        exact ⟨p, t', e1, e2, by rw [upd_ne t'D]; exact s3 _ _ e3⟩
      · exact ⟨_, t, by rw [e]; exact List.getElem?_eq_getElem il, rfl, by rw [upd_ne tD]; exact h3⟩
    · obtain ⟨s2, e, hP⟩ := hP
      have hl2 := s2 _ _ (ne_of_none h1 hD) h1
      have hv : vs.map (kOf H') = ps := by
        refine List.ext_getElem? fun k => ?_
        rw [List.getElem?_map]
        cases c : vs[k]? with
        | none =>
          have := List.getElem?_eq_none_iff.mp c
          exact (List.getElem?_eq_none_iff.mpr (by omega)).symm
        | some v =>
          obtain ⟨p, t, e1, e2, e3⟩ := hP k v c
          rw [e1, e2]
          exact congrArg some (kOf_at e3)
      have hk : ∀ v ∈ vs, ∃ t, v = .ref t ∧ H' t = some (.tup [.int (kOf H' v).1, .int (kOf H' v).2]) := fun v hv => by
        obtain ⟨k, hk⟩ := List.mem_iff_getElem?.mp hv
        obtain ⟨p, t, e1, e2, e3⟩ := hP k v hk
        exact ⟨t, e2, by rw [e2, kOf_at e3]; exact e3⟩
      refine ⟨D, vs, kOf H', rfl, SqL.of h2, hk, fun ys S hsr hst nS => ?_⟩
      have hy : ∀ v ∈ ys, ∃ t, v = .ref t ∧ H' t = some (.tup [.int (kOf H' v).1, .int (kOf H' v).2]) := fun v hv => hk v (hst.perm.mem_iff.mp hv)
      have hq : (ys.map (kOf H')).Perm ps := by rw [← hv]; exact hst.perm.map _
      have so : (ys.map (kOf H')).Pairwise fun a b => a.1 ≤ b.1 := List.pairwise_map.mpr (List.Pairwise.imp (fun h => by
        have := SrtO.lexB_no.mp h
        omega) hsr)
      have lq : ys.length = ps.length := by have := hq.length_eq; rw [List.length_map] at this; exact this
      have s3 : Same H' (upd H' S (.lst ys)) := Same.new nS
      have h3 : upd H' S (.lst ys) S = some (.lst ys) := upd_same
      generalize upd H' S (.lst ys) = H3 at s3 h3
      have hl3 := s3 _ _ hl2
      have S3 : Same H H3 := (s1.trans (Same.ofX hD s2)).trans s3
      have lS : S ∉ [l] := fun z => ne_of_none hl2 nS (List.mem_singleton.mp z).symm
      refine ⟨S, rfl, ⟨ys, SqL.of h3⟩, for_list (K := K) (a := S) (xs := ys) (fun i σ H'' => ∃ a b ts rs, σ = [some (.ref q), some (.ref l), a, b, none] ∧ Ch [l] H3 H'' ∧ RunsL l ts rs H'' ∧ (∀ t ∈ ts, H t = none) ∧ rs.length ≤ i ∧ Jnd ((ys.map (kOf H')).take i) rs) ⟨none, none, [], [], rfl, Ch.refl, ⟨hl3, Tups.nil⟩, (fun _ h => nomatch h), Nat.le_refl _, Jnd.nil⟩ (fun i σ H'' _ ⟨_, _, _, _, _, c, _⟩ => SqL.of (c.at lS h3)) ?_ ?_⟩
      · rintro i x σ H4 hx ⟨a, b, ts, rs, rfl, c4, ⟨hl4, T4⟩, n4, z4, J⟩
        obtain ⟨t, rfl, ht⟩ := hy x (List.mem_of_getElem? hx)
        have e5 : (ys.map (kOf H'))[i]? = some (kOf H' (.ref t)) := by rw [List.getElem?_map, hx]; rfl
        have tk : (ys.map (kOf H')).take (i + 1) = (ys.map (kOf H')).take i ++ [kOf H' (.ref t)] := by rw [List.take_succ, e5]; rfl
        have hs5 : ∀ p ∈ (ys.map (kOf H')).take i, p.1 ≤ (kOf H' (.ref t)).1 := fun p hp => by
          have il := getq_lt e5
          have sp := so
          rw [← List.take_append_drop i (ys.map (kOf H'))] at sp
          have dr : (ys.map (kOf H')).drop i = kOf H' (.ref t) :: (ys.map (kOf H')).drop (i + 1) := by
            rw [List.drop_eq_getElem_cons il]
            congr 1
            rw [List.getElem?_eq_getElem il] at e5
            exact Option.some.inj e5
          exact (List.pairwise_append.mp sp).2.2 p hp _ (by rw [dr]; exact List.mem_cons_self)
        have tl : t ∉ [l] := fun z => by
          rw [List.mem_singleton.mp z] at ht
          have := s3 _ _ ht
          rw [hl3] at this
          cases this
        have ht4 := c4.at tl (s3 _ _ ht)
        generalize kOf H' (.ref t) = p at e5 tk hs5 ht4
        refine two_to ht4 ?_
        o_args
        refine ⟨_, truL hl4, ?_⟩
        have zl := T4.1
        have i6 : i < 100000 := by have := getq_lt hx; omega
        have fin : ∀ H5 ts' rs', Ch [l] H4 H5 → RunsL l ts' rs' H5 → (∀ t ∈ ts', H t = none) → rs'.length ≤ i + 1 → Jnd ((ys.map (kOf H')).take i ++ [p]) rs' → ∃ a b ts rs, [some (V.ref q), some (V.ref l), some (.int p.1), some (.int p.2), none] = [some (.ref q), some (.ref l), a, b, none] ∧ Ch [l] H3 H5 ∧ RunsL l ts rs H5 ∧ (∀ t ∈ ts, H t = none) ∧ rs.length ≤ i + 1 ∧ Jnd ((ys.map (kOf H')).take (i + 1)) rs := fun H5 ts' rs' c5 r5 n5 z5 J5 =>
          ⟨_, _, ts', rs', rfl, c4.trans c5, r5, n5, z5, by rw [tk]; exact J5⟩
        have new : ∀ {u}, H4 u = none → H u = none := fun nu => ((Ch.of S3).trans c4).none nu
        rcases snoc_or rs with rfl | ⟨ra, r, rfl⟩
        · have e0 : ts = [] := List.eq_nil_of_length_eq_zero zl
          subst e0
          o_args
          refine brT rfl ?_
          o_args
          refine brD (fun c => ?_) (fun c => ?_)
          · o_args
            refine ⟨isList hl4, ?_⟩
            o_args
            refine newTup (by simp) fun u H5 nu s5 h5 => ?_
            o_args
            refine appList (s5 _ _ hl4) (by simp) fun H6 s6 h6 => ?_
            o_args
            have ul : u ≠ l := (ne_of_none hl4 nu).symm
            exact fin H6 [u] [p] ((Ch.of s5).trans (Ch.ofX (by simp) s6 h6)) ⟨h6, Tups.snoc (ts := []) (rs := []) .nil (s6 _ _ ul h5)⟩ (fun t ht => by rw [List.mem_singleton.mp ht]; exact new nu) (by simp) (J.push (runs := []) hs5 (fun _ h => nomatch h) c)
          · o_args
            exact fin H4 [] [] Ch.refl ⟨hl4, T4⟩ n4 (by simp) (J.skip (by omega))
        · obtain ⟨ta, tr, rfl⟩ : ∃ a x, ts = a ++ [x] := (snoc_or ts).resolve_left fun z => by rw [z] at zl; simp at zl
          have hl5 : H4 l = some (.lst (ta.map V.ref ++ [V.ref tr])) := by rw [hl4, List.map_append]; rfl
          obtain ⟨Ti, Tr⟩ := T4.init
          o_args
          refine brF (by simp) ?_
          o_args
          refine ixLast hl5 ?_
          o_args
          refine brD (fun c => ?_) (fun c => ?_)
          · o_args
            refine ixLast hl5 ?_
            o_args
            refine ixLast hl5 ?_
            o_args
            refine newTup (by simp) fun u H5 nu s5 h5 => ?_
            o_args
            refine setLast (s5 _ _ hl5) fun H6 s6 h6 => ?_
            have ul : u ≠ l := (ne_of_none hl4 nu).symm
            have Ti6 : Tups H6 ta ra := (Ti.same s5).ch (Ch.ofX (a := l) (G := [l]) (by simp) s6 h6) fun t ht z => (Ti.lst_ne hl4 t ht) (List.mem_singleton.mp z)
            o_args
            refine fin H6 (ta ++ [u]) (ra ++ [(r.1, max r.2 p.2)]) ((Ch.of s5).trans (Ch.ofX (by simp) s6 h6)) ⟨by rw [h6, List.map_append]; rfl, Ti6.snoc (r := (r.1, max r.2 p.2)) (s6 _ _ ul h5)⟩ (fun t ht => ?_) (by simp at z4 ⊢; omega) (J.glue hs5 c)
            rcases List.mem_append.mp ht with ht | ht
            · exact n4 t (List.mem_append_left _ ht)
            · rw [List.mem_singleton.mp ht]; exact new nu
          · o_args
            refine brD (fun c2 => ?_) (fun c2 => ?_)
            · o_args
              refine ⟨isList hl4, ?_⟩
              o_args
              refine newTup (by simp) fun u H5 nu s5 h5 => ?_
              o_args
              refine appList (s5 _ _ hl4) (by rw [List.length_map, zl]; omega) fun H6 s6 h6 => ?_
              have ul : u ≠ l := (ne_of_none hl4 nu).symm
              have T6 : Tups H6 (ta ++ [tr]) (ra ++ [r]) := (T4.same s5).ch (Ch.ofX (a := l) (G := [l]) (by simp) s6 h6) fun t ht z => (T4.lst_ne hl4 t ht) (List.mem_singleton.mp z)
              o_args
              refine fin H6 (ta ++ [tr] ++ [u]) (ra ++ [r] ++ [p]) ((Ch.of s5).trans (Ch.ofX (by simp) s6 h6)) ⟨by rw [h6, List.map_append (l₂ := [u])]; rfl, T6.snoc (s6 _ _ ul h5)⟩ (fun t ht => ?_) (by simp at z4 ⊢; omega) (J.push hs5 (J.nrm.ends (by omega)) c2)
              rcases List.mem_append.mp ht with ht | ht
              · exact n4 t ht
              · rw [List.mem_singleton.mp ht]; exact new nu
            · o_args
              exact fin H4 (ta ++ [tr]) (ra ++ [r]) Ch.refl ⟨hl4, T4⟩ n4 (by omega) (J.skip (by omega))
      · rintro σ H4 ⟨a, b, ts, rs, rfl, c4, r4, n4, z4, J⟩
        rw [List.take_of_length_le (by rw [List.length_map]; exact Nat.le_refl _)] at J
        o_args
        refine k l ts rs H4 nl n4 ((((Ch.of S3).trans c4).more (F := [l]) (fun _ h => h)) |> fun c => Ch.same ((c).drop nl)) r4 (by omega) J.nrm (fun o => ?_) (fun r hr => ?_)
        · rw [J.mem o]
          exact ⟨fun ⟨r, h1, h2⟩ => ⟨r, hq.mem_iff.mp h1, h2⟩, fun ⟨r, h1, h2⟩ => ⟨r, hq.mem_iff.mpr h1, h2⟩⟩
        · obtain ⟨p, h1, h2⟩ := J.lo r hr
          exact ⟨p, hq.mem_iff.mp h1, h2⟩
def sp_missing (K : PySem.W.Frag) : Sp := fun vs H Q _ => ∃ (l : Addr) (ts : List Addr) (rs : List Run) (lo hi : Int), vs = [.ref l, .int lo, .int hi] ∧ RunsL l ts rs H ∧ Nrm rs ∧ rs.length < 50000 ∧
  ∀ l' ts' out H', H l' = none → (∀ t ∈ ts', H t = none) → Same H H' → RunsL l' ts' out H' → out.length ≤ rs.length + 1 → Nrm out → (∀ q ∈ out, lo ≤ q.1 ∧ q.2 ≤ hi) → (∀ o, Mem o out ↔ lo ≤ o ∧ o < hi ∧ ¬ Mem o rs) → Q (.ref l') H'
theorem ok_missing (T : Txt K mg) : FnOk P w K mg base CX0 1 T.a_missing T.fd_missing ["runs", "low", "high"] (sp_missing K) := by
  have S := sc_missing
  refine T.F_missing.ok S (fun vs H Q E h => ?_) (fun cdv A outer s H vs Q E hr h => ?_)
  · obtain ⟨l, ts, rs, lo, hi, rfl, _⟩ := h
    rfl
  · obtain ⟨l, ts, rs, lo, hi, rfl, hR, hN, hz, k⟩ := h
    refine ⟨_, (pss_cons (ps_set (i := 3) S.nd rfl (Or.inl rfl) (pe_lst pa_nil))
      (pss_cons (ps_set (i := 4) S.nd rfl (Or.inl rfl) (pv 1))
      (pss_cons (ps_for PassesOwn.never rfl (pi_list (pv 0)) (pg_tup rfl (pgs_cons (pg_name (i := 5) S.nd rfl (Or.inl rfl)) (pgs_cons (pg_name (i := 6) S.nd rfl (Or.inl rfl)) pgs_nil))) (pss_cons (ps_if (pt_cmpR op_lt (pv 4) (pe_callB (id := "min") (call_min2K rfl) (by rfl) T.b_min (by decide +kernel) (pa_cons (pv 5) (pa_cons (pv 2) pa_nil))) (nomark _)) (pss_one (ps_expr (pe_bm PySem.F.plainAttrs_list PySem.F.slot_list_append PySem.F.type_list_append mt_append (pv 3) (pa_cons (pe_tup (pa_cons (pv 4) (pa_cons (pe_callB (id := "min") (call_min2K rfl) (by rfl) T.b_min (by decide +kernel) (pa_cons (pv 5) (pa_cons (pv 2) pa_nil))) pa_nil))) pa_nil)))) pss_nil)
      (pss_one (ps_set (i := 4) S.nd rfl (Or.inl rfl) (pe_callB (id := "max") (call_max2K rfl) (by rfl) T.b_max (by decide +kernel) (pa_cons (pv 4) (pa_cons (pv 6) pa_nil)))))))
      (pss_cons (ps_if (pt_cmpR op_lt (pv 4) (pv 2) (nomark _)) (pss_one (ps_expr (pe_bm PySem.F.plainAttrs_list PySem.F.slot_list_append PySem.F.type_list_append mt_append (pv 3) (pa_cons (pe_tup (pa_cons (pv 4) (pa_cons (pv 2) pa_nil))) pa_nil)))) pss_nil)
      (pss_one (ps_ret (pv 3))))))), ?_⟩
    refine st_missing ?_
    o_args
    refine newList (by simp) fun f H1 nf s1 h1 => ?_
    have hR1 := hR.same s1
    have lf : l ∉ [f] := fun z => ne_of_none hR.1 nf (List.mem_singleton.mp z)
    have tf : ∀ t ∈ ts, t ∉ [f] := fun t ht z => (hR1.2.lst_ne h1 t ht) (List.mem_singleton.mp z)
    have new : ∀ {H4 u}, Ch [f] H1 H4 → H4 u = none → H u = none := fun c nu => ((Ch.of s1).trans c).none nu
    o_args
    refine overL (SqL.of hR1.1) (for_list (K := K) (a := l) (xs := ts.map V.ref) (fun i σ H' => ∃ a b ts' out at_, σ = [some (.ref l), some (.int lo), some (.int hi), some (.ref f), some (.int at_), a, b] ∧ Ch [f] H1 H' ∧ RunsL f ts' out H' ∧ (∀ t ∈ ts', H t = none) ∧ out.length ≤ i ∧ Msg lo hi at_ (rs.take i) out) ⟨none, none, [], [], lo, rfl, Ch.refl, ⟨h1, .nil⟩, (fun _ h => nomatch h), Nat.le_refl _, Msg.start⟩ (fun i σ H' _ ⟨_, _, _, _, _, _, c, _⟩ => SqL.of (c.at lf hR1.1)) ?_ ?_)
    · rintro i x σ H2 hx ⟨a, b, ts', out, at_, rfl, c2, r2, n2, z2, M⟩
      have il := getq_lt hx
      rw [List.length_map, hR.len] at il
      obtain ⟨t, e1, e2, ht⟩ := hR1.at (List.getElem?_eq_getElem il)
      rw [e2] at hx
      cases hx
      have ht2 := c2.at (tf t (List.mem_of_getElem? e1)) ht
      have rn := hN.1 _ (List.getElem_mem il)
      have tk : rs.take (i + 1) = rs.take i ++ [rs[i]] := by rw [List.take_succ, List.getElem?_eq_getElem il]; rfl
      have rp : ∀ q ∈ rs.take i, q.2 < rs[i].1 := fun q hq => by
        have sp := hN.2
        rw [← List.take_append_drop i rs] at sp
        exact (List.pairwise_append.mp sp).2.2 q hq _ (by rw [List.drop_eq_getElem_cons il]; exact List.mem_cons_self)
      have M2 := M.step rn rp
      generalize rs[i] = r at ht2 M2 tk
      have r2l := r2.len
      refine two_to ht2 ?_
      o_args
      refine brD (fun c => ?_) (fun c => ?_)
      · rw [if_pos c] at M2
        o_args
        refine ⟨isList r2.1, ?_⟩
        o_args
        refine newTup (by simp) fun u H3 nu s3 h3 => ?_
        o_args
        refine appList (s3 _ _ r2.1) (by rw [List.length_map]; omega) fun H4 s4 h4 => ?_
        have uf : u ≠ f := (ne_of_none r2.1 nu).symm
        have T4 : Tups H4 ts' out := (r2.2.same s3).ch (Ch.ofX (a := f) (G := [f]) (by simp) s4 h4) fun t ht z => (r2.2.lst_ne r2.1 t ht) (List.mem_singleton.mp z)
        o_args
        refine ⟨_, _, ts' ++ [u], _, _, rfl, (c2.trans (Ch.of s3)).trans (Ch.ofX (by simp) s4 h4), ⟨by rw [h4, List.map_append]; rfl, T4.snoc (s4 _ _ uf h3)⟩, fun t ht => ?_, by simp; omega, by rw [tk]; exact M2⟩
        rcases List.mem_append.mp ht with ht | ht
        · exact n2 t ht
        · rw [List.mem_singleton.mp ht]; exact new c2 nu
      · rw [if_neg c] at M2
        o_args
        exact ⟨_, _, ts', out, _, rfl, c2, r2, n2, by omega, by rw [tk]; exact M2⟩
    · rintro σ H2 ⟨a, b, ts', out, at_, rfl, c2, r2, n2, z2, M⟩
      rw [List.take_of_length_le (by rw [List.length_map, hR.len]; exact Nat.le_refl _)] at M
      rw [List.length_map, hR.len] at z2
      have r2l := r2.len
      obtain ⟨o', eo, d1, d2, d3⟩ := M.done
      o_args
      refine brD (fun c => ?_) (fun c => ?_)
      · rw [if_pos c] at eo
        subst eo
        o_args
        refine ⟨isList r2.1, ?_⟩
        o_args
        refine newTup (by simp) fun u H3 nu s3 h3 => ?_
        o_args
        refine appList (s3 _ _ r2.1) (by rw [List.length_map]; omega) fun H4 s4 h4 => ?_
        have uf : u ≠ f := (ne_of_none r2.1 nu).symm
        have T4 : Tups H4 ts' out := (r2.2.same s3).ch (Ch.ofX (a := f) (G := [f]) (by simp) s4 h4) fun t ht z => (r2.2.lst_ne r2.1 t ht) (List.mem_singleton.mp z)
        o_args
        refine k f (ts' ++ [u]) _ H4 nf (fun t ht => ?_) (Ch.same ((((Ch.of s1).trans (c2.trans (Ch.of s3))).trans (Ch.ofX (by simp) s4 h4)).drop nf)) ⟨by rw [h4, List.map_append]; rfl, T4.snoc (s4 _ _ uf h3)⟩ (by simp; omega) d1 d2 d3
        rcases List.mem_append.mp ht with ht | ht
        · exact n2 t ht
        · rw [List.mem_singleton.mp ht]; exact new c2 nu
      · rw [if_neg c] at eo
        subst eo
        o_args
        exact k f ts' _ H2 nf n2 (Ch.same (((Ch.of s1).trans c2).drop nf)) r2 (by omega) d1 d2 d3
def sp_common (K : PySem.W.Frag) : Sp := fun vs H Q _ => ∃ (l1 l2 : Addr) (ts1 ts2 : List Addr) (F S : List Run), vs = [.ref l1, .ref l2] ∧ RunsL l1 ts1 F H ∧ RunsL l2 ts2 S H ∧ Nrm F ∧ Nrm S ∧ F.length < 50000 ∧ S.length < 50000 ∧
  ∀ l' ts' out H', H l' = none → (∀ t ∈ ts', H t = none) → Same H H' → RunsL l' ts' out H' → out.length ≤ F.length + S.length → Nrm out → (∀ q ∈ out, ∃ a ∈ F, a.1 ≤ q.1) → (∀ o, Mem o out ↔ Mem o F ∧ Mem o S) → Q (.ref l') H'
theorem ok_common (T : Txt K mg) : FnOk P w K mg base CX0 1 T.a_common T.fd_common ["first", "second"] (sp_common K) := by
  have S := sc_common
  refine T.F_common.ok S (fun vs H Q E h => ?_) (fun cdv A outer s H vs Q E hr h => ?_)
  · obtain ⟨l1, l2, ts1, ts2, F, S, rfl, _⟩ := h
    rfl
  · obtain ⟨l1, l2, ts1, ts2, F, S', rfl, hR1, hR2, hN1, hN2, z1, z2, k⟩ := h
    refine ⟨_, (pss_cons (ps_set (i := 2) S.nd rfl (Or.inl rfl) (pe_lst pa_nil))
      (pss_cons (ps_asg2 pe_int (pg_name (i := 3) S.nd rfl (Or.inl rfl)) (pg_name (i := 4) S.nd rfl (Or.inl rfl)))
      (pss_cons (ps_while PassesOwn.never (PW.pt (pw_and (pt_cmpR op_lt (pv 3) (pe_callB (id := "len") (call_lenK (K := K) rfl) (by rfl) T.b_len (by decide +kernel) (pa_cons (pv 0) pa_nil)) (nomark _)) (pw_and1 (pt_cmpR op_lt (pv 4) (pe_callB (id := "len") (call_lenK (K := K) rfl) (by rfl) T.b_len (by decide +kernel) (pa_cons (pv 1) pa_nil)) (nomark _))))) (pss_cons (ps_set (i := 5) S.nd rfl (Or.inl rfl) (pe_callB (id := "max") (call_max2K rfl) (by rfl) T.b_max (by decide +kernel) (pa_cons (pe_ix ix_tup (pe_ix ix_list (pv 0) (pv 3) (fun _ _ => rfl)) pe_int (fun _ _ => rfl)) (pa_cons (pe_ix ix_tup (pe_ix ix_list (pv 1) (pv 4) (fun _ _ => rfl)) pe_int (fun _ _ => rfl)) pa_nil))))
      (pss_cons (ps_set (i := 6) S.nd rfl (Or.inl rfl) (pe_callB (id := "min") (call_min2K rfl) (by rfl) T.b_min (by decide +kernel) (pa_cons (pe_ix ix_tup (pe_ix ix_list (pv 0) (pv 3) (fun _ _ => rfl)) pe_int (fun _ _ => rfl)) (pa_cons (pe_ix ix_tup (pe_ix ix_list (pv 1) (pv 4) (fun _ _ => rfl)) pe_int (fun _ _ => rfl)) pa_nil))))
      (C8.pss_cut (ps_if (pt_cmpR op_lt (pv 5) (pv 6) (nomark _)) (pss_one (ps_expr (pe_bm PySem.F.plainAttrs_list PySem.F.slot_list_append PySem.F.type_list_append mt_append (pv 2) (pa_cons (pe_tup (pa_cons (pv 5) (pa_cons (pv 6) pa_nil))) pa_nil)))) pss_nil)
      (pss_one (ps_if (pt_cmpR op_lt (pe_ix ix_tup (pe_ix ix_list (pv 0) (pv 3) (fun _ _ => rfl)) pe_int (fun _ _ => rfl)) (pe_ix ix_tup (pe_ix ix_list (pv 1) (pv 4) (fun _ _ => rfl)) pe_int (fun _ _ => rfl)) (nomark _)) (pss_one (ps_aug (i := 3) S.nd rfl (.inl rfl) pe_int ip_add)) (pss_one (ps_aug (i := 4) S.nd rfl (.inl rfl) pe_int ip_add))))))))
      (pss_one (ps_ret (pv 2)))))), ?_⟩
    refine st_common ?_
    o_args
    refine newList (by simp) fun f H1 nf s1 h1 => ?_
    have hF := hR1.same s1
    have hG := hR2.same s1
    have lf : l1 ∉ [f] := fun z => ne_of_none hR1.1 nf (List.mem_singleton.mp z)
    have mf : l2 ∉ [f] := fun z => ne_of_none hR2.1 nf (List.mem_singleton.mp z)
    have tf : ∀ t ∈ ts1, t ∉ [f] := fun t ht z => (hF.2.lst_ne h1 t ht) (List.mem_singleton.mp z)
    have uf : ∀ t ∈ ts2, t ∉ [f] := fun t ht z => (hG.2.lst_ne h1 t ht) (List.mem_singleton.mp z)
    have new : ∀ {H4 u}, Ch [f] H1 H4 → H4 u = none → H u = none := fun c nu => ((Ch.of s1).trans c).none nu
    o_args
    refine ⟨fun m σ H' => ∃ (i j : Nat) (lv hv : Option V) (ts' : List Addr) (out : List Run), m = (F.length - i) + (S'.length - j) ∧ i ≤ F.length ∧ j ≤ S'.length ∧ σ = [some (.ref l1), some (.ref l2), some (.ref f), some (.int (i : Int)), some (.int (j : Int)), lv, hv] ∧ Ch [f] H1 H' ∧ RunsL f ts' out H' ∧ (∀ t ∈ ts', H t = none) ∧ out.length ≤ i + j ∧ Com F S' (F.drop i) (S'.drop j) out, ⟨_, 0, 0, none, none, [], [], rfl, Nat.zero_le _, Nat.zero_le _, rfl, Ch.refl, ⟨h1, .nil⟩, (fun _ h => nomatch h), Nat.le_refl _, Com.start hN1 hN2⟩, ?_⟩
    rintro m σ H2 ⟨i, j, lv, hv, ts', out, rfl, hi, hj, rfl, c2, r2, n2, zo, C⟩
    have f2 := hF.ch c2 lf tf
    have g2 := hG.ch c2 mf uf
    have r2l := r2.len
    have fin : i = F.length ∨ j = S'.length → Q (.ref f) H2 := fun e => by
      obtain ⟨d1, d2, d3⟩ := C.done (e.elim (fun e => .inl (List.drop_eq_nil_of_le (by omega))) fun e => .inr (List.drop_eq_nil_of_le (by omega)))
      exact k f ts' out H2 nf n2 (Ch.same (((Ch.of s1).trans c2).drop nf)) r2 (by omega) d1 d2 d3
    o_args
    refine lenA (SeqA.lst f2.1) ?_
    o_args
    rw [List.length_map, f2.len]
    refine brD (fun q1 => ?_) (fun q1 => ?_)
    · o_args
      refine lenA (SeqA.lst g2.1) ?_
      o_args
      rw [List.length_map, g2.len]
      refine brD (fun q2 => ?_) (fun q2 => ?_)
      · have i1 : i < F.length := by omega
        have j1 : j < S'.length := by omega
        obtain ⟨t, _, e1, ht⟩ := f2.at (List.getElem?_eq_getElem i1)
        obtain ⟨u, _, e2, hu⟩ := g2.at (List.getElem?_eq_getElem j1)
        have eF := List.drop_eq_getElem_cons i1
        have eS := List.drop_eq_getElem_cons j1
        rw [eF, eS] at C
        generalize F[i] = a at ht C eF
        generalize S'[j] = b at hu C eS
        refine ⟨fun σ' H' => ∃ m', m' < (F.length - i) + (S'.length - j) ∧ ∃ (i j : Nat) (lv hv : Option V) (ts' : List Addr) (out : List Run), m' = (F.length - i) + (S'.length - j) ∧ i ≤ F.length ∧ j ≤ S'.length ∧ σ' = [some (.ref l1), some (.ref l2), some (.ref f), some (.int (i : Int)), some (.int (j : Int)), lv, hv] ∧ Ch [f] H1 H' ∧ RunsL f ts' out H' ∧ (∀ t ∈ ts', H t = none) ∧ out.length ≤ i + j ∧ Com F S' (F.drop i) (S'.drop j) out, fun _ _ h => h, ?_⟩
        o_args
        refine ixL f2.1 e1 ?_
        o_args
        refine ixL g2.1 e2 ?_
        o_args
        refine ixL f2.1 e1 ?_
        o_args
        refine ixL g2.1 e2 ?_
        o_args
        refine ⟨fun σ H' => ∃ lv hv ts'', σ = [some (.ref l1), some (.ref l2), some (.ref f), some (.int (i : Int)), some (.int (j : Int)), lv, hv] ∧ Ch [f] H2 H' ∧ RunsL f ts'' (piece a b out) H' ∧ (∀ t ∈ ts'', H t = none), ?_, ?_⟩
        · unfold piece
          o_args
          refine brD (fun c => ?_) (fun c => ?_)
          · rw [if_pos c]
            o_args
            refine ⟨isList r2.1, ?_⟩
            o_args
            refine newTup (by simp) fun v H3 nu s3 h3 => ?_
            o_args
            refine appList (s3 _ _ r2.1) (by rw [List.length_map]; omega) fun H4 s4 h4 => ?_
            have vf : v ≠ f := (ne_of_none r2.1 nu).symm
            have T4 : Tups H4 ts' out := (r2.2.same s3).ch (Ch.ofX (a := f) (G := [f]) (by simp) s4 h4) fun t ht z => (r2.2.lst_ne r2.1 t ht) (List.mem_singleton.mp z)
            o_args
            refine ⟨_, _, ts' ++ [v], rfl, (Ch.of s3).trans (Ch.ofX (by simp) s4 h4), ⟨by rw [h4, List.map_append]; rfl, T4.snoc (s4 _ _ vf h3)⟩, fun t ht => ?_⟩
            rcases List.mem_append.mp ht with ht | ht
            · exact n2 t ht
            · rw [List.mem_singleton.mp ht]; exact new c2 nu
          · rw [if_neg c]
            o_args
            exact ⟨_, _, ts', rfl, Ch.refl, r2, n2⟩
        · rintro σ H3 ⟨lv', hv', ts'', rfl, c3, r3, n3⟩
          have f3 := hF.ch (c2.trans c3) lf tf
          have g3 := hG.ch (c2.trans c3) mf uf
          have ht3 := c3.at (tf t (by
            obtain ⟨k', e⟩ := List.mem_iff_getElem?.mp (List.mem_of_getElem? e1)
            rw [List.getElem?_map] at e1
            cases q : ts1[i]? with
            | none => rw [q] at e1; cases e1
            | some x => rw [q] at e1; cases e1; exact List.mem_of_getElem? q)) ht
          have hu3 := c3.at (uf u (by
            rw [List.getElem?_map] at e2
            cases q : ts2[j]? with
            | none => rw [q] at e2; cases e2
            | some x => rw [q] at e2; cases e2; exact List.mem_of_getElem? q)) hu
          have pz : (piece a b out).length ≤ out.length + 1 := by
            unfold piece
            split
            · simp
            · omega
          o_args
          refine ixL f3.1 e1 ?_
          o_args
          refine ixL g3.1 e2 ?_
          o_args
          refine brD (fun c => ?_) (fun c => ?_)
          · o_args
            refine ⟨_, rfl, ?_⟩
            o_args
            exact ⟨(F.length - (i + 1)) + (S'.length - j), by omega, i + 1, j, _, _, ts'', _, rfl, by omega, hj, rfl, c2.trans c3, r3, n3, by omega, by rw [eS]; exact C.left c⟩
          · o_args
            refine ⟨_, rfl, ?_⟩
            o_args
            exact ⟨(F.length - i) + (S'.length - (j + 1)), by omega, i, j + 1, _, _, ts'', _, rfl, hi, by omega, rfl, c2.trans c3, r3, n3, by omega, by rw [eF]; exact C.right c⟩
      · o_args
        exact fin (.inr (by omega))
    · o_args
      exact fin (.inl (by omega))
/-! ### sets of offsets -/
structure Offs (rs : List Run) : Prop where
  nrm : Nrm rs
  lo : ∀ r ∈ rs, 0 ≤ r.1
def sp_without (K : PySem.W.Frag) : Sp := fun vs H Q _ => ∃ (l1 l2 : Addr) (ts1 ts2 : List Addr) (F S : List Run), vs = [.ref l1, .ref l2] ∧ RunsL l1 ts1 F H ∧ RunsL l2 ts2 S H ∧ Offs F ∧ Nrm S ∧ F.length < 40000 ∧ S.length < 40000 ∧
  ∀ l' ts' out H', H l' = none → (∀ t ∈ ts', H t = none) → Same H H' → RunsL l' ts' out H' → out.length ≤ F.length + S.length + 1 → Offs out → (∀ o, Mem o out ↔ Mem o F ∧ ¬ Mem o S) → Q (.ref l') H'
theorem ok_without (T : Txt K mg) : FnOk P w K mg base CX0 2 T.a_without T.fd_without ["first", "second"] (sp_without K) := by
  have S := sc_without
  refine T.F_without.ok S (fun vs H Q E h => ?_) (fun cdv A outer s H vs Q E hr h => ?_)
  · obtain ⟨l1, l2, ts1, ts2, F, S, rfl, _⟩ := h
    rfl
  · obtain ⟨l1, l2, ts1, ts2, F, S', rfl, hR1, hR2, hF, hS, z1, z2, k⟩ := h
    refine ⟨_, (pss_cons (ps_set (i := 2) S.nd rfl (Or.inl rfl) (pe_ifExp (pt_truth (pv 0) (fun _ => rfl)) (pe_ix ix_tup (pe_ix ix_list (pv 0) (pe_un un_neg pe_int) (fun _ _ => rfl)) pe_int (fun _ _ => rfl)) pe_int))
      (pss_one (ps_ret (pe_call (ok_common T) (hr.mono (by decide)) rfl T.g_common T.F_common.kp T.B_common .nil pass0 (pa_cons (pv 0) (pa_cons (pe_call (ok_missing T) (hr.mono (by decide)) rfl T.g_missing T.F_missing.kp T.B_missing .nil pass0 (pa_cons (pv 1) (pa_cons pe_int (pa_cons (pv 2) pa_nil)))) pa_nil)))))), ?_⟩
    refine st_without ?_
    o_args
    have go : ∀ e : Int, (∀ o, Mem o F → 0 ≤ o ∧ o < e) → sp_missing K ([V.ref l2, V.int 0, V.int e] ++ []) H (fun x H1 => tNil [some (.ref l1), some (.ref l2), some (.int e)] H1 fun xs H2 => sp_common K (V.ref l1 :: x :: xs ++ []) H2 (fun x H1 => Q x H1) E0) E0 := fun e he => by
      refine ⟨l2, ts2, S', 0, e, rfl, hR2, hS, by omega, fun m us out H1 nm nu s1 r1 zo n1 b1 m1 => ?_⟩
      o_args
      refine ⟨l1, m, ts1, us, F, out, rfl, hR1.same s1, r1, hF.nrm, n1, by omega, by omega, fun l' ts' out' H2 nl' nt s2 r2 zo' n2 b2 m2 => ?_⟩
      o_args
      refine k l' ts' out' H2 (none_of s1 nl') (fun t ht => none_of s1 (nt t ht)) (s1.trans s2) r2 (by omega) ⟨n2, fun r hr => ?_⟩ (fun o => ?_)
      · obtain ⟨a, ha, h⟩ := b2 r hr
        have := hF.lo a ha; omega
      · rw [m2 o, m1 o]
        exact ⟨fun ⟨h1, _, _, h2⟩ => ⟨h1, h2⟩, fun ⟨h1, h2⟩ => ⟨h1, (he o h1).1, (he o h1).2, h2⟩⟩
    refine ⟨_, truL hR1.1, ?_⟩
    have zl := hR1.len
    rcases snoc_or F with rfl | ⟨a, r, rfl⟩
    · have e0 : ts1 = [] := List.eq_nil_of_length_eq_zero zl
      subst e0
      o_args
      refine brT rfl ?_
      o_args
      exact go 0 fun o h => absurd h Mem.nil
    · obtain ⟨ta, tr, rfl⟩ : ∃ a x, ts1 = a ++ [x] := (snoc_or ts1).resolve_left fun z => by rw [z] at zl; simp at zl
      have hl5 : H l1 = some (.lst (ta.map V.ref ++ [V.ref tr])) := by rw [hR1.1, List.map_append]; rfl
      obtain ⟨Ti, Tr⟩ := hR1.2.init
      o_args
      refine brF (by simp) ?_
      o_args
      refine ixLast hl5 ?_
      o_args
      refine go r.2 fun o ⟨q, hq, h⟩ => ?_
      have := hF.lo q hq
      have := hF.nrm.le_last q hq
      omega
/-- at e: a set of the runs rs; what is named in F is none of its own -/
def SpA (C e : Addr) (F : List Addr) (rs : List Run) (H : Hp) : Prop := ∃ dx l ts, H e = some (.ins C dx [("_runs", .ref l)]) ∧ RunsL l ts rs H ∧ e ∉ F ∧ l ∉ F ∧ (∀ t ∈ ts, t ∉ F) ∧ Offs rs
section
variable {C e x : Addr} {F G : List Addr} {rs : List Run} {H H' : Hp}
theorem SpA.ch (S : SpA C e F rs H) (c : Ch G H H') (h : ∀ b ∈ G, b ∈ F) : SpA C e F rs H' := by
  obtain ⟨dx, l, ts, h1, h2, h3, h4, h5, h6⟩ := S
  exact ⟨dx, l, ts, c.at (fun z => h3 (h _ z)) h1, h2.ch c (fun z => h4 (h _ z)) (fun t ht z => h5 t ht (h _ z)), h3, h4, h5, h6⟩
theorem SpA.same (S : SpA C e F rs H) (s : Same H H') : SpA C e F rs H' := S.ch (Ch.of (G := []) s) (fun _ h => nomatch h)
theorem SpA.own (S : SpA C e F rs H) (hx : H x = none) (s : Same H H') : SpA C e (x :: F) rs H' := by
  obtain ⟨dx, l, ts, h1, h2, h3, h4, h5, h6⟩ := S
  have ne : ∀ {b o}, H b = some o → b ∉ F → b ∉ x :: F := fun e n z => by
    rcases List.mem_cons.mp z with z | z
    · rw [z, hx] at e; cases e
    · exact n z
  refine ⟨dx, l, ts, s _ _ h1, h2.same s, ne h1 h3, ne h2.1 h4, fun t ht => ?_, h6⟩
  obtain ⟨i, hi⟩ := List.mem_iff_getElem?.mp ht
  have l1 := getq_lt hi
  have l2 : i < rs.length := by have := h2.len; omega
  exact ne (h2.2.2 i t rs[i] hi (List.getElem?_eq_getElem l2)) (h5 t ht)
theorem SpA.less (S : SpA C e F rs H) (h : ∀ b ∈ G, b ∈ F) : SpA C e G rs H := by
  obtain ⟨dx, l, ts, h1, h2, h3, h4, h5, h6⟩ := S
  exact ⟨dx, l, ts, h1, h2, fun z => h3 (h _ z), fun z => h4 (h _ z), fun t ht z => h5 t ht (h _ z), h6⟩
theorem SpA.offs (S : SpA C e F rs H) : Offs rs := by
  obtain ⟨dx, l, ts, h1, h2, h3, h4, h5, h6⟩ := S
  exact h6
theorem SpA.at_ (S : SpA C e F rs H) : ∃ o, H e = some o := by
  obtain ⟨dx, l, ts, h1, _⟩ := S
  exact ⟨_, h1⟩
end
/-- what refuses a value that is told by its heap -/
def ErrT (Ce : Addr) (a b : V) (H : Hp) (E : XK) : Prop := ∀ t d H', Same H H' → H' t = some (.tup [a, b]) → H' d = some (.xd [("number", .ref t)]) → E (.ref Ce) (some d) H'
def sp_Spans_init_ (K : PySem.W.Frag) (C Ce : Addr) : Sp := fun vs H Q E => ∃ (p q dx : Addr) (xs : List V), vs = [.ref p, .ref q] ∧ H p = some (.ins C dx []) ∧ H q = some (.tup xs) ∧ xs.length < 50000 ∧
  ((∃ ps : List Run, xs.length = ps.length ∧ (∀ (i : Nat) x r, xs[i]? = some x → ps[i]? = some r → PairAt H x r ∧ 0 ≤ r.1 ∧ r.1 ≤ r.2) ∧ ∀ H' rs, Ch [p] H H' → (∀ F, Al F H → p ∉ F → SpA C p F rs H') → rs.length ≤ ps.length → (∀ o, Mem o rs ↔ Mem o ps) → Q .non H') ∨
   (∃ (j : Nat) (x : V), xs[j]? = some x ∧ BadPair K H x ∧ (∀ (i : Nat) y, i < j → xs[i]? = some y → ∃ r : Run, PairAt H y r ∧ 0 ≤ r.1 ∧ r.1 ≤ r.2) ∧ Err Ce "number" x H E))
theorem tyX_tup {K : PySem.W.Frag} {H : Hp} {t : Addr} {xs : List V} (h : H t = some (.tup xs)) : TyX K H (.ref t) (.type "tuple") := .base (.tup h)
theorem BadPair.same {K : PySem.W.Frag} {H H' : Hp} {x : V} (h : BadPair K H x) (s : Same H H') : BadPair K H' x := by
  rcases h with ⟨t, h1, h2⟩ | ⟨t, xs, rfl, hS, hb⟩
  · exact .inl ⟨t, tyX_same h1 s, h2⟩
  · refine .inr ⟨t, xs, rfl, hS.sm s, hb.imp id fun ⟨a, b, e, hb⟩ => ⟨a, b, e, hb.imp (fun h => h.same s) fun ⟨n, e, n0, h⟩ => ⟨n, e, n0, h.same s⟩⟩⟩
theorem ok_Spans_init_ (T : Txt K mg) : FnR P w K mg base (L2.CX P w) 4 T.a_Spans_init_ (starSp 1 (sp_Spans_init_ K T.c_Spans T.c_InvalidNumber)) := by
  have S := sc_Spans_init_
  refine okStarX T.F_Spans_init_ T.BS_Spans_init_ S (fun cdv A outer s H vs Q E hr h => ?_)
  obtain ⟨p, q, dx, xs, rfl, hp, hq, hz, h⟩ := h
  refine ⟨_, (pss_cons (ps_for (passes_of rfl) rfl (pi_tup (pv 1)) (pg_name (i := 2) S.nd rfl (Or.inl rfl)) (pss_one (ps_if (pt_not (pt_val (pe_call (ok_is_run T) (hr.mono (by decide)) rfl T.g_is_run T.F_is_run.kp T.B_is_run .nil pass0 (pa_cons (pv 2) pa_nil)))) (pss_one (ps_raise rfl (takes_of rfl rfl rfl rfl) (pmk_oex T.X_InvalidNumber.o T.X_InvalidNumber.i T.X_InvalidNumber.t (ok_InvalidNumber_init_ T) (hr.mono (by decide)) T.B_InvalidNumber_init_ .nil pass0 rfl T.X_InvalidNumber.g (pa_cons (pv 2) pa_nil)))) pss_nil)))
      (pss_one (ps_fld (pv 0) (pe_call (ok_joined T) (hr.mono (by decide)) rfl T.g_joined T.F_joined.kp T.B_joined .nil pass0 (pa_cons (pv 1) pa_nil)) rfl))), ?_⟩
  refine st_Spans_init_ ?_
  o_args
  rcases h with ⟨ps, hl, hp2, k⟩ | ⟨j, x, hj, hb, hg, hE⟩
  · refine overT (SqT.of hq) (for_tup (K := K) (a := q) (xs := xs) (fun i σ H' => ∃ v, σ = [some (.ref p), some (.ref q), v] ∧ Same H H') ⟨none, rfl, Same.refl _⟩ (fun i σ H' _ ⟨_, _, s⟩ => SqT.of (s _ _ hq)) ?_ ?_)
    · rintro i x σ H1 hx ⟨v, rfl, s1⟩
      have il : i < ps.length := by have := getq_lt hx; omega
      obtain ⟨g1, g2, g3⟩ := hp2 i x _ hx (List.getElem?_eq_getElem il)
      o_args
      refine ⟨x, rfl, .inl ⟨_, g1.same s1, g2, g3, fun H2 s2 => ?_⟩⟩
      o_args
      exact ⟨_, rfl, s1.trans s2⟩
    · rintro σ H1 ⟨v, rfl, s1⟩
      o_args
      refine ⟨q, xs, ps, rfl, SeqA.tup (s1 _ _ hq), by omega, hl, fun i x r h1 h2 => (hp2 i x r h1 h2).1.same s1, fun l ts rs H2 nl nt s2 r2 z2 n2 m2 lo2 => ?_⟩
      o_args
      refine fstore (s2 _ _ (s1 _ _ hp)) T.cl_Spans T.n_Spans__runs (Nat.le_of_ble_eq_true rfl) rfl fun H3 s3 h3 => ?_
      have S2 := s1.trans s2
      have c3 : Ch [p] H H3 := (Ch.of S2).trans (Ch.ofX (by simp) s3 h3)
      have np : ∀ {b o}, H2 b = some o → H b = none → b ≠ p := fun _ n z => by rw [z, hp] at n; cases n
      have cl : Ch [p] H2 H3 := Ch.ofX (by simp) s3 h3
      have tn : ∀ t ∈ ts, H t = none := fun t ht => none_of s1 (nt t ht)
      have ln : H l = none := none_of s1 nl
      o_args
      refine k H3 rs c3 (fun F A pF => ⟨dx, l, ts, h3, r2.ch cl (fun z => np r2.1 ln (List.mem_singleton.mp z)) (fun t ht z => ?_), pF, A.new ln, fun t ht => A.new (tn t ht), n2, fun r hr => ?_⟩) z2 m2
      · have := tn t ht
        rw [List.mem_singleton.mp z, hp] at this
        cases this
      · obtain ⟨p', hp', e⟩ := lo2 r hr
        obtain ⟨i, hi⟩ := List.mem_iff_getElem?.mp hp'
        have il := getq_lt hi
        have il2 : i < xs.length := by omega
        rw [e]
        exact (hp2 i xs[i] p' (List.getElem?_eq_getElem il2) hi).2.1
  · refine overT (SqT.of hq) (for_tup (K := K) (a := q) (xs := xs) (fun i σ H' => ∃ v, σ = [some (.ref p), some (.ref q), v] ∧ Same H H' ∧ i ≤ j) ⟨none, rfl, Same.refl _, Nat.zero_le _⟩ (fun i σ H' _ ⟨_, _, s, _⟩ => SqT.of (s _ _ hq)) ?_ ?_)
    · rintro i y σ H1 hy ⟨v, rfl, s1, ij⟩
      o_args
      by_cases e : i = j
      · subst e
        rw [hj] at hy
        cases hy
        refine ⟨x, rfl, .inr ⟨hb.same s1, fun H2 s2 => ?_⟩⟩
        o_args
        exact ⟨_, rfl, mkO_of T.X_InvalidNumber.o T.nX_InvalidNumber fun d H3 nd ss hx => hE d H3 ((s1.trans s2).trans ss) hx⟩
      · obtain ⟨r, g1, g2, g3⟩ := hg i y (by omega) hy
        refine ⟨y, rfl, .inl ⟨r, g1.same s1, g2, g3, fun H2 s2 => ?_⟩⟩
        o_args
        exact ⟨_, rfl, s1.trans s2, by omega⟩
    · rintro σ H1 ⟨v, rfl, s1, ij⟩
      have := getq_lt hj
      omega
theorem x_mkO {C : Addr} {sp : Sp} {dvs : List V} {ta : TA} {σ : L2.St} {H : Hp} {W : XK} (q : ta σ H fun vs H1 => vs.length ≤ 1000 ∧ ∀ a, H1 a = none → sp (.ref a :: (vs ++ dvs)) (upd H1 a (exo a C none))
  (fun v H2 => v = .non ∧ ∃ (d : Addr) (fs : List (Str × V)), H2 a = some (exo a C (some d)) ∧ H2 d = some (exd d fs) ∧ H1 d = none ∧ W (.ref C) (some d) (upd (del H2 a) d (.xd fs))) (fun _ _ _ => False)) : tMkO C sp dvs ta σ H W := q
def sp_Spans_rows (K : PySem.W.Frag) (C : Addr) : Sp := fun vs H Q _ => ∃ (e : Addr) (F : List Addr) (rs : List Run), vs = [.ref e] ∧ SpA C e F rs H ∧ ∀ l ts H', H l = none → Same H H' → RunsL l ts rs H' → Q (.ref l) H'
theorem ok_Spans_rows (T : Txt K mg) : FnOk P w K mg base CX0 1 T.a_Spans_rows T.fd_Spans_rows ["self"] (sp_Spans_rows K T.c_Spans) := by
  have S := sc_Spans_rows
  refine T.F_Spans_rows.ok S (fun vs H Q E h => ?_) (fun cdv A outer s H vs Q E hr h => ?_)
  · obtain ⟨e, F, rs, rfl, _⟩ := h
    rfl
  · obtain ⟨e, F, rs, rfl, ⟨dx, l, ts, he, hR, _⟩, k⟩ := h
    refine ⟨_, (pss_one (ps_ret (pe_callTy (T := "list") (call_listK (K := K) rfl) (by rfl) T.b_list (by decide +kernel) (pa_cons (pe_fld (pv 0) rfl) pa_nil)))), ?_⟩
    refine st_Spans_rows ?_
    o_args
    refine fget he T.cl_Spans T.n_Spans__runs rfl ?_
    o_args
    refine listOf (.inl (SqL.of hR.1)) fun m H1 nm s1 h1 => ?_
    o_args
    exact k m ts H1 nm s1 ⟨h1, hR.2.same s1⟩
def sp_Spans_holding (K : PySem.W.Frag) (C : Addr) : Sp := fun vs H Q _ => ∃ (e : Addr) (F : List Addr) (rs : List Run) (x : V), vs = [.ref e, x] ∧ SpA C e F rs H ∧
  ((∃ o, x = .int o ∧ ((∃ r ∈ rs, r.1 ≤ o ∧ o < r.2 ∧ ∀ t H', Same H H' → H' t = some (.tup [.int r.1, .int r.2]) → Q (.ref t) H') ∨ (¬ Mem o rs ∧ Q .non H))) ∨ (IntK K H x false ∧ Q .non H))
theorem ok_Spans_holding (T : Txt K mg) : FnOk P w K mg base CX0 2 T.a_Spans_holding T.fd_Spans_holding ["self", "offset"] (sp_Spans_holding K T.c_Spans) := by
  have S := sc_Spans_holding
  refine T.F_Spans_holding.ok S (fun vs H Q E h => ?_) (fun cdv A outer s H vs Q E hr h => ?_)
  · obtain ⟨e, F, rs, x, rfl, _⟩ := h
    rfl
  · obtain ⟨e, F, rs, x, rfl, ⟨dx, l, ts, he, hR, _, _, _, hO⟩, h⟩ := h
    refine ⟨_, (pss_cons (ps_if (pt_not (pt_val (pe_call (ok_is_integer T) (hr.mono (by decide)) rfl T.g_is_integer T.F_is_integer.kp T.B_is_integer .nil pass0 (pa_cons (pv 1) pa_nil)))) (pss_one (ps_ret pe_non)) pss_nil)
      (pss_cons (ps_for PassesOwn.never rfl (pi_list (pe_fld (pv 0) rfl)) (pg_tup rfl (pgs_cons (pg_name (i := 2) S.nd rfl (Or.inl rfl)) (pgs_cons (pg_name (i := 3) S.nd rfl (Or.inl rfl)) pgs_nil))) (pss_one (ps_if (pt_chain op_le op_lt (pv 2) (pv 1) (pv 3)) (pss_one (ps_ret (pe_tup (pa_cons (pv 2) (pa_cons (pv 3) pa_nil))))) pss_nil)))
      (pss_one (ps_ret pe_non)))), ?_⟩
    refine st_Spans_holding ?_
    o_args
    rcases h with ⟨o, rfl, h⟩ | ⟨hx, k⟩
    · refine ⟨_, true, rfl, intK_int o, ?_⟩
      o_args
      refine fget he T.cl_Spans T.n_Spans__runs rfl ?_
      refine overL (SqL.of hR.1) (for_list (K := K) (a := l) (xs := ts.map V.ref) (fun i σ H' => ∃ a b, σ = [some (.ref e), some (.int o), a, b] ∧ H' = H ∧ ∀ r ∈ rs.take i, ¬ (r.1 ≤ o ∧ o < r.2)) ⟨none, none, rfl, rfl, fun _ h => nomatch h⟩ (fun i σ H' _ ⟨_, _, _, e, _⟩ => by rw [e]; exact SqL.of hR.1) ?_ ?_)
      · rintro i v σ H1 hv ⟨a, b, rfl, rfl, no⟩
        have il := getq_lt hv
        rw [List.length_map, hR.len] at il
        obtain ⟨t, _, e2, ht⟩ := hR.at (List.getElem?_eq_getElem il)
        rw [e2] at hv
        cases hv
        have tk : rs.take (i + 1) = rs.take i ++ [rs[i]] := by rw [List.take_succ, List.getElem?_eq_getElem il]; rfl
        have rm := List.getElem_mem il
        generalize rs[i] = r at tk ht rm
        refine two_to ht ?_
        o_args
        have skip : ¬ (r.1 ≤ o ∧ o < r.2) → ∀ q ∈ rs.take (i + 1), ¬ (q.1 ≤ o ∧ o < q.2) := fun c q hq => by
          rw [tk] at hq
          rcases List.mem_append.mp hq with hq | hq
          · exact no q hq
          · rw [List.mem_singleton.mp hq]; exact c
        have hit : r.1 ≤ o → o < r.2 → ∀ t H', Same H1 H' → H' t = some (.tup [.int r.1, .int r.2]) → Q (.ref t) H' := fun c1 c2 => by
          rcases h with ⟨q, hq, d1, d2, k⟩ | ⟨n, _⟩
          · have e := pair_uniq hO.nrm rm hq c1 c2 d1 d2
            rw [e]
            exact k
          · exact absurd ⟨r, rm, c1, c2⟩ n
        refine brD (fun c1 => ?_) (fun c1 => ?_)
        · o_args
          refine brD (fun c2 => ?_) (fun c2 => ?_)
          · o_args
            refine newTup (by simp) fun u H2 nu s2 h2 => ?_
            o_args
            exact hit c1 c2 u H2 s2 h2
          · o_args
            exact ⟨_, _, rfl, rfl, skip fun z => c2 z.2⟩
        · o_args
          exact ⟨_, _, rfl, rfl, skip fun z => c1 z.1⟩
      · rintro σ H1 ⟨a, b, rfl, rfl, no⟩
        rw [List.length_map, hR.len, List.take_length] at no
        o_args
        rcases h with ⟨q, hq, d1, d2, _⟩ | ⟨_, k⟩
        · exact absurd ⟨d1, d2⟩ (no q hq)
        · exact k
    · refine ⟨_, false, rfl, hx, ?_⟩
      o_args
      exact k
/-- ends that make no run -/
def BadEnds (K : PySem.W.Frag) (H : Hp) (a b : V) : Prop := Less K H a 0 ∨ ∃ n, a = .int n ∧ 0 ≤ n ∧ Less K H b n
def sp_Spans_put (K : PySem.W.Frag) (C Ce : Addr) : Sp := fun vs H Q E => ∃ (e : Addr) (F : List Addr) (rs : List Run) (lo hi : V), vs = [.ref e, lo, hi] ∧ SpA C e F rs H ∧ rs.length < 20000 ∧
  ((∃ a b, lo = .int a ∧ hi = .int b ∧ 0 ≤ a ∧ a ≤ b ∧ ∀ H' rs', Ch [e] H H' → (∀ G, Al G H → e ∉ G → SpA C e G rs' H') → rs'.length ≤ rs.length + 1 → (∀ o, Mem o rs' ↔ Mem o rs ∨ a ≤ o ∧ o < b) → Q .non H') ∨ (BadEnds K H lo hi ∧ ErrT Ce lo hi H E))
theorem ok_Spans_put (T : Txt K mg) : FnOk P w K mg base (L2.CX P w) 4 T.a_Spans_put T.fd_Spans_put ["self", "low", "high"] (sp_Spans_put K T.c_Spans T.c_InvalidNumber) := by
  have S := sc_Spans_put
  refine T.F_Spans_put.okX S (fun vs H Q E h => ?_) (fun cdv A outer s H vs Q E hr h => ?_)
  · obtain ⟨e, F, rs, lo, hi, rfl, _⟩ := h
    rfl
  · obtain ⟨e, F, rs, lo, hi, rfl, ⟨dx, l, ts, he, hR, _, _, _, hO⟩, hz, h⟩ := h
    refine ⟨_, (pss_cons (ps_if (pt_not (pt_val (pe_call (ok_is_run T) (hr.mono (by decide)) rfl T.g_is_run T.F_is_run.kp T.B_is_run .nil pass0 (pa_cons (pe_tup (pa_cons (pv 1) (pa_cons (pv 2) pa_nil))) pa_nil)))) (pss_one (ps_raise rfl (takes_of rfl rfl rfl rfl) (pmk_oex T.X_InvalidNumber.o T.X_InvalidNumber.i T.X_InvalidNumber.t (ok_InvalidNumber_init_ T) (hr.mono (by decide)) T.B_InvalidNumber_init_ .nil pass0 rfl T.X_InvalidNumber.g (pa_cons (pe_tup (pa_cons (pv 1) (pa_cons (pv 2) pa_nil))) pa_nil)))) pss_nil)
      (pss_one (ps_fld (pv 0) (pe_call (ok_joined T) (hr.mono (by decide)) rfl T.g_joined T.F_joined.kp T.B_joined .nil pass0 (pa_cons (pe_lst (StX.pa_star (pe_fld (pv 0) rfl) (pa_cons (pe_tup (pa_cons (pv 1) (pa_cons (pv 2) pa_nil))) pa_nil))) pa_nil)) rfl))), ?_⟩
    refine st_Spans_put ?_
    o_args
    refine newTup (by simp) fun u H1 nu s1 h1 => ?_
    o_args
    rcases h with ⟨a, b, rfl, rfl, a0, ab, k⟩ | ⟨hb, hE⟩
    · refine ⟨_, rfl, .inl ⟨(a, b), ⟨u, rfl, .inl h1⟩, a0, ab, fun H2 s2 => ?_⟩⟩
      have S2 := s1.trans s2
      o_args
      refine fget (S2 _ _ he) T.cl_Spans T.n_Spans__runs rfl ?_
      have hR2 := hR.same S2
      refine ⟨l, _, rfl, .inr (SqL.of hR2.1), ?_⟩
      o_args
      refine newTup (by simp) fun v H3 nv s3 h3 => ?_
      o_args
      refine newList (by simp [hR.len]; omega) fun m H4 nm s4 h4 => ?_
      have hR4 := (hR2.same s3).same s4
      o_args
      have lnn := hR.len
      refine ⟨m, ts.map V.ref ++ [.ref v], rs ++ [(a, b)], rfl, SeqA.lst h4, by simp; omega, by simp; omega, fun i x p hx hp => ?_, fun l' ts' rs' H5 nl nt s5 r5 z5 n5 m5 lo5 => ?_⟩
      · by_cases il : i < rs.length
        · rw [List.getElem?_append_left (by simp; omega)] at hx
          rw [List.getElem?_append_left il] at hp
          obtain ⟨t, _, e2, ht⟩ := hR4.at hp
          rw [e2] at hx
          cases hx
          exact ⟨t, rfl, .inl ht⟩
        · rw [List.getElem?_append_right (by simp; omega)] at hx
          rw [List.getElem?_append_right (by omega)] at hp
          have ip := getq_lt hp
          simp at ip
          rw [show i - rs.length = 0 by omega] at hp
          rw [show i - (ts.map V.ref).length = 0 by simp; omega] at hx
          cases hx
          cases hp
          exact ⟨v, rfl, .inl (s4 _ _ h3)⟩
      · have S4 := (S2.trans s3).trans s4
        o_args
        refine fstore ((S4.trans s5) _ _ he) T.cl_Spans T.n_Spans__runs (Nat.le_of_ble_eq_true rfl) rfl fun H6 s6 h6 => ?_
        have tn : ∀ t ∈ ts', H t = none := fun t ht => none_of S4 (nt t ht)
        have ln : H l' = none := none_of S4 nl
        have np : ∀ {b}, H b = none → b ∉ [e] := fun n z => by rw [List.mem_singleton.mp z, he] at n; cases n
        o_args
        refine k H6 rs' ((Ch.of (S4.trans s5)).trans (Ch.ofX (by simp) s6 h6)) (fun G A eG => ⟨dx, l', ts', h6, r5.ch (Ch.ofX (by simp) s6 h6) (np ln) (fun t ht => np (tn t ht)), eG, A.new ln, fun t ht => A.new (tn t ht), n5, fun r hr => ?_⟩) (by simp at z5; exact z5) (fun o => ?_)
        · obtain ⟨p, hp, e⟩ := lo5 r hr
          rw [e]
          rcases List.mem_append.mp hp with hp | hp
          · exact hO.lo p hp
          · rw [List.mem_singleton.mp hp]; exact a0
        · rw [m5 o, Mem.app, Mem.one]
    · refine ⟨_, rfl, .inr ⟨.inr ⟨u, _, rfl, SeqA.tup h1, .inr ⟨lo, hi, rfl, hb.imp (fun h => h.same s1) fun ⟨n, e, n0, h⟩ => ⟨n, e, n0, h.same s1⟩⟩⟩, fun H2 s2 => ?_⟩⟩
      o_args
      refine x_mkO ?_
      o_args
      refine newTup (by simp) fun v H3 nv s3 h3 => ?_
      o_args
      exact mkO_of T.X_InvalidNumber.o T.nX_InvalidNumber fun d H4 nd ss hx => hE v d H4 (((s1.trans s2).trans s3).trans ss) (ss _ _ h3) hx
def sp_Spans_drop (K : PySem.W.Frag) (C Ce : Addr) : Sp := fun vs H Q E => ∃ (e : Addr) (F : List Addr) (rs : List Run) (lo hi : V), vs = [.ref e, lo, hi] ∧ SpA C e F rs H ∧ rs.length < 20000 ∧
  ((∃ a b, lo = .int a ∧ hi = .int b ∧ 0 ≤ a ∧ a ≤ b ∧ ∀ H' rs', Ch [e] H H' → (∀ G, Al G H → e ∉ G → SpA C e G rs' H') → rs'.length ≤ rs.length + 2 → (∀ o, Mem o rs' ↔ Mem o rs ∧ ¬ (a ≤ o ∧ o < b)) → Q .non H') ∨ (BadEnds K H lo hi ∧ ErrT Ce lo hi H E))
theorem ok_Spans_drop (T : Txt K mg) : FnOk P w K mg base (L2.CX P w) 4 T.a_Spans_drop T.fd_Spans_drop ["self", "low", "high"] (sp_Spans_drop K T.c_Spans T.c_InvalidNumber) := by
  have S := sc_Spans_drop
  refine T.F_Spans_drop.okX S (fun vs H Q E h => ?_) (fun cdv A outer s H vs Q E hr h => ?_)
  · obtain ⟨e, F, rs, lo, hi, rfl, _⟩ := h
    rfl
  · obtain ⟨e, F, rs, lo, hi, rfl, ⟨dx, l, ts, he, hR, _, _, _, hO⟩, hz, h⟩ := h
    refine ⟨_, (pss_cons (ps_if (pt_not (pt_val (pe_call (ok_is_run T) (hr.mono (by decide)) rfl T.g_is_run T.F_is_run.kp T.B_is_run .nil pass0 (pa_cons (pe_tup (pa_cons (pv 1) (pa_cons (pv 2) pa_nil))) pa_nil)))) (pss_one (ps_raise rfl (takes_of rfl rfl rfl rfl) (pmk_oex T.X_InvalidNumber.o T.X_InvalidNumber.i T.X_InvalidNumber.t (ok_InvalidNumber_init_ T) (hr.mono (by decide)) T.B_InvalidNumber_init_ .nil pass0 rfl T.X_InvalidNumber.g (pa_cons (pe_tup (pa_cons (pv 1) (pa_cons (pv 2) pa_nil))) pa_nil)))) pss_nil)
      (pss_one (ps_fld (pv 0) (pe_call (ok_without T) (hr.mono (by decide)) rfl T.g_without T.F_without.kp T.B_without .nil pass0 (pa_cons (pe_fld (pv 0) rfl) (pa_cons (pe_call (ok_joined T) (hr.mono (by decide)) rfl T.g_joined T.F_joined.kp T.B_joined .nil pass0 (pa_cons (pe_lst (pa_cons (pe_tup (pa_cons (pv 1) (pa_cons (pv 2) pa_nil))) pa_nil)) pa_nil)) pa_nil))) rfl))), ?_⟩
    refine st_Spans_drop ?_
    o_args
    refine newTup (by simp) fun u H1 nu s1 h1 => ?_
    o_args
    rcases h with ⟨a, b, rfl, rfl, a0, ab, k⟩ | ⟨hb, hE⟩
    · refine ⟨_, rfl, .inl ⟨(a, b), ⟨u, rfl, .inl h1⟩, a0, ab, fun H2 s2 => ?_⟩⟩
      have S2 := s1.trans s2
      o_args
      refine fget (S2 _ _ he) T.cl_Spans T.n_Spans__runs rfl ?_
      have hR2 := hR.same S2
      o_args
      refine newTup (by simp) fun v H3 nv s3 h3 => ?_
      o_args
      refine newList (by simp) fun m H4 nm s4 h4 => ?_
      have hR4 := (hR2.same s3).same s4
      o_args
      refine ⟨m, [.ref v], [(a, b)], rfl, SeqA.lst h4, by simp, by simp, fun i x p hx hp => ?_, fun l' ts' rs' H5 nl nt s5 r5 z5 n5 m5 lo5 => ?_⟩
      · have ip := getq_lt hp
        simp at ip
        subst ip
        cases hx
        cases hp
        exact ⟨v, rfl, .inl (s4 _ _ h3)⟩
      · o_args
        simp at z5
        refine ⟨l, l', ts, ts', rs, rs', rfl, hR4.same s5, r5, hO, n5, by omega, by omega, fun l2 us out H6 nl2 nu2 s6 r6 z6 n6 m6 => ?_⟩
        have S5 := (((S2.trans s3).trans s4).trans s5)
        o_args
        refine fstore ((S5.trans s6) _ _ he) T.cl_Spans T.n_Spans__runs (Nat.le_of_ble_eq_true rfl) rfl fun H7 s7 h7 => ?_
        have tn : ∀ t ∈ us, H t = none := fun t ht => none_of S5 (nu2 t ht)
        have ln : H l2 = none := none_of S5 nl2
        have np : ∀ {b}, H b = none → b ∉ [e] := fun n z => by rw [List.mem_singleton.mp z, he] at n; cases n
        o_args
        refine k H7 out ((Ch.of (S5.trans s6)).trans (Ch.ofX (by simp) s7 h7)) (fun G A eG => ⟨dx, l2, us, h7, r6.ch (Ch.ofX (by simp) s7 h7) (np ln) (fun t ht => np (tn t ht)), eG, A.new ln, fun t ht => A.new (tn t ht), n6⟩) (by omega) (fun o => ?_)
        rw [m6 o, m5 o, Mem.one]
    · refine ⟨_, rfl, .inr ⟨.inr ⟨u, _, rfl, SeqA.tup h1, .inr ⟨lo, hi, rfl, hb.imp (fun h => h.same s1) fun ⟨n, e, n0, h⟩ => ⟨n, e, n0, h.same s1⟩⟩⟩, fun H2 s2 => ?_⟩⟩
      o_args
      refine x_mkO ?_
      o_args
      refine newTup (by simp) fun v H3 nv s3 h3 => ?_
      o_args
      exact mkO_of T.X_InvalidNumber.o T.nX_InvalidNumber fun d H4 nd ss hx => hE v d H4 (((s1.trans s2).trans s3).trans ss) (ss _ _ h3) hx
theorem for_rev {K : PySem.W.Frag} {a : Addr} {xs : List V} {g : TG} {tb : TS} {D : Ends} {σ : L2.St} {H : Hp} (Pv : Nat → L2.St → Hp → Prop) (h0 : Pv 0 σ H) (hl : ∀ i σ H, i ≤ xs.length → Pv i σ H → SqL K H a xs)
    (hs : ∀ i x σ H, i < xs.length → xs[xs.length - 1 - i]? = some x → Pv i σ H → g x σ H fun σ2 H2 => tb { D with nx := Pv (i + 1), ct := Pv (i + 1), bk := D.nx } σ2 H2) (hd : ∀ σ H, Pv xs.length σ H → D.nx σ H) :
    ∃ W : Nat → Nat → L2.St → Hp → Prop, (∃ m, W 0 m σ H) ∧ ∀ i m σ H, W i m σ H →
      ((Itv K a xs.length).stop i H ∧ D.nx σ H) ∨ ((Itv K a xs.length).go i H ∧ ∃ N : L2.St → Hp → Prop, (∀ σ' H', N σ' H' → ∃ m', m' < m ∧ W (i + 1) m' σ' H') ∧ ∀ x H', (Itv K a xs.length).yld i H x H' → g x σ H' fun σ2 H2 => tb { D with nx := N, ct := N, bk := D.nx } σ2 H2) := by
  refine ⟨fun i m σ H => m = xs.length - i ∧ i ≤ xs.length ∧ Pv i σ H, ⟨xs.length, by simp, Nat.zero_le _, h0⟩, ?_⟩
  rintro i m σ H ⟨rfl, hi, p⟩
  have q := hl i σ H hi p
  by_cases hlt : i < xs.length
  · have e : xs[xs.length - 1 - i]? = some xs[xs.length - 1 - i] := List.getElem?_eq_getElem (by omega)
    refine .inr ⟨⟨hlt, xs, _, q, e⟩, Pv (i + 1), fun σ' H' p' => ⟨xs.length - (i + 1), by omega, rfl, hlt, p'⟩, fun x H' y => ?_⟩
    obtain ⟨e, y⟩ := y
    subst e
    exact hs i x σ _ hlt (y xs q) p
  · have e : i = xs.length := by omega
    subst e
    exact .inl ⟨Nat.le_refl _, hd σ H p⟩
theorem x_forRev {K : PySem.W.Frag} {ta : TA} {g : TG} {tb : TS} {D : Ends} {σ : L2.St} {H : Hp} (q : ta σ H fun vs H1 => ∃ (a : Addr) (xs : List V), vs = [.ref a] ∧ SqL K H1 a xs ∧ forK (Itv K a xs.length) g tb D σ H1) : tFor (iRev K ta) g tb D σ H := q
/-! ### the highest offset -/
def hiV (rs : List Run) : V := match rs.getLast? with
  | none => .non
  | some r => .int (r.2 - 1)
def sp_Spans_highest (K : PySem.W.Frag) (C : Addr) : Sp := fun vs H Q _ => ∃ (e : Addr) (F : List Addr) (rs : List Run), vs = [.ref e, .int 1] ∧ SpA C e F rs H ∧ Q (hiV rs) H
theorem ok_Spans_highest (T : Txt K mg) : FnOk P w K mg base CX0 3 T.a_Spans_highest T.fd_Spans_highest ["self", "count"] (sp_Spans_highest K T.c_Spans) := by
  have S := sc_Spans_highest
  refine T.F_Spans_highest.ok S (fun vs H Q E h => ?_) (fun cdv A outer s H vs Q E hr h => ?_)
  · obtain ⟨e, F, rs, rfl, _⟩ := h
    rfl
  · obtain ⟨e, F, rs, rfl, ⟨dx, l, ts, he, hR, _, _, _, hO⟩, k⟩ := h
    refine ⟨_, (pss_cons (ps_if (pt_not (pt_val (pe_call (ok_is_at_least T) (hr.mono (by decide)) rfl T.g_is_at_least T.F_is_at_least.kp T.B_is_at_least .nil pass0 (pa_cons (pv 1) (pa_cons pe_int pa_nil))))) (pss_one ps_never) pss_nil)
      (pss_cons (ps_set (i := 2) S.nd rfl (Or.inl rfl) (pv 1))
      (pss_cons (ps_for PassesOwn.never rfl (pi_reversed (by rfl) T.b_reversed (pa_cons (pe_fld (pv 0) rfl) pa_nil)) (pg_tup rfl (pgs_cons (pg_name (i := 3) S.nd rfl (Or.inl rfl)) (pgs_cons (pg_name (i := 4) S.nd rfl (Or.inl rfl)) pgs_nil))) (pss_cons (ps_if (pt_cmpR op_ge (pe_op op_sub (pv 4) (pv 3)) (pv 2) (nomark _)) (pss_one (ps_ret (pe_op op_sub (pv 4) (pv 2)))) pss_nil)
      (pss_one (ps_aug (i := 2) S.nd rfl (.inl rfl) (pe_op op_sub (pv 4) (pv 3)) ip_sub))))
      (pss_one (ps_ret pe_non))))), ?_⟩
    refine st_Spans_highest ?_
    o_args
    refine ⟨_, _, rfl, .inl ⟨1, rfl, by decide, ?_⟩⟩
    o_args
    refine x_forRev ?_
    o_args
    refine fget he T.cl_Spans T.n_Spans__runs rfl ?_
    refine ⟨l, ts.map V.ref, rfl, SqL.of hR.1, for_rev (K := K) (a := l) (xs := ts.map V.ref) (fun i σ H' => i = 0 ∧ σ = [some (.ref e), some (.int 1), some (.int 1), none, none] ∧ H' = H) ⟨rfl, rfl, rfl⟩ (fun i σ H' _ ⟨_, _, e⟩ => by rw [e]; exact SqL.of hR.1) ?_ ?_⟩
    · rintro i v σ H1 il hv ⟨rfl, rfl, rfl⟩
      rw [List.length_map, hR.len] at il
      rw [List.length_map, hR.len] at hv
      obtain ⟨t, _, e2, ht⟩ := hR.at (List.getElem?_eq_getElem (show rs.length - 1 - 0 < rs.length by omega))
      rw [e2] at hv
      cases hv
      have rm := List.getElem_mem (show rs.length - 1 - 0 < rs.length by omega)
      have hr : rs.getLast? = some rs[rs.length - 1 - 0] := by rw [List.getLast?_eq_getElem?]; exact List.getElem?_eq_getElem (by omega)
      unfold hiV at k
      rw [hr] at k
      generalize rs[rs.length - 1 - 0] = r at rm ht k
      have pos := hO.nrm.1 r rm
      refine two_to ht ?_
      o_args
      refine brDT (by omega) ?_
      o_args
      exact k
    · rintro σ H1 ⟨h0, rfl, rfl⟩
      rw [List.length_map, hR.len] at h0
      o_args
      rw [List.eq_nil_of_length_eq_zero h0] at k
      exact k
/-! ### repr of data of any kind (behind guard) -/
section
open PySem.Spec PyProof.Rows
variable {X : Cx}
/-- what repr is asked of: data without dicts, its text within the line, its ints within the digits -/
def rReprD (K : PySem.W.Frag) : List V → Hp → VK → Prop := fun xs H Q => ∃ (x : V) (d : PyData), xs = [x] ∧ Dp K H x d ∧ d.showable = true ∧ d.hasDict = false ∧ d.depth ≤ 100 ∧ d.shown.length ≤ sizeLine ∧ (∀ i, d = .int i → i.natAbs.log2 < 1920) ∧ Q (.str d.shown) H
theorem call_reprD (still : X.A.guards = some []) (un : X.A.units + 150 < cLine) : CallR X (.builtin "repr") (rReprD X.K) := by
  intro pins s σ H xs us Q I rv h
  obtain ⟨x, d, rfl, hd, sh, nd, dp, sz, hi, q⟩ := h
  rcases rv with _ | ⟨r1, r2⟩
  cases r2
  cases hd with
  | non =>
    cases r1
    exact PySem.P.repr_of_none ⟨.str _, H, I.tok _, ⟨_, rfl⟩, by rw [PyData.shown_none] at q; exact q⟩
  | bl b =>
    cases r1
    exact PySem.P.repr_of_bool ⟨.str _, H, I.tok _, ⟨_, rfl⟩, by rw [PyData.shown_bool] at q; exact q⟩
  | int i =>
    obtain ⟨t, rfl⟩ := r1
    exact PySem.P.repr_of_int (hi i rfl) ⟨.str _, H, I.tok _, ⟨_, rfl⟩, by rw [PyData.shown_int] at q; exact q⟩
  | str z =>
    obtain ⟨t, rfl⟩ := r1
    rw [PyData.shown_str] at q sz
    exact PySem.P.repr_of_str ⟨.str _, H, I.tok _, ⟨_, rfl⟩, q⟩ sz
  | lst hs hr =>
    cases r1
    obtain ⟨as, hr⟩ := Dp.reads I _ _ _ (.lst hs hr) rfl
    exact repr_of_reads' hr sh (fun z => by rw [nd] at z; cases z) still (by omega) (fun _ _ z => z) (fun h' u tk keep => ⟨.str _, H, I.kept keep, ⟨u, rfl⟩, q⟩) sz
  | tup hs hr =>
    cases r1
    obtain ⟨as, hr⟩ := Dp.reads I _ _ _ (.tup hs hr) rfl
    exact repr_of_reads' hr sh (fun z => by rw [nd] at z; cases z) still (by omega) (fun _ _ z => z) (fun h' u tk keep => ⟨.str _, H, I.kept keep, ⟨u, rfl⟩, q⟩) sz
/-- in an except suite it is as still as outside -/
theorem still_suite {a : Addr} {pn : List (Addr × Obj)} (h : X.A.guards = some []) : (X.suite a pn).A.guards = some [] := h
end
theorem room_un {k : Nat} {A : Around} (r : Room k A) : A.units + 150 < cLine := by have := r.un; omega
theorem x_callS {σ : L2.St} {H : Hp} {Q : VK} {sp : Sp} {E : L2.St → XK} {t : TA} (q : t σ H fun vs H1 => sp vs H1 Q (E σ)) : tCallS sp E t σ H Q := q
theorem x_con {K : PySem.W.Frag} {te : TE} {f : Str} {σ : L2.St} {H : Hp} {Q : VK} (q : te σ H fun x H1 => ∃ a C dx fs v u, x = .ref a ∧ H1 a = some (.ins C dx fs) ∧ Cls K C ∧ Con K C f v u ∧ fs.lookup f = none ∧ Q v H1) : tCon K te f σ H Q := q
theorem x_neB {i j : Bool} {H : Hp} {Q : VK} (q : Q (.bl (!decide (i = j))) H) : rNe (.bl i) (.bl j) H Q := ⟨rfl, by
  have e : decide (V.bl i = V.bl j) = decide (i = j) := by cases i <;> cases j <;> decide +kernel
  rw [e]; exact q⟩
theorem x_eqB {i j : Bool} {H : Hp} {Q : VK} (q : Q (.bl (decide (i = j))) H) : rEq (.bl i) (.bl j) H Q := ⟨rfl, by
  have e : decide (V.bl i = V.bl j) = decide (i = j) := by cases i <;> cases j <;> decide +kernel
  rw [e]; exact q⟩
local macro_rules
  | `(tactic| w_up) => `(tactic| first | with_reducible refine x_callS ?_ | with_reducible refine x_con ?_ | with_reducible refine x_neB ?_ | with_reducible refine x_eqB ?_)
/-! ### xs.extend(t), t a tuple -/
section
open PySem PySem.Spec PyProof.Rows PySem.AutoSeq1 PySem.MeetsSeq
set_option maxRecDepth 8000 in
theorem list_extend_tup (l : Addr) (items : Array Value) (n : Nat) (b : Addr) (d2 : Option Addr) (sl2 : Array (Option Value)) (items2 : Array Value) (n2 : Nat) (hs0 : ¬(!items.isEmpty && Builtin.List.listTooLong (items.size + items2.size)) = true) (hs1 : items.size ≤ sizeLine) (hs2 : items.size + items2.size ≤ sizeLine + 1) :
    Meets (Builtin.«list.extend» ⟨[.ref l, .ref b], []⟩) (fun _ R s => s.heap.get? l = some { cls := .type "list", dict := none, data := .seq items n, slots := #[] } ∧ s.heap.get? b = some ⟨.type "tuple", d2, .seq items2 n2, sl2⟩ ∧ R (.ok (.ret Value.none)) { s with heap := s.heap.update l (Obj.mapSeq fun x => x ++ items2), toks := s.toks }) :=
  .of_wp fun prog w A R s h => by
    obtain ⟨hp, g, d, tk, os⟩ := s; obtain ⟨hl, hb, h⟩ := h; have f1 := PySem.AutoSeq1.idx_int; have f2 := PySem.AutoSeq1.sub_tuple_tuple; have f3 := PySem.AutoSeq1.sub_list_list; have f4 := PySem.AutoSeq1.sub_tuple_list; have f5 := PySem.AutoSeq1.sub_list_tuple;
    have hz' : (items ++ items2).size ≤ sizeLine + 1 := by rw [Array.size_append]; exact hs2
    wp_walk using (wpAny_updateSeq hl rfl (hz := hs1) (_hz' := hz')), wpAny_loadPart' hl, wpAny_loadPart' hb; exact ⟨_, rfl, h⟩
def rExtendT (K : PySem.W.Frag) : V → List V → Hp → VK → Prop := fun x vs H Q => ∃ l b xs zs, x = .ref l ∧ vs = [.ref b] ∧ H l = some (.lst xs) ∧ SqT K H b zs ∧ xs.length + zs.length ≤ sizeLine ∧ Q .non (L2.upd H l (.lst (xs ++ zs)))
theorem mt_extendT {X : Cx} : MtM X "list.extend" (rExtendT X.K) := by
  intro pins s σ H x vs v us Q I rx rv h
  obtain ⟨l, b, xs, zs, rfl, rfl, hH, hB, hz, q⟩ := h
  cases rx
  obtain ⟨u, rfl, ru⟩ := rv.one
  cases ru
  obtain ⟨z, its, n, r, hl, e⟩ := I.lstM hH
  obtain ⟨its2, r2, ⟨o2, e2, c2, n2, d2⟩, _⟩ := I.tuple hB
  obtain ⟨oc, od, oda, osl⟩ := o2
  simp only at c2 d2
  subst c2 d2
  have l2 : zs.length = its2.length := r2.length
  have hsz : its.toArray.size + its2.toArray.size ≤ sizeLine := by rw [List.size_toArray, List.size_toArray]; omega
  have hlong : ¬ (!its.toArray.isEmpty && Builtin.List.listTooLong (its.toArray.size + its2.toArray.size)) = true := by
    rw [notLongL hsz, Bool.and_false]
    exact Bool.false_ne_true
  refine call_meets PySem.F.slot_list_extend ⟨_, e, rfl⟩ PySem.F.entry_list_extend (PySem.F.args_list_extend_2 _ _)
    (list_extend_tup l its.toArray n b od osl its2.toArray n2 hlong (by rw [List.size_toArray]; omega) (by omega)) ⟨e, e2, ?_⟩
  refine ⟨.non, _, I.lset (its' := its ++ its2) hH e (by simp) (r.append r2) ?_, rfl, q⟩
  rw [List.length_append]
  omega
end
/-! ### dicts with words for keys -/
theorem room_u1 {k : Nat} {A A' : Around} (r : Room k A) (e : A'.units = A.units := by rfl) : A'.units + 1 < cLine := by have := r.un; rw [e]; omega
section
variable {K : PySem.W.Frag} {σ : L2.St} {H : Hp} {Q : VK} {v : V} {td ty tv : TE} {D : Ends}
theorem x_dget (q : td σ H fun x H1 => ty σ H1 fun y H2 => ∃ a v, x = .ref a ∧ DGet H2 a y (some v) ∧ Q v H2) : tDGet td ty σ H Q := q
theorem x_dput (q : tv σ H fun v H1 => td σ H1 fun x H2 => ty σ H2 fun y H3 => ∃ a H4, x = .ref a ∧ DPut H3 a y v H4 ∧ D.nx σ H4) : sDPut td ty tv D σ H := q
/-- d["k"] -/
theorem dget {a : Addr} {kvs : List (Key × V)} {k : Str} {P : V → Prop} (h : H a = some (.dK kvs)) (e : valV kvs (.inr k) = some v) (q : P v) : ∃ b u, V.ref a = .ref b ∧ DGet H b (.str k) (some u) ∧ P u := ⟨a, v, rfl, .inl ⟨kvs, .inr k, .inl h, rfl, e.symm⟩, q⟩
/-- d["k"] = v -/
theorem dput {a : Addr} {kvs kvs' : List (Key × V)} {k : Str} {P : Hp → Prop} (h : H a = some (.dK kvs)) (l : kvs.length < 1000) (e : putK kvs (.inr k) v = kvs') (q : ∀ H', SameX a H H' → H' a = some (.dK kvs') → P H') : ∃ b H4, V.ref a = .ref b ∧ DPut H b (.str k) v H4 ∧ P H4 :=
  ⟨a, _, rfl, .inl ⟨kvs, .inr k, h, rfl, Nat.lt_of_lt_of_le l (by decide), rfl⟩, q _ SameX.upd (by rw [e]; exact upd_same)⟩
end
section
variable {σ : L2.St} {H : Hp} {Q : VK} {Qp : List (V × V) → Hp → Prop} {tk tv : TE} {trs : List (TE × TE)}
theorem x_disp (q : ∀ p, H p = none → tPairs trs σ (upd H p (.dK [])) fun ps H2 => H2 p = some (.dK []) ∧ ∃ kvs : List (Key × V), ps = kvs.map (fun kv => (kV kv.1, kv.2)) ∧ kvs.length ≤ 15 ∧ Q (.ref p) (upd H2 p (.dK (mergeK [] kvs)))) : tDisp trs σ H Q := q
theorem x_pnil (q : Qp [] H) : tPairs [] σ H Qp := q
theorem x_pcons (q : tk σ H fun x H1 => tv σ H1 fun y H2 => tPairs trs σ H2 fun ps H3 => Qp ((x, y) :: ps) H3) : tPairs ((tk, tv) :: trs) σ H Qp := q
end
local macro_rules
  | `(tactic| w_up) => `(tactic| first | with_reducible refine x_dget ?_ | with_reducible refine x_dput ?_ | with_reducible refine x_disp ?_ | with_reducible refine x_pcons ?_ | with_reducible refine x_pnil ?_ | with_reducible refine x_setp ?_ | with_reducible refine dget (by assumption) (by with_unfolding_all exact rfl) ?_)
/-! ### slices of a list or a tuple; extended by either -/
section
open PySem.Spec PyProof.Rows
def SeqN (K : PySem.W.Frag) (H : Hp) (a : Addr) (xs : List V) : Prop := H a = some (.lst xs) ∨ SqT K H a xs
def rSlQ (K : PySem.W.Frag) : V → Option Int → Option Int → Hp → VK → Prop := fun x lo hi H Q => rSlL K x lo hi H Q ∨ L2.rSlA K x lo hi H Q
theorem sl_seqQ {X : Cx} : SlR X (rSlQ X.K) := by
  exact SlR.or sl_list sl_tupA
def rExtA (K : PySem.W.Frag) : V → List V → Hp → VK → Prop := fun x vs H Q => rExtend x vs H Q ∨ rExtendT K x vs H Q
theorem mt_extendA {X : Cx} : MtM X "list.extend" (rExtA X.K) := by
  intro pins s σ H x vs v us Q I rx rv h
  rcases h with h | h
  · exact mt_extend pins s σ H x vs v us Q I rx rv h
  · exact mt_extendT pins s σ H x vs v us Q I rx rv h
theorem sliceA {K : PySem.W.Frag} {H : Hp} {Q : VK} {a : Addr} {xs : List V} {lo hi : Option Int} (h : SeqA K H a xs) (q : ∀ l H', Same H H' → SeqN K H' l (cutV xs lo hi) → Q (.ref l) H') : rSlQ K (.ref a) lo hi H Q := by
  rcases h with h | h
  · exact .inl ⟨a, xs, rfl, h, fun l hl => q l _ (Same.new hl) (.inl upd_same)⟩
  · refine .inr ⟨a, xs, rfl, h, fun z => q a H (Same.refl H) (.inr ?_), fun _ l hl => q l _ (Same.new hl) (.inr (SqT.of upd_same))⟩
    have e : cutV xs lo hi = xs := by
      unfold cutV
      rw [z.1, z.2, List.drop_zero, Nat.sub_zero, List.take_length]
    rw [e]
    exact h
theorem extA {K : PySem.W.Frag} {H : Hp} {Q : VK} {a b : Addr} {xs zs : List V} (ha : H a = some (.lst xs)) (hb : SeqN K H b zs) (h : xs.length + zs.length ≤ 100000) (q : ∀ H', SameX a H H' → H' a = some (.lst (xs ++ zs)) → Q .non H') : rExtA K (.ref a) [.ref b] H Q := by
  rcases hb with hb | hb
  · exact .inl ⟨a, b, xs, zs, rfl, rfl, ha, hb, Nat.le_trans h (by decide), q _ SameX.upd upd_same⟩
  · exact .inr ⟨a, b, xs, zs, rfl, rfl, ha, hb, Nat.le_trans h (by decide), q _ SameX.upd upd_same⟩
end
/-- for x in a list or a tuple -/
theorem forSeq {K : PySem.W.Frag} {a : Addr} {xs : List V} {te : TE} {g : TG} {ts : TS} {D : Ends} {σ : L2.St} {H : Hp} (hte : ∀ R : VK, R (.ref a) H → te σ H R) (hS : SeqA K H a xs) (Pv : Nat → L2.St → Hp → Prop) (h0 : Pv 0 σ H) (hk : ∀ i σ H', Pv i σ H' → ∀ o, H a = some o → H' a = some o)
    (hs : ∀ i x σ H, xs[i]? = some x → Pv i σ H → g x σ H fun σ2 H2 => ts { D with nx := Pv (i + 1), ct := Pv (i + 1), bk := D.nx } σ2 H2) (hd : ∀ σ H, Pv xs.length σ H → D.nx σ H) : tFor (iOr (iList K te) (iTup K te)) g ts D σ H := by
  rcases hS with hS | hS
  · exact .inl (hte _ ⟨a, rfl, ⟨_, hS⟩, for_list Pv h0 (fun i σ H' _ p => sqL_at hS (hk i σ H' p)) hs hd⟩)
  · exact .inr (hte _ ⟨a, rfl, ⟨_, hS⟩, for_tup Pv h0 (fun i σ H' _ p => sqT_at hS (hk i σ H' p)) hs hd⟩)
/-! ### a generator's body that walks: for x in xs: .. yield .. -/
section
open PySem.Spec PyProof.Rows GenW
variable {X : Cx}
def tGFor (wi : TI) (g : TG) (tb : TGn) : TGn := fun D ys σ H => wi σ H fun J H1 => ∃ W : Nat → Nat → List V → L2.St → Hp → Prop, (∃ m, W 0 m ys σ H1) ∧ ∀ i m zs σ2 H2, W i m zs σ2 H2 →
  (J.stop i H2 ∧ D.nx zs σ2 H2) ∨ (J.go i H2 ∧ ∃ N : List V → L2.St → Hp → Prop, (∀ zs' σ' H', N zs' σ' H' → ∃ m', m' < m ∧ W (i + 1) m' zs' σ' H') ∧ ∀ x H3, J.yld i H2 x H3 → g x σ2 H3 fun σ4 H4 => tb { D with nx := N, ct := N, bk := D.nx } zs σ4 H4)
/-- one turn of a for's code, amid a generator -/
theorem turn_for {prog : Program} {w : World} {A : Around} {R : GenEnd} {Y : Protocol} {n : Nat} {s₀ s : Shared} {fs : List Frame} {env : Env} {tg : Expr} {it : Value} {body : List Stmt}
    (h : wpAny (model prog w) (A.over (.forLoop tg it body [] env) fs) (pyNext it) (fun r s1 => match r with
        | none => Seg (model prog w) A R Y n s₀ (.block [] env) (.pure (.done .next)) fs s1
        | some v => wpAny (model prog w) (A.over (.forLoop tg it body [] env) fs) (letOwnedTupleGo tg it v) (fun _ s2 => wpAny (model prog w) (A.over (.forLoop tg it body [] env) fs) (assign tg env v) (fun _ s3 =>
            Seg (model prog w) A R Y n s₀ (.forLoop tg it body [] env) ((execs body env).wrap (fun f => match f with
              | .brk => .pure (.done .next)
              | .ret v => .pure (.done (.ret v))
              | _ => .pure (.again (.forLoop tg it body [] env))) (fun e => (noteFrame e env >>= fun _ => theTreesLotGoes e : Sem Unit).wrap (fun _ => .raise e) .raise id id) id id) fs s3)
            (fun x s' => Seg (model prog w) A R Y n s₀ (.forLoop tg it body [] env) ((noteFrame x env >>= fun _ => theTreesLotGoes x : Sem Unit).wrap (fun _ => .raise x) .raise id id) fs s') s2)
          (fun x s' => Seg (model prog w) A R Y n s₀ (.forLoop tg it body [] env) ((noteFrame x env >>= fun _ => theTreesLotGoes x : Sem Unit).wrap (fun _ => .raise x) .raise id id) fs s') s1)
      (fun x s' => Seg (model prog w) A R Y n s₀ (.forLoop tg it body [] env) ((noteFrame x env >>= fun _ => theTreesLotGoes x : Sem Unit).wrap (fun _ => .raise x) .raise id id) fs s') s) :
    Seg (model prog w) A R Y n s₀ (.forLoop tg it body [] env) ((model prog w).den (.forLoop tg it body [] env)) fs s := by
  show Seg _ A R Y n s₀ _ ((forTurn tg it body [] env).onRaise (fun x => noteFrame x env >>= fun _ => theTreesLotGoes x)) fs s
  unfold forTurn
  rw [Sem.onRaise_eq_wrap]
  refine seg_bind_wrap (wpAny_standAt ?_)
  refine seg_bind_wrap (wpAny_onRaise (wpAny_mono h (fun r s1 h1 => ?_) fun x s' hx => wpAny_standAt ?_))
  · cases r with
    | none =>
      show Seg _ A R Y n s₀ _ (.pure (.again (.block [] env))) fs s1
      exact seg_again rfl h1
    | some v =>
      show Seg _ A R Y n s₀ _ (Sem.wrap _ _ _ _ (letOwnedTupleGo tg it v >>= fun _ => assign tg env v >>= fun _ => execs body env >>= fun f => match f with | .next | .cont => again (.forLoop tg it body [] env) | .brk => pure (.done .next) | .ret v => pure (.done (.ret v)))) fs s1
      refine seg_bind_wrap (wpAny_mono h1 (fun _ s2 h2 => ?_) fun x s' hx => by rw [← Sem.bind_eq_wrap] at hx; exact hx)
      refine seg_bind_wrap (wpAny_mono h2 (fun _ s3 h3 => ?_) fun x s' hx => by rw [← Sem.bind_eq_wrap] at hx; exact hx)
      rw [Sem.bind_eq_wrap', Sem.wrap_wrap]
      refine cast (congrArg (fun t => Seg (model prog w) A R Y n s₀ (.forLoop tg it body [] env) t fs s3) ?_) h3
      refine Sem.wrap_congr (execs body env) _ _ (fun f => ?_) fun e => ?_
      · cases f <;> rfl
      · rw [← Sem.bind_eq_wrap] <;> rfl
  · rw [← Sem.bind_eq_wrap] at hx
    exact hx
theorem gs_for {tg iter : Expr} {body : List Stmt} {wi : TI} {g : TG} {tb : TGn} {pos : Pos} (own : PassesOwn (model X.prog X.w) X.A X.env X.xe) (calm : X.calm = true) (hi : PI X tg iter wi) (hg : PG X tg g) (hb : GSs X body tb)
    (fold : ∀ x, foldedSetIterable iter X.env x = pure x := by intro _; rfl) : GS X (.For tg iter body [] pos) (tGFor wi g tb) := by
  refine ⟨fun A S ip R n ys s₀ c fs K J gd lv s σ H D gc hn k hI want => ?_⟩
  rw [exec_For]
  refine seg_bind_wrap (wpAny_standAt ?_)
  obtain ⟨acc, cc, r, I⟩ := hI
  refine seg_bind_wrap ?_
  rw [gc.over]
  refine wpAny_mono (hi.run _ s σ H _ I want) (fun v s1 h1 => ?_) fun x t hx => k.exc n s₀ x t hx
  refine seg_bind_wrap (wpAny_of_eq (fold v) ?_)
  refine seg_bind_wrap (wpAny_standAt ?_)
  refine seg_bind_wrap (wpAny_holding ?_)
  rw [gc.over]
  refine wpAny_mono h1 (fun itv s2 h2 => ?_) fun x t hx => k.exc n s₀ x t hx
  obtain ⟨it, fp, tn, Jt, H2, rfl, I2, T, st2, f2, W, ⟨m0, w0⟩, turn⟩ := h2
  refine seg_call fun p => ?_
  have gl := fun (kk : Result → Sem PySem.Fin) => gc_loop (k := kk) (c' := .forLoop tg (.ref it) body [] X.env) (l := lv []) (kp := []) (p := p) gc rfl rfl
  have away : ∀ b ∈ fp, b ≠ S := fun b hb' e => (f2 b hb').2.2.2.2.2 (S, lstObj acc cc) (List.mem_append_right _ List.mem_cons_self) e.symm
  have stat : ∀ {ac : Array Value} {ca : Nat} {H' : Hp}, (∀ b ∈ fp, H' b = none) → ∀ b ∈ fp, FpOk X ((S, lstObj ac ca) :: ip) H' b := fun hz b hb' => by
    obtain ⟨_, x1, x2, x3, x4, x5⟩ := f2 b hb'
    refine ⟨hz b hb', x1, x2, x3, x4, fun q hq => ?_⟩
    rcases List.mem_append.mp hq with z | z
    · exact x5 q (List.mem_append_left _ z)
    · rcases List.mem_cons.mp z with z | z
      · rw [z]
        exact fun e => away b hb' e.symm
      · exact x5 q (List.mem_append_right _ (List.mem_cons_of_mem _ z))
  have main : ∀ (m i n : Nat) (zs : List V) (t₀ t : Shared) (τ : L2.St) (G : Hp), n + zs.length = sizeLine → W i m zs τ G → GI X S ip zs τ G t → tn i t.heap → (∀ b ∈ fp, G b = none) →
      Seg (model X.prog X.w) A R (GY X S) n t₀ (.forLoop tg (.ref it) body [] X.env) ((model X.prog X.w).den (.forLoop tg (.ref it) body [] X.env))
        (.ret (fun r => ((match r with | .ok f => (.pure f : Sem Flow) | .error e => .raise e).onRaise (cameBack X.env)).wrap K J gd lv) none (gd false) (lv []) c p [] :: fs) t := by
    intro m
    induction m using Nat.strongRecOn with
    | ind m ih =>
      intro i n zs t₀ t τ G hz w hG st fr
      have out : ∀ (n : Nat) (t₀ : Shared) (x : Value) (t' : Shared), X.xe x t' → Seg (model X.prog X.w) A R (GY X S) n t₀ (.forLoop tg (.ref it) body [] X.env)
          ((noteFrame x X.env >>= fun _ => theTreesLotGoes x : Sem Unit).wrap (fun _ => .raise x) .raise id id)
          (.ret (fun r => ((match r with | .ok f => (.pure f : Sem Flow) | .error e => .raise e).onRaise (cameBack X.env)).wrap K J gd lv) none (gd false) (lv []) c p [] :: fs) t' := fun n t₀ x t' hx => by
        refine seg_wrap ?_
        rw [(gl _).over]
        refine wpAny_bind (wpAny_mono (own x t' hx) (fun _ t2 back => wpAny_theTreesLotGoes (seg_leaf (.error x) (seg_cameBack gc k back))) fun y t2 back => seg_leaf (.error y) (seg_cameBack gc k back))
      refine turn_for ?_
      rw [(gl _).over]
      obtain ⟨ac, ca, ra, IG⟩ := hG
      rcases turn i m zs τ G w with ⟨stop, qn⟩ | ⟨go, N, hN, step⟩
      · refine wpAny_mono (T.done X rfl rfl rfl calm i _ t τ G X.xe IG (stat fr) st stop) (fun r' t4 ⟨e4, I4⟩ => ?_) fun x t' hx => out n t₀ x t' hx
        subst e4
        exact seg_leaf (.ok .next) (k.ok n zs t₀ t4 .next hz ⟨τ, G, ⟨ac, ca, ra, I4⟩, qn⟩)
      · refine wpAny_mono (T.item X rfl rfl rfl calm i _ t τ G X.xe IG (stat fr) st go) (fun r' t4 ⟨u, e4, h4⟩ => ?_) fun x t' hx => out n t₀ x t' hx
        subst e4
        refine wpAny_mono h4 (fun _ t5 ⟨x, H5, I5, r5, y5, st5, fr5⟩ => ?_) fun x t' hx => out n t₀ x t' hx
        have I5' := I5.pinned (stat fr5) (T.obj _ _ st5)
        refine wpAny_mono (hg.run _ t5 τ H5 x u _ I5' r5 (step x H5 y5)) (fun _ t6 ⟨σ6, H6, I6, q6⟩ => ?_) fun x t' hx => out n t₀ x t' hx
        have gi : ∀ q ∈ ip ++ pinsAt fp t5.heap, q.1 ≠ S := fun q hq => (List.mem_append.mp hq).elim (fun z => gc.ip q z) fun z => away _ (of_pinsAt z).1
        have fin : ∀ {zs' : List V} {σ7 : L2.St} {H7 : Hp} {t7 : Shared}, GI X S (ip ++ pinsAt fp t5.heap) zs' σ7 H7 t7 → GI X S ip zs' σ7 H7 t7 ∧ tn (i + 1) t7.heap ∧ ∀ b ∈ fp, H7 b = none := fun {zs' σ7 H7 t7} hG7 => by
          obtain ⟨a7, c7, r7, I7⟩ := hG7
          have pin : ∀ b ∈ fp, ∀ o, t5.heap.get? b = some o → t7.heap.get? b = some o ∧ H7 b = none := fun b hb' o e => by
            have z := I7.pin (b, o) (List.mem_append_right _ (List.mem_cons_of_mem _ (List.mem_append_right _ (mem_pinsAt hb' e))))
            exact ⟨z.1, z.2.1⟩
          refine ⟨⟨a7, c7, r7, Inv.unpinned (pins := (S, lstObj a7 c7) :: ip) (pl := pinsAt fp t5.heap) I7⟩, T.keep _ _ _ st5 fun b hb' o e => (pin b hb' o e).1, fun b hb' => ?_⟩
          obtain ⟨o, e, _⟩ := T.obj _ _ st5 b hb'
          exact (pin b hb' o e).2
        refine hb.run A S (ip ++ pinsAt fp t5.heap) R n zs t₀ _ _ _ _ id id t6 σ6 H6 _ ⟨gc.pn, gi, gc.apart, (gl _).over, (gl _).split, (gl _).guard, rfl⟩ hz ⟨fun n' zs' t₀' t7 f hn' hs => ?_, fun n' t₀' x t' hx => out n' t₀' x t' hx⟩ ⟨ac, ca, ra, I6⟩ q6
        cases f with
        | next =>
          obtain ⟨σ7, H7, G7, n7⟩ := hs
          obtain ⟨m', hm, w7⟩ := hN zs' σ7 H7 n7
          obtain ⟨g7, st7, fr7⟩ := fin G7
          exact seg_again rfl (ih m' hm (i + 1) n' zs' t₀' t7 σ7 H7 hn' w7 g7 st7 fr7)
        | cont =>
          obtain ⟨σ7, H7, G7, n7⟩ := hs
          obtain ⟨m', hm, w7⟩ := hN zs' σ7 H7 n7
          obtain ⟨g7, st7, fr7⟩ := fin G7
          exact seg_again rfl (ih m' hm (i + 1) n' zs' t₀' t7 σ7 H7 hn' w7 g7 st7 fr7)
        | brk =>
          obtain ⟨σ7, H7, G7, q7⟩ := hs
          exact seg_leaf (.ok .next) (k.ok n' zs' t₀' t7 .next hn' ⟨σ7, H7, (fin G7).1, q7⟩)
        | ret v =>
          obtain ⟨v7, σ7, H7, G7, r7, q7⟩ := hs
          exact seg_leaf (.ok (.ret v)) (k.ok n' zs' t₀' t7 (.ret v) hn' ⟨v7, σ7, H7, (fin G7).1, r7, q7⟩)
  exact main m0 0 n ys s₀ s2 σ H2 hn w0 ⟨acc, cc, r, I2⟩ st2 fun b hb' => (f2 b hb').1
theorem x_gthen {t u : TGn} {D : GEnds} {ys : List V} {σ : L2.St} {H : Hp} (q : t { D with nx := fun ys' σ' H' => u D ys' σ' H' } ys σ H) : tGThen t u D ys σ H := q
theorem x_g00 {D : GEnds} {ys : List V} {σ : L2.St} {H : Hp} (q : D.nx ys σ H) : tG0 D ys σ H := q
theorem x_gyield {te : TE} {D : GEnds} {ys : List V} {σ : L2.St} {H : Hp} (z : ys.length < 100000) (q : te σ H fun x H1 => D.nx (ys ++ [x]) σ H1) : tGYield te D ys σ H := ⟨Nat.lt_of_lt_of_le z (by decide), q⟩
def gforK (J : It) (g : TG) (tb : TGn) (D : GEnds) (ys : List V) (σ : L2.St) (H1 : Hp) : Prop := ∃ W : Nat → Nat → List V → L2.St → Hp → Prop, (∃ m, W 0 m ys σ H1) ∧ ∀ i m zs σ2 H2, W i m zs σ2 H2 →
  (J.stop i H2 ∧ D.nx zs σ2 H2) ∨ (J.go i H2 ∧ ∃ N : List V → L2.St → Hp → Prop, (∀ zs' σ' H', N zs' σ' H' → ∃ m', m' < m ∧ W (i + 1) m' zs' σ' H') ∧ ∀ x H3, J.yld i H2 x H3 → g x σ2 H3 fun σ4 H4 => tb { D with nx := N, ct := N, bk := D.nx } zs σ4 H4)
theorem x_gfor {K : PySem.W.Frag} {te : TE} {g : TG} {tb : TGn} {D : GEnds} {ys : List V} {σ : L2.St} {H : Hp} (q : te σ H fun x H1 => ∃ a, x = .ref a ∧ (∃ xs, SqL K H1 a xs) ∧ gforK (Itl K a) g tb D ys σ H1) : tGFor (iList K te) g tb D ys σ H := q
/-- over a list that stands -/
theorem gfor_list {K : PySem.W.Frag} {a : Addr} {xs : List V} {g : TG} {tb : TGn} {D : GEnds} {ys : List V} {σ : L2.St} {H : Hp} (Pv : Nat → List V → L2.St → Hp → Prop) (p0 : Pv 0 ys σ H) (hl : ∀ i zs σ' H', Pv i zs σ' H' → SqL K H' a xs)
    (hs : ∀ i v zs σ' H', xs[i]? = some v → Pv i zs σ' H' → g v σ' H' fun σ2 H2 => tb { D with nx := Pv (i + 1), ct := Pv (i + 1), bk := D.nx } zs σ2 H2) (hd : ∀ zs σ' H', Pv xs.length zs σ' H' → D.nx zs σ' H') : gforK (Itl K a) g tb D ys σ H := by
  refine ⟨fun i m zs σ' H' => m = xs.length - i ∧ i ≤ xs.length ∧ Pv i zs σ' H', ⟨_, rfl, Nat.zero_le _, p0⟩, ?_⟩
  rintro i m zs σ' H' ⟨rfl, hi, p⟩
  have q := hl i zs σ' H' p
  by_cases z : i < xs.length
  · obtain ⟨v, hv⟩ : ∃ v, xs[i]? = some v := ⟨_, List.getElem?_eq_getElem z⟩
    refine .inr ⟨⟨xs, v, q, hv⟩, Pv (i + 1), fun zs2 σ2 H2 p2 => ⟨_, by omega, rfl, z, p2⟩, ?_⟩
    rintro x H3 ⟨rfl, hx⟩
    have e := (hx xs q).symm.trans hv
    cases e
    exact hs i v zs σ' _ hv p
  · have e : i = xs.length := by omega
    subst e
    exact .inl ⟨⟨xs, q, Nat.le_refl _⟩, hd zs σ' H' p⟩
/-- a generator def by its body -/
theorem gen_fn {P : Program} {w : World} {K : PySem.W.Frag} {mg : Str → Option Value} {base : Heap} {x qual : Str} {st : Stmt} {f : Addr} {fd : FuncData} {N ps : List Str} {k : Nat} {sp : SpG} (F : Fun K x qual st f fd) (S : GScope N ps (defScope st))
    (cnt : ∀ vs H Q E, sp vs H Q E → vs.length = ps.length)
    (bod : ∀ (cdv : Value) (A : Around) (outer : List Env) (s : Shared) (H : Hp) (vs : List V) (Q : List V → Hp → Prop) (E : XK) (pn : List (Addr × Obj)), Room k (A.deeper (envOfC qual (defScope st) s.heap.objs.size f cdv)) → sp vs H Q E →
      ∃ t, GSs (gcxOf P w K mg base N qual (defScope st) f cdv A outer s H E pn) (defBody st) t ∧ t { nx := fun ys _ H' => Q ys H', rt := fun ys v H' => v = .non ∧ Q ys H' } [] (L2.start N vs) H) : GFn P w K mg base (k + 1) f fd ps sp := by
  obtain ⟨oc, od, kV, doc, pm, an, cdv, ct, osl, rfl, lk, hcd⟩ := F.ex
  exact gfn_of lk hcd S cnt fun A outer s H vs Q E pn hr h => bod cdv A outer s H vs Q E pn hr h
end
/-! ### bytes, data, limits -/
theorem Err.same {C : Addr} {f : Str} {v : V} {H H' : Hp} {E : XK} (h : Err C f v H E) (s : Same H H') : Err C f v H' E := fun d H1 s1 e => h d H1 (s.trans s1) e
def sp_is_byte (K : PySem.W.Frag) : Sp := fun vs H Q _ => ∃ (x : V), vs = [x] ∧ ((∃ n, x = .int n ∧ 0 ≤ n ∧ n ≤ 255 ∧ Q (.bl true) H) ∨ (Out K H x 0 255 ∧ Q (.bl false) H))
theorem ok_is_byte (T : Txt K mg) : FnOk P w K mg base CX0 3 T.a_is_byte T.fd_is_byte ["value"] (sp_is_byte K) := by
  have S := sc_is_byte
  refine T.F_is_byte.ok S (fun vs H Q E h => ?_) (fun cdv A outer s H vs Q E hr h => ?_)
  · obtain ⟨x, rfl, _⟩ := h
    rfl
  · obtain ⟨x, rfl, h⟩ := h
    refine ⟨_, (pss_one (ps_ret (pe_call (ok_is_between T) (hr.mono (by decide)) rfl T.g_is_between T.F_is_between.kp T.B_is_between .nil pass0 (pa_cons (pv 0) (pa_cons pe_int (pa_cons pe_int pa_nil)))))), ?_⟩
    refine st_is_byte ?_
    o_args
    rcases h with ⟨n, rfl, h0, h1, k⟩ | ⟨ho, k⟩
    · refine in_between h0 h1 ?_
      o_args
      exact k
    · refine out_between ho ?_
      o_args
      exact k
def sp_require_limit (K : PySem.W.Frag) (Ce : Addr) : Sp := fun vs H Q E => ∃ (x : V), vs = [x] ∧ ((∃ n, x = .int n ∧ 1 ≤ n ∧ n ≤ 65535 ∧ Q .non H) ∨ (Out K H x 1 65535 ∧ Err Ce "setting" (.str "limit") H E))
theorem ok_require_limit (T : Txt K mg) : FnOk P w K mg base (L2.CX P w) 3 T.a_require_limit T.fd_require_limit ["limit"] (sp_require_limit K T.c_InvalidSetting) := by
  have S := sc_require_limit
  refine T.F_require_limit.okX S (fun vs H Q E h => ?_) (fun cdv A outer s H vs Q E hr h => ?_)
  · obtain ⟨x, rfl, _⟩ := h
    rfl
  · obtain ⟨x, rfl, h⟩ := h
    refine ⟨_, (pss_one (ps_if (pt_not (pt_val (pe_call (ok_is_between T) (hr.mono (by decide)) rfl T.g_is_between T.F_is_between.kp T.B_is_between .nil pass0 (pa_cons (pv 0) (pa_cons pe_int (pa_cons pe_int pa_nil)))))) (pss_one (ps_raise rfl (takes_of rfl rfl rfl rfl) (pmk_oex T.X_InvalidSetting.o T.X_InvalidSetting.i T.X_InvalidSetting.t (ok_InvalidSetting_init_ T) (hr.mono (by decide)) T.B_InvalidSetting_init_ .nil pass0 rfl T.X_InvalidSetting.g (pa_cons pe_str pa_nil)))) pss_nil)), ?_⟩
    refine st_require_limit ?_
    o_args
    rcases h with ⟨n, rfl, h0, h1, k⟩ | ⟨ho, hE⟩
    · refine in_between h0 h1 ?_
      o_args
      exact k
    · refine out_between ho ?_
      o_args
      exact mkO_of T.X_InvalidSetting.o T.nX_InvalidSetting fun d H1 nd ss hx => hE d H1 ss hx
/-- what require_data is told: bytes, no sequence, or a sequence whose first item that is no byte is y -/
def Bytes (ns : List Int) : Prop := ∀ n ∈ ns, 0 ≤ n ∧ n ≤ 255
def DataSp (K : PySem.W.Frag) (Ce : Addr) (x : V) (H : Hp) (E : XK) (P : List Int → Prop) : Prop :=
  (∃ a ns, x = .ref a ∧ SeqA K H a (ns.map V.int) ∧ Bytes ns ∧ ns.length ≤ 1000 ∧ P ns) ∨ (SeqK K H x false ∧ Err Ce "number" x H E) ∨
  (∃ a ns y zs, x = .ref a ∧ SeqA K H a (ns.map V.int ++ y :: zs) ∧ Bytes ns ∧ Out K H y 0 255 ∧ Err Ce "number" y H E)
theorem DataSp.mono {K : PySem.W.Frag} {Ce : Addr} {x : V} {H : Hp} {E E' : XK} {P P' : List Int → Prop} (h : DataSp K Ce x H E P) (hp : ∀ ns, P ns → P' ns) (he : ∀ a b c, E a b c → E' a b c) : DataSp K Ce x H E' P' := by
  rcases h with ⟨a, ns, h1, h2, h3, h4, h5⟩ | ⟨h1, h2⟩ | ⟨a, ns, y, zs, h1, h2, h3, h4, h5⟩
  · exact .inl ⟨a, ns, h1, h2, h3, h4, hp _ h5⟩
  · exact .inr (.inl ⟨h1, fun d H' s e => he _ _ _ (h2 d H' s e)⟩)
  · exact .inr (.inr ⟨a, ns, y, zs, h1, h2, h3, h4, fun d H' s e => he _ _ _ (h5 d H' s e)⟩)
theorem SeqK.same {K : PySem.W.Frag} {H H' : Hp} {x : V} {r : Bool} (h : SeqK K H x r) (s : Same H H') : SeqK K H' x r := h.elim fun t h => ⟨t, tyX_same h.1 s, h.2⟩
def sp_require_data (K : PySem.W.Frag) (Ce : Addr) : Sp := fun vs H Q E => ∃ (x : V), vs = [x] ∧ DataSp K Ce x H E (fun _ => ∀ H', Same H H' → Q .non H')
theorem ok_require_data (T : Txt K mg) : FnOk P w K mg base (L2.CX P w) 4 T.a_require_data T.fd_require_data ["data"] (sp_require_data K T.c_InvalidNumber) := by
  have S := sc_require_data
  refine T.F_require_data.okX S (fun vs H Q E h => ?_) (fun cdv A outer s H vs Q E hr h => ?_)
  · obtain ⟨x, rfl, _⟩ := h
    rfl
  · obtain ⟨x, rfl, h⟩ := h
    refine ⟨_, (pss_cons (ps_if (pt_not (pt_val (pe_call (ok_is_sequence T) (hr.mono (by decide)) rfl T.g_is_sequence T.F_is_sequence.kp T.B_is_sequence .nil pass0 (pa_cons (pv 0) pa_nil)))) (pss_one (ps_raise rfl (takes_of rfl rfl rfl rfl) (pmk_oex T.X_InvalidNumber.o T.X_InvalidNumber.i T.X_InvalidNumber.t (ok_InvalidNumber_init_ T) (hr.mono (by decide)) T.B_InvalidNumber_init_ .nil pass0 rfl T.X_InvalidNumber.g (pa_cons (pv 0) pa_nil)))) pss_nil)
      (pss_one (ps_for (passes_of rfl) rfl (pi_seqA (pv 0)) (pg_name (i := 1) S.nd rfl (Or.inl rfl)) (pss_one (ps_if (pt_not (pt_val (pe_call (ok_is_byte T) (hr.mono (by decide)) rfl T.g_is_byte T.F_is_byte.kp T.B_is_byte .nil pass0 (pa_cons (pv 1) pa_nil)))) (pss_one (ps_raise rfl (takes_of rfl rfl rfl rfl) (pmk_oex T.X_InvalidNumber.o T.X_InvalidNumber.i T.X_InvalidNumber.t (ok_InvalidNumber_init_ T) (hr.mono (by decide)) T.B_InvalidNumber_init_ .nil pass0 rfl T.X_InvalidNumber.g (pa_cons (pv 1) pa_nil)))) pss_nil))))), ?_⟩
    refine st_require_data ?_
    o_args
    rcases h with ⟨a, ns, rfl, hA, hb, hl, k⟩ | ⟨hk, hE⟩ | ⟨a, ns, y, zs, rfl, hA, hb, ho, hE⟩
    · refine ⟨_, true, rfl, seqK_of hA, fun H1 s1 => ?_⟩
      o_args
      refine forSeq (fun R q => ⟨_, rfl, q⟩) (hA.sm s1) (fun i σ H' => (∃ z, σ = [some (.ref a), z]) ∧ Same H1 H') ⟨⟨none, rfl⟩, Same.refl H1⟩ (fun i σ H' h o e => h.2 _ _ e) (fun i x σ H' hi h => ?_) (fun σ H' h => ?_)
      · obtain ⟨⟨z, rfl⟩, s⟩ := h
        rw [List.getElem?_map] at hi
        obtain ⟨n, en, rfl⟩ := Option.map_eq_some_iff.mp hi
        obtain ⟨b0, b1⟩ := hb n (List.mem_of_getElem? en)
        o_args
        refine ⟨_, rfl, .inl ⟨n, rfl, b0, b1, ?_⟩⟩
        o_args
        exact ⟨⟨_, rfl⟩, s⟩
      · obtain ⟨⟨z, rfl⟩, s⟩ := h
        o_args
        exact k _ (s1.trans s)
    · refine ⟨_, false, rfl, hk, fun H1 s1 => ?_⟩
      o_args
      exact ⟨_, rfl, mkO_of T.X_InvalidNumber.o T.nX_InvalidNumber fun d H2 nd ss hx => hE d H2 (s1.trans ss) hx⟩
    · refine ⟨_, true, rfl, seqK_of hA, fun H1 s1 => ?_⟩
      o_args
      refine forSeq (fun R q => ⟨_, rfl, q⟩) (hA.sm s1) (fun i σ H' => i ≤ ns.length ∧ (∃ z, σ = [some (.ref a), z]) ∧ Same H1 H') ⟨Nat.zero_le _, ⟨none, rfl⟩, Same.refl H1⟩ (fun i σ H' h o e => h.2.2 _ _ e) (fun i x σ H' hi h => ?_) (fun σ H' h => ?_)
      · obtain ⟨il, ⟨z, rfl⟩, s⟩ := h
        by_cases q : i < ns.length
        · rw [List.getElem?_append_left (by rw [List.length_map]; exact q), List.getElem?_map] at hi
          obtain ⟨n, en, rfl⟩ := Option.map_eq_some_iff.mp hi
          obtain ⟨b0, b1⟩ := hb n (List.mem_of_getElem? en)
          o_args
          refine ⟨_, rfl, .inl ⟨n, rfl, b0, b1, ?_⟩⟩
          o_args
          exact ⟨q, ⟨_, rfl⟩, s⟩
        · have e : i = ns.length := by omega
          subst e
          rw [List.getElem?_append_right (by rw [List.length_map]; exact Nat.le_refl _), List.length_map, Nat.sub_self] at hi
          cases hi
          o_args
          refine ⟨_, rfl, .inr ⟨ho.same (s1.trans s), ?_⟩⟩
          o_args
          exact ⟨_, rfl, mkO_of T.X_InvalidNumber.o T.nX_InvalidNumber fun d H2 nd ss hx => hE d H2 ((s1.trans s).trans ss) hx⟩
      · obtain ⟨il, _⟩ := h
        rw [List.length_append, List.length_map, List.length_cons] at il
        omega
/-! ### the gaps, one by one -/
def sp_Spans_gaps (K : PySem.W.Frag) (C : Addr) : SpG := fun vs H cont _ => ∃ (e : Addr) (F : List Addr) (rs : List Run) (lo hi : Int), vs = [.ref e, .int lo, .int hi] ∧ SpA C e F rs H ∧ rs.length < 20000 ∧
  ∀ ts out H', (∀ t ∈ ts, H t = none) → Same H H' → Tups H' ts out → out.length ≤ rs.length + 1 → Nrm out → (∀ q ∈ out, lo ≤ q.1 ∧ q.2 ≤ hi) → (∀ o, Mem o out ↔ lo ≤ o ∧ o < hi ∧ ¬ Mem o rs) → cont (ts.map V.ref) H'
theorem ok_Spans_gaps (T : Txt K mg) : GFn P w K mg base 2 T.a_Spans_gaps T.fd_Spans_gaps ["self", "low", "high"] (sp_Spans_gaps K T.c_Spans) := by
  have S := sc_Spans_gaps
  refine gen_fn T.F_Spans_gaps S (fun vs H Q E h => ?_) (fun cdv A outer s H vs Q E pn hr h => ?_)
  · obtain ⟨e, F, rs, lo, hi, rfl, _⟩ := h
    rfl
  · obtain ⟨e, F, rs, lo, hi, rfl, ⟨dx, l, ts0, he, hR, _, _, _, hO⟩, hz, k⟩ := h
    refine ⟨_, (gss_cons (gs_for owns_gcx rfl (pi_list (pe_call (ok_missing T) (hr.mono (by decide)) rfl T.g_missing T.F_missing.kp T.B_missing .nil pass0 (pa_cons (pe_fld (pv 0) rfl) (pa_cons (pv 1) (pa_cons (pv 2) pa_nil))))) (pg_name (i := 3) S.nd rfl (Or.inl rfl)) (gss_cons (gs_yield (pv 3)) gss_nil)) gss_nil), ?_⟩
    refine st_Spans_gaps ?_
    refine x_gthen ?_
    refine x_gfor ?_
    o_args
    refine fget he T.cl_Spans T.n_Spans__runs rfl ?_
    o_args
    refine ⟨l, ts0, rs, lo, hi, rfl, hR, hO.nrm, by omega, fun m ts out H1 nm nt s1 r1 zo n1 b1 m1 => ?_⟩
    refine ⟨m, rfl, ⟨_, SqL.of r1.1⟩, gfor_list (xs := ts.map V.ref) (fun i zs σ' H' => (∃ z, σ' = [some (.ref e), some (.int lo), some (.int hi), z]) ∧ H' = H1 ∧ zs = (ts.take i).map V.ref) ⟨⟨none, rfl⟩, rfl, rfl⟩ (fun i zs σ' H' h => ?_) (fun i v zs σ' H' hv h => ?_) (fun zs σ' H' h => ?_)⟩
    · rw [h.2.1]
      exact SqL.of r1.1
    · obtain ⟨⟨z, rfl⟩, rfl, rfl⟩ := h
      have il := getq_lt hv
      rw [List.length_map] at il
      o_args
      refine x_gthen ?_
      have := r1.len
      refine x_gyield (by rw [List.length_map, List.length_take]; omega) ?_
      o_args
      refine x_g00 ⟨⟨_, rfl⟩, rfl, ?_⟩
      rw [List.getElem?_map, List.getElem?_eq_getElem il] at hv
      cases hv
      rw [List.take_succ, List.getElem?_eq_getElem il, List.map_append]
      rfl
    · obtain ⟨⟨z, rfl⟩, rfl, rfl⟩ := h
      rw [List.length_map, List.take_length]
      exact k ts out H' nt s1 r1.2 zo n1 b1 m1
/-! ### the inbox's object -/
theorem dgetI {H : Hp} {v : V} {a : Addr} {kvs : List (Key × V)} {k : Int} {P : V → Prop} (h : H a = some (.dK kvs)) (e : valV kvs (.inl k) = some v) (q : P v) : ∃ b u, V.ref a = .ref b ∧ DGet H b (.int k) (some u) ∧ P u := ⟨a, v, rfl, .inl ⟨kvs, .inl k, .inl h, rfl, e.symm⟩, q⟩
theorem dputI {H : Hp} {v : V} {a : Addr} {kvs : List (Key × V)} {k : Int} {P : Hp → Prop} (h : H a = some (.dK kvs)) (l : kvs.length < 100000) (q : ∀ H', SameX a H H' → H' a = some (.dK (putK kvs (.inl k) v)) → P H') : ∃ b H4, V.ref a = .ref b ∧ DPut H b (.int k) v H4 ∧ P H4 :=
  ⟨a, _, rfl, .inl ⟨kvs, .inl k, h, rfl, Nat.lt_of_lt_of_le l (by decide), rfl⟩, q _ SameX.upd upd_same⟩
/-- the dict tells what is stored where -/
def Tells (kvs : List (Key × V)) (f : Int → Option Int) : Prop := ∀ k, valV kvs (.inl k) = (f k).map V.int
theorem Tells.put {kvs : List (Key × V)} {f : Int → Option Int} {k v : Int} (h : Tells kvs f) : Tells (putK kvs (.inl k) (.int v)) (fun j => if j = k then some v else f j) := fun j => by
  show _ = Option.map V.int (if j = k then some v else f j)
  rw [valV_put]
  by_cases e : j = k
  · rw [if_pos e, if_pos (congrArg Sum.inl e)]; rfl
  · rw [if_neg e, if_neg (fun z => e (Sum.inl.inj z)), h j]
theorem valV_dropI (k j : Int) : ∀ kvs : List (Key × V), valV (dropK kvs (.inl k)) (.inl j) = if j = k then none else valV kvs (.inl j)
  | [] => by split <;> rfl
  | p :: r => by
    have ih := valV_dropI k j r
    unfold dropK at ih ⊢
    rw [List.filter_cons]
    by_cases a : p.1 = .inl k
    · rw [if_neg (by simp [a]), ih]
      by_cases e : j = k
      · rw [if_pos e, if_pos e]
      · rw [if_neg e, if_neg e, valV_neg (fun z => e (Sum.inl.inj (z.symm.trans a)))]
    · rw [if_pos (by simp [a])]
      by_cases b : p.1 = .inl j
      · rw [valV_pos b, valV_pos b, if_neg (fun e => a (by rw [b, e]))]
      · rw [valV_neg b, valV_neg b, ih]
theorem Tells.drop {kvs : List (Key × V)} {f : Int → Option Int} {k : Int} (h : Tells kvs f) : Tells (dropK kvs (.inl k)) (fun j => if j = k then none else f j) := fun j => by
  show _ = Option.map V.int (if j = k then none else f j)
  rw [valV_dropI]
  by_cases e : j = k
  · rw [if_pos e, if_pos e]; rfl
  · rw [if_neg e, if_neg e, h j]
theorem Tells.nil : Tells [] (fun _ => none) := fun _ => rfl
/-- limit, next, read, latest; final; what is stored; the runs ahead -/
structure Ib where
  lim : Int
  nx : Int
  rd : Int
  fin : Option Int
  urg : Int
  la : Int
  st : Int → Option Int
  ah : List Run
def finV : Option Int → V
  | none => .non
  | some n => .int n
def Ib.fs (B : Ib) (d e : Addr) : List (Str × V) := [("_limit", .int B.lim), ("next_offset", .int B.nx), ("read_offset", .int B.rd), ("final", finV B.fin), ("urgent_end", .int B.urg), ("_stored", .ref d), ("_ahead", .ref e), ("_latest", .int B.la)]
/-- at p the inbox, at d what it stores, at e the runs ahead; F: what is apart from the runs' own -/
structure InAt (C Cs p d e : Addr) (F : List Addr) (m : Nat) (B : Ib) (H : Hp) : Prop where
  oo : ∃ dx, H p = some (.ins C dx (B.fs d e))
  dd : ∃ kvs, H d = some (.dK kvs) ∧ Tells kvs B.st ∧ kvs.length ≤ m
  ee : SpA Cs e F B.ah H
  pe : p ≠ e
  li : 1 ≤ B.lim ∧ B.lim ≤ 65535
  ff : p ∈ F ∧ d ∈ F
section
variable {C Cs p d e : Addr} {F G : List Addr} {m m' : Nat} {B : Ib} {H H' : Hp}
theorem InAt.same (h : InAt C Cs p d e F m B H) (s : Same H H') : InAt C Cs p d e F m B H' := ⟨h.oo.elim fun dx h => ⟨dx, s _ _ h⟩, h.dd.elim fun k h => ⟨k, s _ _ h.1, h.2⟩, h.ee.same s, h.pe, h.li, h.ff⟩
theorem InAt.more (h : InAt C Cs p d e F m B H) (z : m ≤ m') : InAt C Cs p d e F m' B H := ⟨h.oo, h.dd.elim fun k h => ⟨k, h.1, h.2.1, Nat.le_trans h.2.2 z⟩, h.ee, h.pe, h.li, h.ff⟩
end
/-- C() -/
theorem make_spans0 {C Ce : Addr} {H : Hp} {G' : Addr → Hp → Prop} {E : XK} (k : ∀ e H', H e = none → Same H H' → (∀ G, Al G H → SpA C e G [] H') → G' e H') :
    ∀ x dx, H x = none → H dx = none → dx ≠ x → starSp 1 (sp_Spans_init_ K C Ce) [.ref x] (upd (upd H dx (.own x)) x (.ins C dx [])) (fun v H2 => v = .non ∧ G' x H2) E := by
  intro x dx hx hdx ne
  have s0 : Same H (upd (upd H dx (.own x)) x (.ins C dx [])) := fun b o e => by rw [upd_ne (ne_of_none e hx), upd_ne (ne_of_none e hdx)]; exact e
  have h0 : upd (upd H dx (.own x)) x (.ins C dx []) x = some (.ins C dx []) := upd_same
  generalize upd (upd H dx (.own x)) x (.ins C dx []) = H0 at s0 h0
  refine ⟨[.ref x], [], rfl, rfl, by decide, fun p hp0 => ?_⟩
  have s1 : Same H0 (upd H0 p (.tup [])) := Same.new hp0
  have h1 : upd H0 p (.tup []) p = some (.tup []) := upd_same
  generalize upd H0 p (.tup []) = H1 at s1 h1
  have S := s0.trans s1
  refine ⟨x, p, dx, [], rfl, s1 _ _ h0, h1, by decide, .inl ⟨[], rfl, (fun i y r a b => by cases a), fun H' rs c hS z m => ⟨rfl, ?_⟩⟩⟩
  have e : rs = [] := List.eq_nil_of_length_eq_zero (Nat.le_zero.mp z)
  subst e
  exact k x H' hx (Ch.same (((Ch.of S).trans c).drop hx)) (fun G A => hS G (A.same S) (A.new hx))
def sp_Inbox_limit_set (K : PySem.W.Frag) (C Ce : Addr) : Sp := fun vs H Q E => ∃ (p dx : Addr) (fs : List (Str × V)) (x : V), vs = [.ref p, x] ∧ H p = some (.ins C dx fs) ∧ fs.length < 1000 ∧
  ((∃ n, x = .int n ∧ 1 ≤ n ∧ n ≤ 65535 ∧ ∀ H', SameX p H H' → H' p = some (.ins C dx (putF "_limit" (.int n) fs)) → Q .non H') ∨ (Out K H x 1 65535 ∧ Err Ce "setting" (.str "limit") H E))
theorem ok_Inbox_limit_set (T : Txt K mg) : FnOk P w K mg base (L2.CX P w) 4 T.a_Inbox_limit_set T.fd_Inbox_limit_set ["self", "value"] (sp_Inbox_limit_set K T.c_Inbox T.c_InvalidSetting) := by
  have S := sc_Inbox_limit_set
  refine T.F_Inbox_limit_set.okX S (fun vs H Q E h => ?_) (fun cdv A outer s H vs Q E hr h => ?_)
  · obtain ⟨p, dx, fs, x, rfl, _⟩ := h
    rfl
  · obtain ⟨p, dx, fs, x, rfl, hp, hl, h⟩ := h
    refine ⟨_, (pss_cons (ps_expr (pe_call (ok_require_limit T) (hr.mono (by decide)) rfl T.g_require_limit T.F_require_limit.kp T.B_require_limit .nil (passes_call (takes_of rfl rfl rfl rfl) (fun _ _ _ _ h => h)) (pa_cons (pv 1) pa_nil)))
      (pss_one (ps_fld (pv 0) (pv 1) rfl))), ?_⟩
    refine st_Inbox_limit_set ?_
    o_args
    rcases h with ⟨n, rfl, h0, h1, k⟩ | ⟨ho, hE⟩
    · refine ⟨_, rfl, .inl ⟨n, rfl, h0, h1, ?_⟩⟩
      o_args
      refine fstore hp T.cl_Inbox T.n_Inbox__limit hl rfl fun H1 s1 h1 => ?_
      o_args
      exact k H1 s1 h1
    · exact ⟨_, rfl, .inr ⟨ho, hE⟩⟩
def Ib.new (n : Int) : Ib := ⟨n, 1, 1, none, 0, 0, fun _ => none, []⟩
def sp_Inbox_init_ (K : PySem.W.Frag) (C Cs Ce : Addr) : Sp := fun vs H Q E => ∃ (p dx : Addr) (x : V), vs = [.ref p, x] ∧ H p = some (.ins C dx []) ∧
  ((∃ n, x = .int n ∧ 1 ≤ n ∧ n ≤ 65535 ∧ ∀ d e H', H d = none → H e = none → Ch [p] H H' → (∀ F, Al F H → p ∈ F → InAt C Cs p d e (d :: F) 0 (Ib.new n) H') → Q .non H') ∨ (Out K H x 1 65535 ∧ Err Ce "setting" (.str "limit") H E))
theorem ok_Inbox_init_ (T : Txt K mg) : FnOk P w K mg base (L2.CX P w) 7 T.a_Inbox_init_ T.fd_Inbox_init_ ["self", "limit"] (sp_Inbox_init_ K T.c_Inbox T.c_Spans T.c_InvalidSetting) := by
  have S := sc_Inbox_init_
  refine T.F_Inbox_init_.okX S (fun vs H Q E h => ?_) (fun cdv A outer s H vs Q E hr h => ?_)
  · obtain ⟨p, dx, x, rfl, _⟩ := h
    rfl
  · obtain ⟨p, dx, x, rfl, hp, h⟩ := h
    refine ⟨_, (pss_cons (ps_setp (pv 0) (pv 1) T.cl_Inbox T.SE_Inbox_limit_set (ok_Inbox_limit_set T) (hr.mono (by decide)) T.B_Inbox_limit_set (passes_call (takes_of rfl rfl rfl rfl) (fun _ _ _ _ h => h)) rfl)
      (pss_cons (ps_fld (pv 0) pe_int rfl)
      (pss_cons (ps_fld (pv 0) pe_int rfl)
      (pss_cons (ps_fld (pv 0) pe_non rfl)
      (pss_cons (ps_fld (pv 0) pe_int rfl)
      (pss_cons (ps_fld (pv 0) pe_dnewK rfl)
      (pss_cons (ps_fld (pv 0) (pe_makeR0 T.M_Spans (ok_Spans_init_ T) (hr.mono (by decide)) rfl T.g_Spans (passes_call (takes_of rfl rfl rfl rfl) (fun _ _ _ _ h => h))) rfl)
      (pss_one (ps_fld (pv 0) pe_int rfl))))))))), ?_⟩
    refine st_Inbox_init_ ?_
    o_args
    refine ⟨p, dx, _, rfl, hp, ?_⟩
    refine ⟨p, dx, _, x, rfl, hp, by decide, ?_⟩
    rcases h with ⟨n, rfl, h0, h1, k⟩ | ⟨ho, hE⟩
    · refine .inl ⟨n, rfl, h0, h1, fun H1 s1 h1 => ?_⟩
      o_args
      refine fstore h1 T.cl_Inbox T.n_Inbox_next_offset (Nat.le_of_ble_eq_true rfl) rfl fun H2 s2 h2 => ?_
      o_args
      refine fstore h2 T.cl_Inbox T.n_Inbox_read_offset (Nat.le_of_ble_eq_true rfl) rfl fun H3 s3 h3 => ?_
      o_args
      refine fstore h3 T.cl_Inbox T.n_Inbox_final (Nat.le_of_ble_eq_true rfl) rfl fun H4 s4 h4 => ?_
      o_args
      refine fstore h4 T.cl_Inbox T.n_Inbox_urgent_end (Nat.le_of_ble_eq_true rfl) rfl fun H5 s5 h5 => ?_
      o_args
      intro d nd
      have sd := Same.new (o := .dK []) nd
      have hd : L2.upd H5 d (.dK []) d = some (.dK []) := upd_same
      generalize L2.upd H5 d (.dK []) = H6 at sd hd
      have dp : d ≠ p := fun e => by rw [e, h5] at nd; cases nd
      o_args
      refine fstore (sd _ _ h5) T.cl_Inbox T.n_Inbox__stored (Nat.le_of_ble_eq_true rfl) rfl fun H7 s7 h7 => ?_
      have hd7 := s7 _ _ dp hd
      o_args
      refine make_spans0 fun e H8 ne s8 hS => ?_
      have ep : p ≠ e := fun z => by rw [← z, h7] at ne; cases ne
      have ed : e ≠ d := fun z => by rw [z, hd7] at ne; cases ne
      o_args
      refine fstore (s8 _ _ h7) T.cl_Inbox T.n_Inbox__ahead (Nat.le_of_ble_eq_true rfl) rfl fun H9 s9 h9 => ?_
      o_args
      refine fstore h9 T.cl_Inbox T.n_Inbox__latest (Nat.le_of_ble_eq_true rfl) rfl fun H10 s10 h10 => ?_
      o_args
      have X5 : SameX p H H5 := (((s1.trans s2).trans s3).trans s4).trans s5
      have c5 : Ch [p] H H5 := Ch.ofX (by simp) X5 h5
      have c7 : Ch [p] H H7 := (c5.trans (Ch.of sd)).trans (Ch.ofX (by simp) s7 h7)
      have c10 : Ch [p] H8 H10 := (Ch.ofX (by simp) s9 h9).trans (Ch.ofX (by simp) s10 h10)
      have nd0 : H d = none := c5.none nd
      have ne0 : H e = none := c7.none ne
      refine k d e H10 nd0 ne0 ((c7.trans (Ch.of s8)).trans c10) fun F A pF => ⟨⟨_, h10⟩, ⟨[], (c10.at (by simp [dp]) (s8 _ _ hd7)), Tells.nil, Nat.le_refl _⟩, ?_, ep, ⟨h0, by assumption⟩, List.mem_cons_of_mem _ pF, List.mem_cons_self⟩
      refine (hS (d :: F) ?_).ch c10 (fun b hb => by rw [List.mem_singleton.mp hb]; exact List.mem_cons_of_mem _ pF)
      exact .cons hd7 (A.ch c7)
    · exact .inr ⟨ho, hE⟩
def sp_Inbox_limit (C Cs : Addr) : Sp := fun vs H Q _ => ∃ (p d e : Addr) (F : List Addr) (m : Nat) (B : Ib), vs = [.ref p] ∧ InAt C Cs p d e F m B H ∧ Q (.int B.lim) H
theorem ok_Inbox_limit (T : Txt K mg) : FnOk P w K mg base CX0 1 T.a_Inbox_limit T.fd_Inbox_limit ["self"] (sp_Inbox_limit T.c_Inbox T.c_Spans) := by
  have S := sc_Inbox_limit
  refine T.F_Inbox_limit.ok S (fun vs H Q E h => ?_) (fun cdv A outer s H vs Q E hr h => ?_)
  · obtain ⟨p, d, e, F, m, B, rfl, _⟩ := h
    rfl
  · obtain ⟨p, d, e, F, m, B, rfl, I, k⟩ := h
    obtain ⟨dx, hp⟩ := I.oo
    refine ⟨_, (pss_one (ps_ret (pe_fld (pv 0) rfl))), ?_⟩
    refine st_Inbox_limit ?_
    o_args
    refine fget hp T.cl_Inbox T.n_Inbox__limit rfl ?_
    o_args
    exact k
def Ib.edge (B : Ib) : Int := max B.nx (B.rd + B.lim)
def sp_Inbox_edge (C Cs : Addr) : Sp := fun vs H Q _ => ∃ (p d e : Addr) (F : List Addr) (m : Nat) (B : Ib), vs = [.ref p] ∧ InAt C Cs p d e F m B H ∧ Q (.int B.edge) H
theorem ok_Inbox_edge (T : Txt K mg) : FnOk P w K mg base CX0 1 T.a_Inbox_edge T.fd_Inbox_edge ["self"] (sp_Inbox_edge T.c_Inbox T.c_Spans) := by
  have S := sc_Inbox_edge
  refine T.F_Inbox_edge.ok S (fun vs H Q E h => ?_) (fun cdv A outer s H vs Q E hr h => ?_)
  · obtain ⟨p, d, e, F, m, B, rfl, _⟩ := h
    rfl
  · obtain ⟨p, d, e, F, m, B, rfl, I, k⟩ := h
    obtain ⟨dx, hp⟩ := I.oo
    refine ⟨_, (pss_one (ps_ret (pe_callB (id := "max") (call_max2K rfl) (by rfl) T.b_max (by decide +kernel) (pa_cons (pe_fld (pv 0) rfl) (pa_cons (pe_op op_add (pe_fld (pv 0) rfl) (pe_fld (pv 0) rfl)) pa_nil))))), ?_⟩
    refine st_Inbox_edge ?_
    o_args
    refine fget hp T.cl_Inbox T.n_Inbox_next_offset rfl ?_
    o_args
    refine fget hp T.cl_Inbox T.n_Inbox_read_offset rfl ?_
    o_args
    refine fget hp T.cl_Inbox T.n_Inbox__limit rfl ?_
    o_args
    exact k
def sp_Inbox_room (C Cs : Addr) : Sp := fun vs H Q _ => ∃ (p d e : Addr) (F : List Addr) (m : Nat) (B : Ib), vs = [.ref p] ∧ InAt C Cs p d e F m B H ∧ Q (.int (B.edge - B.nx)) H
theorem ok_Inbox_room (T : Txt K mg) : FnOk P w K mg base CX0 3 T.a_Inbox_room T.fd_Inbox_room ["self"] (sp_Inbox_room T.c_Inbox T.c_Spans) := by
  have S := sc_Inbox_room
  refine T.F_Inbox_room.ok S (fun vs H Q E h => ?_) (fun cdv A outer s H vs Q E hr h => ?_)
  · obtain ⟨p, d, e, F, m, B, rfl, _⟩ := h
    rfl
  · obtain ⟨p, d, e, F, m, B, rfl, I, k⟩ := h
    obtain ⟨dx, hp⟩ := I.oo
    refine ⟨_, (pss_one (ps_ret (pe_op op_sub (pe_prop (pv 0) T.cl_Inbox T.PR_Inbox_edge (ok_Inbox_edge T) (hr.mono (by decide)) T.B_Inbox_edge .nil pass0 rfl) (pe_fld (pv 0) rfl)))), ?_⟩
    refine st_Inbox_room ?_
    o_args
    refine ⟨p, dx, _, rfl, hp, p, d, e, F, m, B, rfl, I, ?_⟩
    o_args
    refine fget hp T.cl_Inbox T.n_Inbox_next_offset rfl ?_
    o_args
    exact k
def sp_Inbox_ready (C Cs : Addr) : Sp := fun vs H Q _ => ∃ (p d e : Addr) (F : List Addr) (m : Nat) (B : Ib), vs = [.ref p] ∧ InAt C Cs p d e F m B H ∧ Q (.int (B.nx - B.rd)) H
theorem ok_Inbox_ready (T : Txt K mg) : FnOk P w K mg base CX0 1 T.a_Inbox_ready T.fd_Inbox_ready ["self"] (sp_Inbox_ready T.c_Inbox T.c_Spans) := by
  have S := sc_Inbox_ready
  refine T.F_Inbox_ready.ok S (fun vs H Q E h => ?_) (fun cdv A outer s H vs Q E hr h => ?_)
  · obtain ⟨p, d, e, F, m, B, rfl, _⟩ := h
    rfl
  · obtain ⟨p, d, e, F, m, B, rfl, I, k⟩ := h
    obtain ⟨dx, hp⟩ := I.oo
    refine ⟨_, (pss_one (ps_ret (pe_op op_sub (pe_fld (pv 0) rfl) (pe_fld (pv 0) rfl)))), ?_⟩
    refine st_Inbox_ready ?_
    o_args
    refine fget hp T.cl_Inbox T.n_Inbox_next_offset rfl ?_
    o_args
    refine fget hp T.cl_Inbox T.n_Inbox_read_offset rfl ?_
    o_args
    exact k
def Ib.stop (B : Ib) : Int := match B.fin with
  | none => B.edge
  | some n => min B.edge n
def sp_Inbox_stop (C Cs : Addr) : Sp := fun vs H Q _ => ∃ (p d e : Addr) (F : List Addr) (m : Nat) (B : Ib), vs = [.ref p] ∧ InAt C Cs p d e F m B H ∧ Q (.int B.stop) H
theorem ok_Inbox_stop (T : Txt K mg) : FnOk P w K mg base CX0 3 T.a_Inbox_stop T.fd_Inbox_stop ["self"] (sp_Inbox_stop T.c_Inbox T.c_Spans) := by
  have S := sc_Inbox_stop
  refine T.F_Inbox_stop.ok S (fun vs H Q E h => ?_) (fun cdv A outer s H vs Q E hr h => ?_)
  · obtain ⟨p, d, e, F, m, B, rfl, _⟩ := h
    rfl
  · obtain ⟨p, d, e, F, m, B, rfl, I, k⟩ := h
    obtain ⟨dx, hp⟩ := I.oo
    unfold Ib.stop at k
    refine ⟨_, (pss_one (ps_ret (pe_ifExp (pt_cmpR op_isN (pe_fld (pv 0) rfl) pe_non (nomark _)) (pe_prop (pv 0) T.cl_Inbox T.PR_Inbox_edge (ok_Inbox_edge T) (hr.mono (by decide)) T.B_Inbox_edge .nil pass0 rfl) (pe_callB (id := "min") (call_min2K rfl) (by rfl) T.b_min (by decide +kernel) (pa_cons (pe_prop (pv 0) T.cl_Inbox T.PR_Inbox_edge (ok_Inbox_edge T) (hr.mono (by decide)) T.B_Inbox_edge .nil pass0 rfl) (pa_cons (pe_fld (pv 0) rfl) pa_nil)))))), ?_⟩
    refine st_Inbox_stop ?_
    o_args
    refine fget hp T.cl_Inbox T.n_Inbox_final rfl ?_
    o_args
    cases hf : B.fin with
    | none =>
      rw [hf] at k
      refine brT (by rfl) ?_
      o_args
      refine ⟨p, dx, _, rfl, hp, p, d, e, F, m, B, rfl, I, ?_⟩
      o_args
      exact k
    | some n =>
      rw [hf] at k
      refine brF (by rfl) ?_
      o_args
      refine ⟨p, dx, _, rfl, hp, p, d, e, F, m, B, rfl, I, ?_⟩
      o_args
      refine fget hp T.cl_Inbox T.n_Inbox_final rfl ?_
      rw [hf]
      exact x_min2 k
/-! ### counted places -/
theorem nodup_le {α : Type} [DecidableEq α] : ∀ {l m : List α}, l.Nodup → (∀ x ∈ l, x ∈ m) → l.length ≤ m.length
  | [], _, _, _ => Nat.zero_le _
  | x :: l, m, n, h => by
    obtain ⟨n1, n2⟩ := List.nodup_cons.mp n
    have hx := h x List.mem_cons_self
    have := nodup_le (m := m.erase x) n2 fun y hy => (List.mem_erase_of_ne (fun e => n1 (by rw [← e]; exact hy))).mpr (h y (List.mem_cons_of_mem _ hy))
    rw [List.length_erase_of_mem hx] at this
    have := List.length_pos_of_mem hx
    rw [List.length_cons]
    omega
def sumR (rs : List Run) : Int := (rs.map fun r => r.2 - r.1).sum
def cnt (f : Int → Bool) (lo : Int) : Nat → Int
  | 0 => 0
  | n + 1 => cnt f lo n + if f (lo + n) = true then 1 else 0
theorem cnt_le (f : Int → Bool) (lo : Int) : ∀ n, 0 ≤ cnt f lo n ∧ cnt f lo n ≤ n
  | 0 => ⟨Int.le_refl _, Int.le_refl _⟩
  | n + 1 => by
    have := cnt_le f lo n
    unfold cnt
    split <;> omega
theorem cnt_none {f : Int → Bool} {lo : Int} : ∀ {n : Nat}, (∀ o, f o = false) → cnt f lo n = 0
  | 0, _ => rfl
  | n + 1, h => by unfold cnt; rw [cnt_none h, if_neg (by rw [h]; exact fun z => nomatch z)]; rfl
theorem cnt_add {f g k : Int → Bool} {lo : Int} (h : ∀ o, (f o = true ↔ g o = true ∨ k o = true) ∧ ¬ (g o = true ∧ k o = true)) : ∀ {n : Nat}, cnt f lo n = cnt g lo n + cnt k lo n
  | 0 => rfl
  | n + 1 => by
    unfold cnt
    rw [cnt_add h]
    obtain ⟨h1, h2⟩ := h (lo + n)
    by_cases c : g (lo + n) = true
    · rw [if_pos c, if_pos (h1.mpr (.inl c)), if_neg (fun d => h2 ⟨c, d⟩)]; omega
    · by_cases d : k (lo + n) = true
      · rw [if_neg c, if_pos d, if_pos (h1.mpr (.inr d))]; omega
      · rw [if_neg c, if_neg d, if_neg (fun z => (h1.mp z).elim c d)]; omega
theorem cnt_in {a b lo : Int} (h : lo ≤ a) (hab : a ≤ b) : ∀ n : Nat, cnt (fun o => decide (a ≤ o ∧ o < b)) lo n = max 0 (min b (lo + n) - a)
  | 0 => by show (0 : Int) = _; omega
  | n + 1 => by
    unfold cnt
    rw [cnt_in h hab n]
    by_cases c : a ≤ lo + n ∧ lo + n < b
    · rw [if_pos (decide_eq_true c)]; omega
    · rw [if_neg (fun z => c (of_decide_eq_true z))]; omega
theorem sumR_cnt {lo : Int} {n : Nat} : ∀ {ws : List Run} {f : Int → Bool}, Nrm ws → (∀ r ∈ ws, lo ≤ r.1 ∧ r.2 ≤ lo + n) → (∀ o, f o = true ↔ Mem o ws) → sumR ws = cnt f lo n
  | [], f, _, _, h => by
    rw [cnt_none fun o => by cases e : f o with
      | false => rfl
      | true => exact absurd ((h o).mp e) Mem.nil]
    rfl
  | w :: ws, f, N, b, h => by
    obtain ⟨n1, n2, n3⟩ := Nrm.cons.mp N
    obtain ⟨b1, b2⟩ := b w List.mem_cons_self
    have e := cnt_add (f := f) (g := fun o => decide (w.1 ≤ o ∧ o < w.2)) (k := fun o => f o && decide (w.2 ≤ o)) (lo := lo) (fun o => by
      have ho := h o
      rw [Mem.cons] at ho
      have lt : Mem o ws → w.2 < o := fun ⟨q, hq, c⟩ => by have := n2 q hq; omega
      constructor
      · rw [Bool.and_eq_true, decide_eq_true_iff, decide_eq_true_iff]
        constructor
        · intro z
          rcases ho.mp z with c | c
          · exact .inl c
          · exact .inr ⟨z, by have := lt c; omega⟩
        · rintro (c | c)
          · exact ho.mpr (.inl c)
          · exact c.1
      · rw [Bool.and_eq_true, decide_eq_true_iff, decide_eq_true_iff]
        omega) (n := n)
    have i := sumR_cnt (lo := lo) (n := n) (ws := ws) (f := fun o => f o && decide (w.2 ≤ o)) n3 (fun r hr => b r (List.mem_cons_of_mem _ hr)) fun o => by
      rw [Bool.and_eq_true, decide_eq_true_iff, h o, Mem.cons]
      constructor
      · rintro ⟨c | c, d⟩
        · omega
        · exact c
      · rintro ⟨q, hq, c⟩
        exact ⟨.inr ⟨q, hq, c⟩, by have := n2 q hq; omega⟩
    rw [e, ← i, cnt_in b1 (by omega)]
    unfold sumR
    rw [List.map_cons, List.sum_cons]
    omega
/-- a run each for keys that are in the dict -/
theorem runs_le {kvs : List (Key × V)} {f : Int → Option Int} {rs : List Run} (t : Tells kvs f) (n : Nrm rs) (h : ∀ o, Mem o rs → f o ≠ none) : rs.length ≤ kvs.length := by
  have hp : (rs.map fun r => (Sum.inl r.1 : Key)).Nodup := by
    rw [List.Nodup, List.pairwise_map]
    have pos := n.1
    refine n.2.imp_of_mem fun {a b} ha hb c e => ?_
    have e := Sum.inl.inj e
    have := pos a ha
    omega
  have := nodup_le (m := kvs.map (·.1)) hp fun k hk => by
    obtain ⟨r, hr, rfl⟩ := List.mem_map.mp hk
    have := h r.1 ⟨r, hr, Int.le_refl _, n.1 r hr⟩
    have e := t r.1
    cases q : f r.1 with
    | none => exact absurd q this
    | some x =>
      rw [q] at e
      obtain ⟨p, hp, e2⟩ := Option.map_eq_some_iff.mp e
      exact List.mem_map.mpr ⟨p, List.mem_of_find?_eq_some hp, by have z := List.find?_some hp; simpa using z⟩
  simpa using this
/-! ### the inbox takes -/
/-- what is new of n bytes from off on -/
def Ib.neu (B : Ib) (off : Int) (n : Nat) (o : Int) : Prop := max off B.nx ≤ o ∧ o < min (off + n) B.stop ∧ ¬ Mem o B.ah
structure Good (B : Ib) : Prop where
  r1 : 1 ≤ B.rd
  rn : B.rd ≤ B.nx
  ha : ∀ o, Mem o B.ah ↔ B.st o ≠ none ∧ B.nx ≤ o
  nn : B.st B.nx = none
  lo : ∀ o, B.st o ≠ none → B.rd ≤ o
  fu : ∀ o, B.rd ≤ o → o < B.nx → B.st o ≠ none
structure Took (B B' : Ib) (off : Int) (ns : List Int) (r : Int) : Prop where
  li : B'.lim = B.lim
  rd : B'.rd = B.rd
  fi : B'.fin = B.fin
  ur : B'.urg = B.urg
  s1 : ∀ o, B.neu off ns.length o → B'.st o = ns[(o - off).toNat]?
  s0 : ∀ o, ¬ B.neu off ns.length o → B'.st o = B.st o
  n0 : B.nx ≤ B'.nx
  n1 : ∀ o, B.nx ≤ o → o < B'.nx → Mem o B.ah ∨ B.neu off ns.length o
  n2 : ¬ (Mem B'.nx B.ah ∨ B.neu off ns.length B'.nx)
  ha : ∀ o, Mem o B'.ah ↔ (Mem o B.ah ∨ B.neu off ns.length o) ∧ B'.nx ≤ o
  la : ((∀ o, ¬ B.neu off ns.length o) ∧ B'.la = B.la) ∨ (B.neu off ns.length B'.la ∧ ∀ o, B.neu off ns.length o → B'.la ≤ o)
  cn : ∀ f : Int → Bool, (∀ o, f o = true ↔ B.neu off ns.length o) → r = cnt f off ns.length
theorem Took.good {B B' : Ib} {off r : Int} {ns : List Int} (t : Took B B' off ns r) (g : Good B) : Good B' := by
  have hs : ∀ o, B'.st o ≠ none ↔ B.st o ≠ none ∨ B.neu off ns.length o := fun o => by
    by_cases c : B.neu off ns.length o
    · rw [t.s1 o c]
      have c' := c
      obtain ⟨c1, c2, _⟩ := c'
      rw [List.getElem?_eq_getElem (show (o - off).toNat < ns.length by omega)]
      exact ⟨fun _ => .inr c, fun _ => by simp⟩
    · rw [t.s0 o c]
      exact ⟨.inl, fun h => h.resolve_right c⟩
  have n0 := t.n0
  have rn := g.rn
  refine ⟨by rw [t.rd]; exact g.r1, by rw [t.rd]; omega, fun o => ?_, ?_, fun o h => ?_, fun o h1 h2 => ?_⟩
  · rw [t.ha o, hs o, g.ha o]
    constructor
    · rintro ⟨c | c, d⟩
      · exact ⟨.inl c.1, d⟩
      · exact ⟨.inr c, d⟩
    · rintro ⟨c | c, d⟩
      · exact ⟨.inl ⟨c, by omega⟩, d⟩
      · exact ⟨.inr c, d⟩
  · have := t.n2
    rw [g.ha] at this
    cases e : B'.st B'.nx with
    | none => rfl
    | some x =>
      rcases (hs _).mp (by rw [e]; exact fun z => nomatch z) with c | c
      · exact absurd (.inl ⟨c, n0⟩) this
      · exact absurd (.inr c) this
  · rw [t.rd]
    rcases (hs o).mp h with c | c
    · exact g.lo o c
    · have := c.1; omega
  · rw [t.rd] at h1
    rw [hs]
    by_cases c : o < B.nx
    · exact .inl (g.fu o h1 c)
    · rcases t.n1 o (by omega) h2 with d | d
      · exact .inl ((g.ha o).mp d).1
      · exact .inr d
section
variable {C Cs p d e x : Addr} {F G : List Addr} {m : Nat} {B : Ib} {H H' : Hp} {K : PySem.W.Frag}
theorem InAt.own (I : InAt C Cs p d e F m B H) (hx : H x = none) (s : Same H H') : InAt C Cs p d e (x :: F) m B H' := ⟨(I.same s).oo, (I.same s).dd, I.ee.own hx s, I.pe, I.li, List.mem_cons_of_mem _ I.ff.1, List.mem_cons_of_mem _ I.ff.2⟩
theorem InAt.less (I : InAt C Cs p d e F m B H) (h : ∀ b ∈ G, b ∈ F) (h1 : p ∈ G) (h2 : d ∈ G) : InAt C Cs p d e G m B H := ⟨I.oo, I.dd, I.ee.less h, I.pe, I.li, h1, h2⟩
theorem InAt.ch (I : InAt C Cs p d e F m B H) (c : Ch G H H') (h : ∀ b ∈ G, b ∈ F) (hp : p ∉ G) (hd : d ∉ G) : InAt C Cs p d e F m B H' := ⟨I.oo.elim fun dx h => ⟨dx, c.at hp h⟩, I.dd.elim fun k h => ⟨k, c.at hd h.1, h.2⟩, I.ee.ch c h, I.pe, I.li, I.ff⟩
theorem pair_cmp {rs : List Run} {r q : Run} (n : Nrm rs) (hr : r ∈ rs) (hq : q ∈ rs) : r = q ∨ r.2 < q.1 ∨ q.2 < r.1 := by
  obtain ⟨i, hi⟩ := List.mem_iff_getElem?.mp hr
  obtain ⟨j, hj⟩ := List.mem_iff_getElem?.mp hq
  have il := getq_lt hi
  have jl := getq_lt hj
  rw [List.getElem?_eq_getElem il] at hi
  rw [List.getElem?_eq_getElem jl] at hj
  cases hi
  cases hj
  rcases Nat.lt_trichotomy i j with c | c | c
  · exact .inr (.inl (List.pairwise_iff_getElem.mp n.2 i j il jl c))
  · subst c; exact .inl rfl
  · exact .inr (.inr (List.pairwise_iff_getElem.mp n.2 j i jl il c))
theorem SpA.out (S : SpA C e F B.ah H) : e ∉ F := by
  obtain ⟨dx, l, ts, h1, h2, h3, h4, h5, h6⟩ := S
  exact h3
theorem SeqA.chs {a : Addr} {xs : List V} (h : SeqA K H a xs) (c : Ch [p, d, e] H H') (I : InAt C Cs p d e F m B H) : SeqA K H' a xs := by
  obtain ⟨dxp, hp⟩ := I.oo
  obtain ⟨kvs, hd, _⟩ := I.dd
  obtain ⟨dxe, l, ts, he, _⟩ := I.ee
  have k : ∀ {o}, (∀ C dx fs, o ≠ .ins C dx fs) → (∀ kvs, o ≠ .dK kvs) → H a = some o → H' a = some o := fun n1 n2 ha => c.at (fun z => by
    simp only [List.mem_cons, List.not_mem_nil, or_false] at z
    rcases z with z | z | z <;> rw [z] at ha
    · rw [hp] at ha; exact n1 _ _ _ (Option.some.inj ha).symm
    · rw [hd] at ha; exact n2 _ (Option.some.inj ha).symm
    · rw [he] at ha; exact n1 _ _ _ (Option.some.inj ha).symm) ha
  rcases h with ((h | ⟨o, h⟩) | h) | ((h | ⟨o, h⟩) | h)
  · exact .inl (.inl (.inl (k (fun _ _ _ => nofun) (fun _ => nofun) h)))
  · exact .inl (.inl (.inr ⟨o, k (fun _ _ _ => nofun) (fun _ => nofun) h⟩))
  · exact .inl (.inr h)
  · exact .inr (.inl (.inl (k (fun _ _ _ => nofun) (fun _ => nofun) h)))
  · exact .inr (.inl (.inr ⟨o, k (fun _ _ _ => nofun) (fun _ => nofun) h⟩))
  · exact .inr (.inr h)
end
def sp_Inbox_move_on (C Cs : Addr) : Sp := fun vs H Q _ => ∃ (p d e : Addr) (F : List Addr) (m : Nat) (B : Ib), vs = [.ref p] ∧ InAt C Cs p d e F m B H ∧ Al F H ∧ B.ah.length < 20000 ∧ (∀ o, Mem o B.ah → B.nx ≤ o) ∧ 0 ≤ B.nx ∧
  ∀ nx' ah' H', B.nx ≤ nx' → (∀ o, B.nx ≤ o → o < nx' → Mem o B.ah) → ¬ Mem nx' B.ah → (∀ o, Mem o ah' ↔ Mem o B.ah ∧ nx' ≤ o) → InAt C Cs p d e F m { B with nx := nx', ah := ah' } H' → Ch [p, d, e] H H' → Q .non H'
theorem ok_Inbox_move_on (T : Txt K mg) : FnOk P w K mg base CX0 5 T.a_Inbox_move_on T.fd_Inbox_move_on ["self"] (sp_Inbox_move_on T.c_Inbox T.c_Spans) := by
  have S := sc_Inbox_move_on
  refine T.F_Inbox_move_on.ok S (fun vs H Q E h => ?_) (fun cdv A outer s H vs Q E hr h => ?_)
  · obtain ⟨p, d, e, F, m, B, rfl, _⟩ := h
    rfl
  · obtain ⟨p, d, e, F, m, B, rfl, I, A, hz, ge, n0, k⟩ := h
    obtain ⟨dx, hp⟩ := I.oo
    obtain ⟨kvs, hd, ht, hk⟩ := I.dd
    have O := I.ee.offs
    obtain ⟨dxe, le, tse, he, _⟩ := id I.ee
    refine ⟨_, (pss_cons (ps_set (i := 1) S.nd rfl (Or.inl rfl) (pe_meth (pe_fld (pv 0) rfl) T.cl_Spans T.m_Spans_holding (ok_Spans_holding T) (hr.mono (by decide)) T.B_Spans_holding .nil pass0 (pa_cons (pe_fld (pv 0) rfl) pa_nil)))
      (pss_one (ps_if (pt_cmpR op_notN (pv 1) pe_non (nomark _)) (pss_cons (ps_fld (pv 0) (pe_ix ix_tup (pv 1) pe_int (fun _ _ => rfl)) rfl)
      (pss_one (ps_expr (pe_meth (pe_fld (pv 0) rfl) T.cl_Spans T.m_Spans_drop (ok_Spans_drop T) (hr.mono (by decide)) T.B_Spans_drop .nil passL (pa_cons (pe_ix ix_tup (pv 1) pe_int (fun _ _ => rfl)) (pa_cons (pe_ix ix_tup (pv 1) pe_int (fun _ _ => rfl)) pa_nil)))))) pss_nil))), ?_⟩
    refine st_Inbox_move_on ?_
    o_args
    refine fget hp T.cl_Inbox T.n_Inbox__ahead rfl ?_
    o_args
    refine ⟨e, dxe, _, rfl, he, rfl, ?_⟩
    o_args
    refine fget hp T.cl_Inbox T.n_Inbox_next_offset rfl ?_
    o_args
    refine ⟨e, F, B.ah, _, rfl, I.ee, .inl ⟨_, rfl, ?_⟩⟩
    by_cases c : Mem B.nx B.ah
    · obtain ⟨r, rm, c1, c2⟩ := c
      refine .inl ⟨r, rm, c1, c2, fun t H1 s1 h1 => ?_⟩
      have I1 := I.same s1
      have hp1 := s1 _ _ hp
      have r1 : r.1 = B.nx := by
        have := ge r.1 ⟨r, rm, Int.le_refl _, O.nrm.1 r rm⟩
        omega
      o_args
      refine brF (by rfl) ?_
      o_args
      refine fstore hp1 T.cl_Inbox T.n_Inbox_next_offset (Nat.le_of_ble_eq_true rfl) rfl fun H2 s2 h2 => ?_
      have tp : t ≠ p := fun z => by rw [z, hp1] at h1; cases h1
      have h1' := s2 _ _ tp h1
      have hd2 := s2 _ _ (fun z => by rw [z, hp] at hd; cases hd) (s1 _ _ hd)
      have c2' : Ch [p] H1 H2 := Ch.ofX (by simp) s2 h2
      have e2 : SpA T.c_Spans e F B.ah H2 := I1.ee.ch c2' fun b hb => by rw [List.mem_singleton.mp hb]; exact I.ff.1
      o_args
      refine fget h2 T.cl_Inbox T.n_Inbox__ahead rfl ?_
      o_args
      refine ⟨e, dxe, _, rfl, s2 _ _ I.pe.symm (s1 _ _ he), rfl, ?_⟩
      o_args
      refine ⟨e, F, B.ah, _, _, rfl, e2, hz, .inl ⟨r.1, r.2, rfl, rfl, by omega, by omega, fun H3 rs' c3 hS z3 m3 => ?_⟩⟩
      o_args
      have A2 : Al F H2 := (A.same s1).ch c2'
      have ef : e ∉ F := I.ee.out
      have pe : p ∉ [e] := fun z => I.pe (List.mem_singleton.mp z)
      have de : d ∉ [e] := fun z => ef (by rw [← List.mem_singleton.mp z]; exact I.ff.2)
      refine k r.2 rs' H3 (by omega) (fun o q1 q2 => ⟨r, rm, by omega, q2⟩) (fun ⟨q, hq, d1, d2⟩ => ?_) (fun o => ?_) ⟨⟨dx, c3.at pe h2⟩, ⟨kvs, c3.at de hd2, ht, hk⟩, hS F A2 ef, I.pe, I.li, I.ff⟩ (((Ch.of s1).trans (c2'.more (by simp))).trans (c3.more (by simp)))
      · rcases pair_cmp O.nrm rm hq with z | z | z
        · subst z; omega
        · omega
        · omega
      · rw [m3 o]
        constructor
        · rintro ⟨a, b⟩
          have := ge o a
          exact ⟨a, by omega⟩
        · rintro ⟨a, b⟩
          exact ⟨a, by omega⟩
    · refine .inr ⟨c, ?_⟩
      o_args
      exact k B.nx B.ah H (Int.le_refl _) (fun o q1 q2 => by omega) c (fun o => ⟨fun a => ⟨a, ge o a⟩, fun a => a.1⟩) I Ch.refl
/-! ### the inbox takes -/
theorem x_listG {tg : TGen} {σ : L2.St} {H : Hp} {Q : VK} (q : tg σ H fun out H2 => ∀ p, H2 p = none → Q (.ref p) (upd H2 p (.lst out))) : tListG tg σ H Q := q
theorem x_methG {C : Addr} {m : Str} {sp : SpG} {dvs : List V} {E : XK} {ta : TE} {t : TA} {σ : L2.St} {H : Hp} {cont : List V → Hp → Prop} (q : ta σ H fun x H1 => ∃ a dx fs, x = .ref a ∧ H1 a = some (.ins C dx fs) ∧ fs.lookup m = none ∧ t σ H1 fun vs H2 => sp (x :: (vs ++ dvs)) H2 cont E) : tMethG C m sp dvs E ta t σ H cont := q
theorem sumR_snoc {ws : List Run} {r : Run} : sumR (ws ++ [r]) = sumR ws + (r.2 - r.1) := by unfold sumR; rw [List.map_append, List.sum_append]; simp
theorem sumR_le {lo : Int} {n : Nat} {ws : List Run} (N : Nrm ws) (b : ∀ r ∈ ws, lo ≤ r.1 ∧ r.2 ≤ lo + n) : 0 ≤ sumR ws ∧ sumR ws ≤ n := by
  rw [sumR_cnt (f := fun o => ws.any fun r => decide (r.1 ≤ o ∧ o < r.2)) N b fun o => by simp [Mem, List.any_eq_true]]
  exact cnt_le _ _ _
theorem Nrm.take {ws : List Run} (N : Nrm ws) (i : Nat) : Nrm (ws.take i) := ⟨fun r h => N.1 r (List.mem_of_mem_take h), N.2.sublist (List.take_sublist i ws)⟩
theorem stop_le (B : Ib) : B.stop ≤ B.edge := by unfold Ib.stop; split <;> omega
theorem InAt.dict {C Cs p d e : Addr} {F : List Addr} {m m' : Nat} {B : Ib} {H H' : Hp} {kvs : List (Key × V)} {st : Int → Option Int} (I : InAt C Cs p d e F m B H) (s : SameX d H H') (h : H' d = some (.dK kvs)) (t : Tells kvs st) (l : kvs.length ≤ m') : InAt C Cs p d e F m' { B with st := st } H' := by
  obtain ⟨dx, hp⟩ := I.oo
  obtain ⟨kv, hd, _⟩ := I.dd
  have pd : p ≠ d := fun z => by rw [z, hd] at hp; cases hp
  exact ⟨⟨dx, s _ _ pd hp⟩, ⟨kvs, h, t, l⟩, I.ee.ch (Ch.ofX (a := d) (G := [d]) (by simp) s h) (fun b hb => by rw [List.mem_singleton.mp hb]; exact I.ff.2), I.pe, I.li, I.ff⟩
def sp_Inbox_take (K : PySem.W.Frag) (C Cs Ce : Addr) : Sp := fun vs H Q E => ∃ (p d e : Addr) (F : List Addr) (m : Nat) (B : Ib) (ov x : V), vs = [.ref p, ov, x] ∧ InAt C Cs p d e F m B H ∧ Al F H ∧ Good B ∧ m ≤ 5000 ∧ B.nx ≤ 2 ^ 60 ∧
  ((∃ off, ov = .int off ∧ 0 ≤ off ∧ DataSp K Ce x H E fun ns => ∀ B' r H', Took B B' off ns r → InAt C Cs p d e F (m + ns.length) B' H' → Ch [p, d, e] H H' → Q (.int r) H') ∨ (Less K H ov 0 ∧ Err Ce "number" ov H E))
theorem ok_Inbox_take (T : Txt K mg) : FnOk P w K mg base (L2.CX P w) 8 T.a_Inbox_take T.fd_Inbox_take ["self", "offset", "data"] (sp_Inbox_take K T.c_Inbox T.c_Spans T.c_InvalidNumber) := by
  have S := sc_Inbox_take
  refine T.F_Inbox_take.okX S (fun vs H Q E h => ?_) (fun cdv A outer s H vs Q E hr h => ?_)
  · obtain ⟨p, d, e, F, m, B, ov, x, rfl, _⟩ := h
    rfl
  · obtain ⟨p, d, e, F, m, B, ov, x, rfl, I, A, g, hm, hn, h⟩ := h
    refine ⟨_, (pss_cons (ps_if (pt_not (pt_val (pe_call (ok_is_at_least T) (hr.mono (by decide)) rfl T.g_is_at_least T.F_is_at_least.kp T.B_is_at_least .nil pass0 (pa_cons (pv 1) (pa_cons pe_int pa_nil))))) (pss_one (ps_raise rfl (takes_of rfl rfl rfl rfl) (pmk_oex T.X_InvalidNumber.o T.X_InvalidNumber.i T.X_InvalidNumber.t (ok_InvalidNumber_init_ T) (hr.mono (by decide)) T.B_InvalidNumber_init_ .nil pass0 rfl T.X_InvalidNumber.g (pa_cons (pv 1) pa_nil)))) pss_nil)
      (pss_cons (ps_expr (pe_call (ok_require_data T) (hr.mono (by decide)) rfl T.g_require_data T.F_require_data.kp T.B_require_data .nil (passes_call (takes_of rfl rfl rfl rfl) (fun _ _ _ _ h => h)) (pa_cons (pv 2) pa_nil)))
      (pss_cons (ps_set (i := 3) S.nd rfl (Or.inl rfl) (pe_callB (id := "max") (call_max2K rfl) (by rfl) T.b_max (by decide +kernel) (pa_cons (pv 1) (pa_cons (pe_fld (pv 0) rfl) pa_nil))))
      (pss_cons (ps_set (i := 4) S.nd rfl (Or.inl rfl) (pe_callB (id := "min") (call_min2K rfl) (by rfl) T.b_min (by decide +kernel) (pa_cons (pe_op op_add (pv 1) (pe_callB (id := "len") (call_lenK (K := K) rfl) (by rfl) T.b_len (by decide +kernel) (pa_cons (pv 2) pa_nil))) (pa_cons (pe_meth0 (pv 0) T.cl_Inbox T.m_Inbox_stop (ok_Inbox_stop T) (hr.mono (by decide)) T.B_Inbox_stop .nil pass0) pa_nil))))
      (pss_cons (ps_set (i := 5) S.nd rfl (Or.inl rfl) (pe_listG (E := fun _ _ _ => False) (pgen_meth (pe_fld (pv 0) rfl) T.cl_Spans T.m_Spans_gaps (ok_Spans_gaps T) (hr.mono (by decide)) T.B_Spans_gaps .nil (pa_cons (pv 3) (pa_cons (pv 4) pa_nil))) (passes_call (takes_of rfl rfl rfl rfl) (fun _ _ _ _ h => False.elim h)) (fun _ _ _ h => False.elim h) (hr.mono (by decide)) rfl T.b_list (by decide +kernel)))
      (pss_cons (ps_for (passes_of rfl) rfl (pi_list (pv 5)) (pg_tup rfl (pgs_cons (pg_name (i := 6) S.nd rfl (Or.inl rfl)) (pgs_cons (pg_name (i := 7) S.nd rfl (Or.inl rfl)) pgs_nil))) (pss_cons (ps_for (passes_of rfl) rfl (pi_range2 (by rfl) T.b_range (pa_cons (pv 6) (pa_cons (pv 7) pa_nil))) (pg_name (i := 8) S.nd rfl (Or.inl rfl)) (pss_one (ps_dput (room_u1 hr) (pe_fld (pv 0) rfl) (pv 8) (pe_ix ix_seq (pv 2) (pe_op op_sub (pv 8) (pv 1)) (fun _ _ => rfl)) rfl)))
      (pss_one (ps_expr (pe_meth (pe_fld (pv 0) rfl) T.cl_Spans T.m_Spans_put (ok_Spans_put T) (hr.mono (by decide)) T.B_Spans_put .nil (passes_call (takes_of rfl rfl rfl rfl) (fun _ _ _ _ h => h)) (pa_cons (pv 6) (pa_cons (pv 7) pa_nil)))))))
      (C8.pss_cut (ps_if (pt_truth (pv 5) (fun _ => rfl)) (pss_one (ps_fld (pv 0) (pe_ix ix_tup (pe_ix ix_list (pv 5) pe_int (fun _ _ => rfl)) pe_int (fun _ _ => rfl)) rfl)) pss_nil)
      (pss_cons (ps_expr (pe_meth0 (pv 0) T.cl_Inbox T.m_Inbox_move_on (ok_Inbox_move_on T) (hr.mono (by decide)) T.B_Inbox_move_on .nil pass0))
      (pss_one (ps_ret (pe_callB (id := "sum") (cr_sum rfl) (by rfl) T.b_sum (by decide +kernel) (pa_cons (pe_lc (own := [("low", 6), ("high", 7)]) (g := gTup K 2 (gCons (gName 6) (gCons (gName 7) gNil))) (tt := tYes) rfl S.nd (pi_list (pv 5)) (blkOk_by (N := ["self", "offset", "data", "least", "end", "wanted", "low", "high", "at"]) (sc := defScope s_Inbox_take) (by decide +kernel)) (fun _ _ _ _ _ => pg_tup rfl (pgs_cons (pg_name (i := 6) S.nd rfl (Or.inl rfl)) (pgs_cons (pg_name (i := 7) S.nd rfl (Or.inl rfl)) pgs_nil))) (fun _ _ _ _ _ => pts_nil) (fun _ _ _ _ _ => (pe_op op_sub (pv 7) (pv 6)))) pa_nil)))))))))))), ?_⟩
    refine st_Inbox_take ?_
    o_args
    rcases h with ⟨off, rfl, o0, h⟩ | ⟨hl, hE⟩
    · refine ⟨_, _, rfl, .inl ⟨off, rfl, o0, ?_⟩⟩
      o_args
      refine ⟨_, rfl, ?_⟩
      rcases h with ⟨a, ns, rfl, hA, hb, hz, k⟩ | ⟨hk, hE⟩ | ⟨a, ns, y, zs, rfl, hA, hb, ho, hE⟩
      · refine .inl ⟨a, ns, rfl, hA, hb, hz, fun H1 s1 => ?_⟩
        have I1 := I.same s1
        have A1 := A.same s1
        have hA1 := hA.sm s1
        obtain ⟨dx, hp⟩ := I1.oo
        obtain ⟨kvs, hd, ht, hk⟩ := I1.dd
        obtain ⟨dxe, le, tse, he, _⟩ := id I1.ee
        have ahl : B.ah.length ≤ m := Nat.le_trans (runs_le ht I.ee.offs.nrm fun o c => ((g.ha o).mp c).1) hk
        o_args
        refine fget hp T.cl_Inbox T.n_Inbox_next_offset rfl ?_
        o_args
        refine lenA hA1 ?_
        o_args
        refine ⟨p, dx, _, rfl, hp, rfl, ?_⟩
        o_args
        refine ⟨p, d, e, F, m, B, rfl, I1, ?_⟩
        o_args
        refine x_listG ?_
        refine x_methG ?_
        o_args
        refine fget hp T.cl_Inbox T.n_Inbox__ahead rfl ?_
        refine ⟨e, dxe, _, rfl, he, rfl, ?_⟩
        o_args
        refine ⟨e, F, B.ah, _, _, rfl, I1.ee, by omega, fun ts ws H2 nt s2 T2 zo N bd mem => ?_⟩
        intro l nl
        have s3 := Same.new (o := .lst (ts.map V.ref)) nl
        have r3 : RunsL l ts ws (upd H2 l (.lst (ts.map V.ref))) := ⟨upd_same, T2.same s3⟩
        generalize upd H2 l (.lst (ts.map V.ref)) = H3 at s3 r3
        have S3 := s2.trans s3
        have I3 := I1.same S3
        have hA3 := hA1.sm S3
        have old : ∀ {b}, H1 b = none → b ∉ [p, d, e] := fun nb z => by
          simp only [List.mem_cons, List.not_mem_nil, or_false] at z
          rcases z with z | z | z
          · rw [z, hp] at nb; cases nb
          · rw [z, hd] at nb; cases nb
          · rw [z, he] at nb; cases nb
        have lo : l ∉ [p, d, e] := old (none_of s2 nl)
        have to : ∀ t ∈ ts, t ∉ [p, d, e] := fun t ht => old (nt t ht)
        have sl := stop_le B
        have hL := I.li
        have g1 := g.r1
        have g2 := g.rn
        unfold Ib.edge at sl
        have Bd : ∀ r ∈ ws, off ≤ r.1 ∧ r.2 ≤ off + (ns.length : Nat) ∧ B.nx ≤ r.1 ∧ r.2 ≤ B.nx + 65535 ∧ r.1 < r.2 := fun r hr => by
          have := bd r hr
          have := N.1 r hr
          simp only [List.length_map] at *
          omega
        have sz : ∀ i, 0 ≤ sumR (ws.take i) ∧ sumR (ws.take i) ≤ (ns.length : Nat) := fun i => sumR_le (N.take i) fun r hr => ⟨(Bd r (List.mem_of_mem_take hr)).1, (Bd r (List.mem_of_mem_take hr)).2.1⟩
        o_args
        refine overL (SqL.of r3.1) (for_list (K := K) (a := l) (xs := ts.map V.ref) (fun i σ H' => ∃ a' b' c' ah st mi, σ = [some (.ref p), some (.int off), some (.ref a), some (.int (max off B.nx)), some (.int (min (off + ↑(ns.map V.int).length) B.stop)), some (.ref l), a', b', c'] ∧ Ch [p, d, e] H3 H' ∧ InAt T.c_Inbox T.c_Spans p d e F mi { B with st := st, ah := ah } H' ∧ (mi : Int) = m + sumR (ws.take i) ∧ ah.length ≤ B.ah.length + i ∧ (∀ o, Mem o ah ↔ Mem o B.ah ∨ Mem o (ws.take i)) ∧ (∀ o, Mem o (ws.take i) → st o = ns[(o - off).toNat]?) ∧ (∀ o, ¬ Mem o (ws.take i) → st o = B.st o)) ⟨none, none, none, B.ah, B.st, m, rfl, Ch.refl, I3, by rw [List.take_zero]; show (m : Int) = m + 0; omega, Nat.le_refl _, fun o => by rw [List.take_zero]; exact ⟨.inl, fun z => z.resolve_right Mem.nil⟩, fun o z => absurd z (by rw [List.take_zero]; exact Mem.nil), fun o _ => rfl⟩ (fun i σ H' _ ⟨_, _, _, _, _, _, _, c, _⟩ => SqL.of (c.at lo r3.1)) ?_ ?_)
        · rintro i v σ Hi hv ⟨a', b', c', ah, st, mi, rfl, ci, Ii, em, za, ma, t1, t0⟩
          have il := getq_lt hv
          rw [List.length_map, r3.len] at il
          obtain ⟨t, _, e2, ht3⟩ := (r3.ch ci lo to).at (List.getElem?_eq_getElem il)
          rw [e2] at hv
          cases hv
          have tk : ws.take (i + 1) = ws.take i ++ [ws[i]] := by rw [List.take_succ, List.getElem?_eq_getElem il]; rfl
          have B1 := Bd _ (List.getElem_mem il)
          have apart : ∀ o, Mem o (ws.take i) → ¬ (ws[i].1 ≤ o ∧ o < ws[i].2) := fun o ⟨q, hq, c⟩ z => by
            have := N.take (i + 1)
            rw [tk] at this
            have := (Nrm.snoc.mp this).2.2 q hq
            omega
          have sz1 := sz (i + 1)
          rw [tk, sumR_snoc] at sz1
          have sz0 := sz i
          generalize ws[i] = r at tk ht3 B1 apart sz1
          refine two_to ht3 ?_
          o_args
          refine ⟨r.1, r.2, rfl, ⟨by omega, by omega, by omega, by omega⟩, for_range (lo := r.1) (n := (r.2 - r.1).toNat) (fun j σ H' => ∃ c'' st', σ = [some (.ref p), some (.int off), some (.ref a), some (.int (max off B.nx)), some (.int (min (off + ↑(ns.map V.int).length) B.stop)), some (.ref l), some (.int r.1), some (.int r.2), c''] ∧ Ch [p, d, e] H3 H' ∧ InAt T.c_Inbox T.c_Spans p d e F (mi + j) { B with st := st', ah := ah } H' ∧ (∀ o, r.1 ≤ o → o < r.1 + j → st' o = ns[(o - off).toNat]?) ∧ (∀ o, ¬ (r.1 ≤ o ∧ o < r.1 + j) → st' o = st o)) ⟨c', st, rfl, ci, Ii, fun o _ _ => by omega, fun o _ => rfl⟩ ?_ ?_⟩
          · rintro j σ Hj jl ⟨c'', st', rfl, cj, Ij, u1, u0⟩
            have hAj := hA3.chs cj I3
            obtain ⟨dxj, hpj⟩ := Ij.oo
            obtain ⟨kj, hdj, htj, hkj⟩ := Ij.dd
            have jn : (r.1 + j - off).toNat < ns.length := by omega
            o_args
            refine ix_seqA (v := .int ns[(r.1 + j - off).toNat]) hAj (by
              have z := atI_nat (xs := ns.map V.int) (j := (r.1 + j - off).toNat) (v := .int ns[(r.1 + j - off).toNat]) (by rw [List.getElem?_map, List.getElem?_eq_getElem jn]; rfl)
              rwa [Int.toNat_of_nonneg (by omega)] at z) ?_
            o_args
            refine fget hpj T.cl_Inbox T.n_Inbox__stored rfl ?_
            o_args
            refine dputI hdj (by omega) fun Hk sk hk' => ?_
            o_args
            have hkl := length_putK kj (.inl (r.1 + j)) (.int ns[(r.1 + j - off).toNat])
            refine ⟨_, _, rfl, cj.trans (Ch.ofX (by simp) sk hk'), (Ij.dict sk hk' htj.put (m' := mi + (j + 1)) (by omega)), fun o q1 q2 => ?_, fun o q => ?_⟩
            · by_cases c : o = r.1 + j
              · rw [if_pos c, c, List.getElem?_eq_getElem jn]
              · rw [if_neg c]
                exact u1 o q1 (by omega)
            · rw [if_neg (by omega)]
              exact u0 o (by omega)
          · rintro σ Hj ⟨c'', st', rfl, cj, Ij, u1, u0⟩
            obtain ⟨dxj, hpj⟩ := Ij.oo
            obtain ⟨kj, hdj, htj, hkj⟩ := Ij.dd
            obtain ⟨dxe', _, _, hej, _⟩ := id Ij.ee
            have ahj := Ij.ee.offs
            o_args
            refine fget hpj T.cl_Inbox T.n_Inbox__ahead rfl ?_
            o_args
            refine ⟨e, dxe', _, rfl, hej, rfl, ?_⟩
            o_args
            refine ⟨e, F, ah, _, _, rfl, Ij.ee, by omega, .inl ⟨r.1, r.2, rfl, rfl, by omega, by omega, fun H4 rs' c4 hS z4 m4 => ?_⟩⟩
            have ef : e ∉ F := I.ee.out
            have pe : p ∉ [e] := fun z => I.pe (List.mem_singleton.mp z)
            have de : d ∉ [e] := fun z => ef (by rw [← List.mem_singleton.mp z]; exact I.ff.2)
            have Aj : Al F Hj := (A1.same S3).ch cj
            o_args
            refine ⟨_, _, _, rs', st', mi + (r.2 - r.1).toNat, rfl, cj.trans (c4.more (by simp)), ⟨⟨dxj, c4.at pe hpj⟩, ⟨kj, c4.at de hdj, htj, hkj⟩, hS F Aj ef, I.pe, I.li, I.ff⟩, by rw [tk, sumR_snoc]; omega, by omega, fun o => ?_, fun o q => ?_, fun o q => ?_⟩
            · rw [m4 o, ma o, tk, Mem.app, Mem.one, or_assoc]
            · rw [tk, Mem.app, Mem.one] at q
              by_cases c : r.1 ≤ o ∧ o < r.2
              · exact u1 o c.1 (by omega)
              · rw [u0 o (by omega)]
                exact t1 o (q.resolve_right c)
            · rw [tk, Mem.app, Mem.one] at q
              rw [u0 o (by omega)]
              exact t0 o fun z => q (.inl z)
        · rintro σ Hi ⟨a', b', c', ah, st, mi, rfl, ci, Ii, em, za, ma, t1, t0⟩
          rw [List.length_map, r3.len, List.take_length] at em ma t1 t0
          rw [List.length_map, r3.len] at za
          have sz1 := sz ws.length
          rw [List.take_length] at sz1
          have ne : ∀ o, Mem o ws ↔ B.neu off ns.length o := fun o => by
            rw [mem o]
            unfold Ib.neu
            rw [List.length_map]
          have ri := r3.ch ci lo to
          o_args
          refine ⟨fun σ H' => ∃ la, σ = [some (.ref p), some (.int off), some (.ref a), some (.int (max off B.nx)), some (.int (min (off + ↑(ns.map V.int).length) B.stop)), some (.ref l), a', b', c'] ∧ Ch [p, d, e] H3 H' ∧ InAt T.c_Inbox T.c_Spans p d e F mi { B with st := st, ah := ah, la := la } H' ∧ ((ws = [] ∧ la = B.la) ∨ ∃ w ws', ws = w :: ws' ∧ la = w.1), ?_, ?_⟩
          · o_args
            refine ⟨_, truL ri.1, ?_⟩
            cases ws with
            | nil =>
              have e0 : ts = [] := List.eq_nil_of_length_eq_zero r3.len
              subst e0
              o_args
              refine brT rfl ?_
              o_args
              exact ⟨_, rfl, ci, Ii, .inl ⟨rfl, rfl⟩⟩
            | cons w ws' =>
              obtain ⟨t, e1, e2, ht⟩ := ri.at (i := 0) rfl
              have e0 : ∃ tr, ts = t :: tr := by
                cases ts with
                | nil => cases e1
                | cons x y => cases e1; exact ⟨_, rfl⟩
              obtain ⟨tr, rfl⟩ := e0
              obtain ⟨dxi, hpi⟩ := Ii.oo
              obtain ⟨ki, hdi, hti, hki⟩ := Ii.dd
              o_args
              refine brF rfl ?_
              o_args
              refine ixL (i := 0) ri.1 rfl ?_
              o_args
              refine fstore (P := fun H' => ∃ la, [some (.ref p), some (.int off), some (.ref a), some (.int (max off B.nx)), some (.int (min (off + ↑(ns.map V.int).length) B.stop)), some (.ref l), a', b', c'] = [some (.ref p), some (.int off), some (.ref a), some (.int (max off B.nx)), some (.int (min (off + ↑(ns.map V.int).length) B.stop)), some (.ref l), a', b', c'] ∧ Ch [p, d, e] H3 H' ∧ InAt T.c_Inbox T.c_Spans p d e F mi { B with st := st, ah := ah, la := la } H' ∧ ((w :: ws' = [] ∧ la = B.la) ∨ ∃ w1 ws1, w :: ws' = w1 :: ws1 ∧ la = w1.1)) hpi T.cl_Inbox T.n_Inbox__latest (Nat.le_of_ble_eq_true rfl) rfl fun Hk sk hk' => ?_
              have ck : Ch [p] Hi Hk := Ch.ofX (by simp) sk hk'
              have dp : d ∉ [p] := fun z => by
                rw [← List.mem_singleton.mp z, hdi] at hpi; cases hpi
              exact ⟨w.1, rfl, ci.trans (ck.more (by simp)), ⟨⟨dxi, hk'⟩, ⟨ki, ck.at dp hdi, hti, hki⟩, Ii.ee.ch ck (fun b hb => by rw [List.mem_singleton.mp hb]; exact I.ff.1), I.pe, I.li, I.ff⟩, .inr ⟨w, ws', rfl, rfl⟩⟩
          · rintro σ H4 ⟨la, rfl, c4, I4, hla⟩
            obtain ⟨dx4, hp4⟩ := I4.oo
            have A4 : Al F H4 := (A1.same S3).ch c4
            have geN : ∀ o, Mem o ah → B.nx ≤ o := fun o z => by
              rcases (ma o).mp z with c | c
              · exact ((g.ha o).mp c).2
              · obtain ⟨q, hq, c⟩ := c
                have := Bd q hq
                omega
            o_args
            refine ⟨p, dx4, _, rfl, hp4, rfl, ?_⟩
            o_args
            refine ⟨p, d, e, F, mi, _, rfl, I4, A4, (show ah.length < 20000 by omega), geN, (show (0 : Int) ≤ B.nx by omega), fun nx' ah' H5 m0 m1 m2 m3 I5 c5 => ?_⟩
            have r5 := (r3.ch c4 lo to).ch c5 lo to
            o_args
            refine lcG2 (a := l) (xs := ts.map V.ref) (fun D i vs H' => SameX D H5 H' ∧ vs = ((ws.take i).map fun r => r.2 - r.1).map V.int) (fun x y => rfl) (fun R h => ⟨_, rfl, h⟩) (SqL.of r5.1) (by rw [List.length_map, r5.len]; omega) (fun D _ => ⟨SameX.upd, by simp⟩) (fun D i vs H' hD hP => SqL.of (hP.1 _ _ (ne_of_none r5.1 hD) r5.1)) (fun D i v vs H' hD hv hle h1 hP => ?_) (fun D vs H' hD h1 hle hP => ?_)
            · obtain ⟨s, e1⟩ := hP
              have il := getq_lt hv
              rw [List.length_map, r5.len] at il
              obtain ⟨t, _, e2, ht⟩ := r5.at (List.getElem?_eq_getElem il)
              rw [e2] at hv
              cases hv
              have tk : ws.take (i + 1) = ws.take i ++ [ws[i]] := by rw [List.take_succ, List.getElem?_eq_getElem il]; rfl
              generalize ws[i] = r at tk ht
              refine ⟨t, _, _, rfl, s _ _ (ne_of_none ht hD) ht, fun Y N hY hN => ?_⟩
              dsimp only [tYes]
              rw [if_pos rfl]
              o_args
              exact hY _ H' h1 ⟨s.upd', by rw [e1, tk]; simp⟩
            · obtain ⟨s, e1⟩ := hP
              rw [List.length_map, r5.len, List.take_length] at e1
              subst e1
              have s6 := Same.ofX hD s
              refine ⟨D, _, rfl, SqL.of h1, ?_⟩
              o_args
              refine k { B with st := st, nx := nx', ah := ah', la := la } _ _ ⟨rfl, rfl, rfl, rfl, fun o z => t1 o ((ne o).mpr z), fun o z => t0 o fun y => z ((ne o).mp y), m0, fun o q1 q2 => ?_, fun z => m2 ?_, fun o => ?_, ?_, fun f hf => sumR_cnt N (fun r hr => ⟨(Bd r hr).1, (Bd r hr).2.1⟩) fun o => (hf o).trans (ne o).symm⟩ ((I5.same s6).more (by omega)) ((((Ch.of s1).trans (Ch.of S3)).trans (c4.trans c5)).trans (Ch.of s6))
              · exact ((ma o).mp (m1 o q1 q2)).imp id (ne o).mp
              · exact (ma _).mpr (z.imp id (ne _).mpr)
              · rw [m3 o]
                show Mem o ah ∧ _ ↔ _
                rw [ma o, ne o]
              · rcases hla with ⟨rfl, rfl⟩ | ⟨w, ws', rfl, rfl⟩
                · exact .inl ⟨fun o z => Mem.nil ((ne o).mpr z), rfl⟩
                · obtain ⟨n1, n2, _⟩ := Nrm.cons.mp N
                  refine .inr ⟨(ne _).mp ⟨w, List.mem_cons_self, Int.le_refl _, n1⟩, fun o z => ?_⟩
                  rcases Mem.cons.mp ((ne o).mpr z) with c | ⟨q, hq, c⟩
                  · exact c.1
                  · have := n2 q hq
                    show w.1 ≤ o
                    omega
      · refine .inr (.inl ⟨hk, ?_⟩)
        exact hE
      · refine .inr (.inr ⟨a, ns, y, zs, rfl, hA, hb, ho, ?_⟩)
        exact hE
    · refine ⟨_, _, rfl, .inr ⟨hl, ?_⟩⟩
      o_args
      refine x_mkO ?_
      o_args
      exact mkO_of T.X_InvalidNumber.o T.nX_InvalidNumber fun d H2 nd ss hx => hE d H2 ss hx
/-! ### more of the inbox -/
def Ib.fed (B : Ib) : Bool := decide (B.fin = some B.nx)
def sp_Inbox_ended (C Cs : Addr) : Sp := fun vs H Q _ => ∃ (p d e : Addr) (F : List Addr) (m : Nat) (B : Ib), vs = [.ref p] ∧ InAt C Cs p d e F m B H ∧ Q (.bl B.fed) H
theorem ok_Inbox_ended (T : Txt K mg) : FnOk P w K mg base CX0 1 T.a_Inbox_ended T.fd_Inbox_ended ["self"] (sp_Inbox_ended T.c_Inbox T.c_Spans) := by
  have S := sc_Inbox_ended
  refine T.F_Inbox_ended.ok S (fun vs H Q E h => ?_) (fun cdv A outer s H vs Q E hr h => ?_)
  · obtain ⟨p, d, e, F, m, B, rfl, _⟩ := h
    rfl
  · obtain ⟨p, d, e, F, m, B, rfl, I, k⟩ := h
    obtain ⟨dx, hp⟩ := I.oo
    unfold Ib.fed at k
    refine ⟨_, (pss_one (ps_ret (pe_and (pe_cmpR op_notN (pe_fld (pv 0) rfl) pe_non (nomark _)) (pe_one (pe_cmpR op_eq (pe_fld (pv 0) rfl) (pe_fld (pv 0) rfl) (nomark _)))))), ?_⟩
    refine st_Inbox_ended ?_
    o_args
    refine fget hp T.cl_Inbox T.n_Inbox_final rfl ?_
    o_args
    cases hf : B.fin with
    | none =>
      rw [hf] at k
      refine brT (by rfl) ?_
      exact k
    | some n =>
      rw [hf] at k
      refine brF (by rfl) ?_
      o_args
      refine fget hp T.cl_Inbox T.n_Inbox_final rfl ?_
      rw [hf]
      dsimp only [finV]
      o_args
      refine fget hp T.cl_Inbox T.n_Inbox_next_offset rfl ?_
      o_args
      rw [show decide (some n = some B.nx) = decide (n = B.nx) by simp] at k
      exact k
def Ib.exp (B : Ib) : Int := if B.fed = true then B.nx + 1 else B.nx
def sp_Inbox_expected (C Cs : Addr) : Sp := fun vs H Q _ => ∃ (p d e : Addr) (F : List Addr) (m : Nat) (B : Ib), vs = [.ref p] ∧ InAt C Cs p d e F m B H ∧ Q (.int B.exp) H
theorem ok_Inbox_expected (T : Txt K mg) : FnOk P w K mg base CX0 3 T.a_Inbox_expected T.fd_Inbox_expected ["self"] (sp_Inbox_expected T.c_Inbox T.c_Spans) := by
  have S := sc_Inbox_expected
  refine T.F_Inbox_expected.ok S (fun vs H Q E h => ?_) (fun cdv A outer s H vs Q E hr h => ?_)
  · obtain ⟨p, d, e, F, m, B, rfl, _⟩ := h
    rfl
  · obtain ⟨p, d, e, F, m, B, rfl, I, k⟩ := h
    obtain ⟨dx, hp⟩ := I.oo
    unfold Ib.exp at k
    refine ⟨_, (pss_one (ps_ret (pe_ifExp (pt_val (pe_prop (pv 0) T.cl_Inbox T.PR_Inbox_ended (ok_Inbox_ended T) (hr.mono (by decide)) T.B_Inbox_ended .nil pass0 rfl)) (pe_op op_add (pe_fld (pv 0) rfl) pe_int) (pe_fld (pv 0) rfl)))), ?_⟩
    refine st_Inbox_expected ?_
    o_args
    refine ⟨p, dx, _, rfl, hp, p, d, e, F, m, B, rfl, I, ?_⟩
    refine ⟨_, rfl, ?_⟩
    cases hb : B.fed with
    | true =>
      rw [hb, if_pos rfl] at k
      rw [if_pos rfl]
      o_args
      refine fget hp T.cl_Inbox T.n_Inbox_next_offset rfl ?_
      o_args
      exact k
    | false =>
      rw [hb, if_neg (by simp)] at k
      rw [if_neg (by simp)]
      o_args
      refine fget hp T.cl_Inbox T.n_Inbox_next_offset rfl ?_
      exact k
def sp_Inbox_urgent_count (C Cs : Addr) : Sp := fun vs H Q _ => ∃ (p d e : Addr) (F : List Addr) (m : Nat) (B : Ib), vs = [.ref p] ∧ InAt C Cs p d e F m B H ∧ Q (.int (max 0 (B.urg - B.rd))) H
theorem ok_Inbox_urgent_count (T : Txt K mg) : FnOk P w K mg base CX0 1 T.a_Inbox_urgent_count T.fd_Inbox_urgent_count ["self"] (sp_Inbox_urgent_count T.c_Inbox T.c_Spans) := by
  have S := sc_Inbox_urgent_count
  refine T.F_Inbox_urgent_count.ok S (fun vs H Q E h => ?_) (fun cdv A outer s H vs Q E hr h => ?_)
  · obtain ⟨p, d, e, F, m, B, rfl, _⟩ := h
    rfl
  · obtain ⟨p, d, e, F, m, B, rfl, I, k⟩ := h
    obtain ⟨dx, hp⟩ := I.oo
    refine ⟨_, (pss_one (ps_ret (pe_callB (id := "max") (call_max2K rfl) (by rfl) T.b_max (by decide +kernel) (pa_cons pe_int (pa_cons (pe_op op_sub (pe_fld (pv 0) rfl) (pe_fld (pv 0) rfl)) pa_nil))))), ?_⟩
    refine st_Inbox_urgent_count ?_
    o_args
    refine fget hp T.cl_Inbox T.n_Inbox_urgent_end rfl ?_
    o_args
    refine fget hp T.cl_Inbox T.n_Inbox_read_offset rfl ?_
    o_args
    exact k
def sp_Inbox_resize (K : PySem.W.Frag) (C Cs Ce : Addr) : Sp := fun vs H Q E => ∃ (p d e : Addr) (F : List Addr) (m : Nat) (B : Ib) (x : V), vs = [.ref p, x] ∧ InAt C Cs p d e F m B H ∧
  ((∃ n, x = .int n ∧ 1 ≤ n ∧ n ≤ 65535 ∧ ∀ H', Ch [p] H H' → InAt C Cs p d e F m { B with lim := n } H' → Q .non H') ∨ (Out K H x 1 65535 ∧ Err Ce "setting" (.str "limit") H E))
theorem ok_Inbox_resize (T : Txt K mg) : FnOk P w K mg base (L2.CX P w) 7 T.a_Inbox_resize T.fd_Inbox_resize ["self", "limit"] (sp_Inbox_resize K T.c_Inbox T.c_Spans T.c_InvalidSetting) := by
  have S := sc_Inbox_resize
  refine T.F_Inbox_resize.okX S (fun vs H Q E h => ?_) (fun cdv A outer s H vs Q E hr h => ?_)
  · obtain ⟨p, d, e, F, m, B, x, rfl, _⟩ := h
    rfl
  · obtain ⟨p, d, e, F, m, B, x, rfl, I, h⟩ := h
    obtain ⟨dx, hp⟩ := I.oo
    obtain ⟨kvs, hd, ht, hk⟩ := I.dd
    refine ⟨_, (pss_one (ps_setp (pv 0) (pv 1) T.cl_Inbox T.SE_Inbox_limit_set (ok_Inbox_limit_set T) (hr.mono (by decide)) T.B_Inbox_limit_set (passes_call (takes_of rfl rfl rfl rfl) (fun _ _ _ _ h => h)) rfl)), ?_⟩
    refine st_Inbox_resize ?_
    o_args
    refine ⟨p, dx, _, rfl, hp, ?_⟩
    refine ⟨p, dx, _, x, rfl, hp, Nat.le_of_ble_eq_true rfl, ?_⟩
    rcases h with ⟨n, rfl, h0, h1, k⟩ | ⟨ho, hE⟩
    · refine .inl ⟨n, rfl, h0, h1, fun H1 s1 h1 => ?_⟩
      o_args
      have c1 : Ch [p] H H1 := Ch.ofX (by simp) s1 h1
      have dp : d ∉ [p] := fun z => by
        rw [← List.mem_singleton.mp z, hd] at hp; cases hp
      exact k H1 c1 ⟨⟨dx, h1⟩, ⟨kvs, c1.at dp hd, ht, hk⟩, I.ee.ch c1 (fun b hb => by rw [List.mem_singleton.mp hb]; exact I.ff.1), I.pe, ⟨by assumption, by assumption⟩, I.ff⟩
    · exact .inr ⟨ho, hE⟩
/-- the least offset at which the stream may end -/
def Ib.least (B : Ib) : Int := match B.ah.getLast? with
  | none => B.nx
  | some r => r.2
def sp_Inbox_finish (K : PySem.W.Frag) (C Cs Ce : Addr) : Sp := fun vs H Q E => ∃ (p d e : Addr) (F : List Addr) (m : Nat) (B : Ib) (x : V), vs = [.ref p, x] ∧ InAt C Cs p d e F m B H ∧
  ((B.fin ≠ none ∧ Q .non H) ∨ (B.fin = none ∧ ((∃ o, x = .int o ∧ B.least ≤ o ∧ ∀ H', Ch [p] H H' → InAt C Cs p d e F m { B with fin := some o } H' → Q .non H') ∨ (Less K H x B.least ∧ Err Ce "number" x H E))))
theorem ok_Inbox_finish (T : Txt K mg) : FnOk P w K mg base (L2.CX P w) 5 T.a_Inbox_finish T.fd_Inbox_finish ["self", "offset"] (sp_Inbox_finish K T.c_Inbox T.c_Spans T.c_InvalidNumber) := by
  have S := sc_Inbox_finish
  refine T.F_Inbox_finish.okX S (fun vs H Q E h => ?_) (fun cdv A outer s H vs Q E hr h => ?_)
  · obtain ⟨p, d, e, F, m, B, x, rfl, _⟩ := h
    rfl
  · obtain ⟨p, d, e, F, m, B, x, rfl, I, h⟩ := h
    obtain ⟨dx, hp⟩ := I.oo
    obtain ⟨kvs, hd, ht, hk⟩ := I.dd
    obtain ⟨dxe, le, tse, he, _⟩ := id I.ee
    refine ⟨_, (pss_cons (ps_if (pt_cmpR op_notN (pe_fld (pv 0) rfl) pe_non (nomark _)) (pss_one ps_retN) pss_nil)
      (pss_cons (ps_set (i := 2) S.nd rfl (Or.inl rfl) (pe_meth (pe_fld (pv 0) rfl) T.cl_Spans T.m_Spans_highest (ok_Spans_highest T) (hr.mono (by decide)) T.B_Spans_highest .nil pass0 (pa_cons pe_int pa_nil)))
      (C8.pss_cut (ps_set (i := 3) S.nd rfl (Or.inl rfl) (pe_ifExp (pt_cmpR op_isN (pv 2) pe_non (nomark _)) (pe_fld (pv 0) rfl) (pe_op op_add (pv 2) pe_int)))
      (pss_cons (ps_if (pt_not (pt_val (pe_call (ok_is_at_least T) (hr.mono (by decide)) rfl T.g_is_at_least T.F_is_at_least.kp T.B_is_at_least .nil pass0 (pa_cons (pv 1) (pa_cons (pv 3) pa_nil))))) (pss_one (ps_raise rfl (takes_of rfl rfl rfl rfl) (pmk_oex T.X_InvalidNumber.o T.X_InvalidNumber.i T.X_InvalidNumber.t (ok_InvalidNumber_init_ T) (hr.mono (by decide)) T.B_InvalidNumber_init_ .nil pass0 rfl T.X_InvalidNumber.g (pa_cons (pv 1) pa_nil)))) pss_nil)
      (pss_one (ps_fld (pv 0) (pv 1) rfl)))))), ?_⟩
    refine st_Inbox_finish ?_
    o_args
    refine fget hp T.cl_Inbox T.n_Inbox_final rfl ?_
    o_args
    rcases h with ⟨hf, k⟩ | ⟨hf, h⟩
    · cases hv : B.fin with
      | none => exact absurd hv hf
      | some f =>
        refine brF (by rfl) ?_
        o_args
        exact k
    rw [hf]
    refine brT (by rfl) ?_
    o_args
    refine fget hp T.cl_Inbox T.n_Inbox__ahead rfl ?_
    o_args
    refine ⟨e, dxe, _, rfl, he, rfl, ?_⟩
    o_args
    refine ⟨e, F, B.ah, rfl, I.ee, ?_⟩
    o_args
    refine ⟨fun σ H' => σ = [some (.ref p), some x, some (hiV B.ah), some (.int B.least)] ∧ H' = H, ?_, ?_⟩
    · unfold hiV Ib.least
      o_args
      cases hl : B.ah.getLast? with
      | none =>
        refine brT (by rfl) ?_
        dsimp only
        o_args
        refine fget hp T.cl_Inbox T.n_Inbox_next_offset rfl ?_
        o_args
        exact ⟨rfl, rfl⟩
      | some r =>
        refine brF (by rfl) ?_
        dsimp only
        o_args
        refine ⟨?_, rfl⟩
        rw [Int.sub_add_cancel]
    · rintro σ H1 ⟨rfl, rfl⟩
      o_args
      rcases h with ⟨o, rfl, h0, k⟩ | ⟨hl, hE⟩
      · refine ⟨_, _, rfl, .inl ⟨o, rfl, h0, ?_⟩⟩
        o_args
        refine fstore hp T.cl_Inbox T.n_Inbox_final (Nat.le_of_ble_eq_true rfl) rfl fun H1 s1 h1 => ?_
        o_args
        have c1 : Ch [p] _ H1 := Ch.ofX (by simp) s1 h1
        have dp : d ∉ [p] := fun z => by
          rw [← List.mem_singleton.mp z, hd] at hp; cases hp
        exact k H1 c1 ⟨⟨dx, h1⟩, ⟨kvs, c1.at dp hd, ht, hk⟩, I.ee.ch c1 (fun b hb => by rw [List.mem_singleton.mp hb]; exact I.ff.1), I.pe, I.li, I.ff⟩
      · refine ⟨_, _, rfl, .inr ⟨hl, ?_⟩⟩
        o_args
        refine x_mkO ?_
        o_args
        exact mkO_of T.X_InvalidNumber.o T.nX_InvalidNumber fun d H2 nd ss hx => hE d H2 ss hx
def sp_Inbox_mark_urgent (C Cs : Addr) : Sp := fun vs H Q _ => ∃ (p d e : Addr) (F : List Addr) (m : Nat) (B : Ib) (o : Int), vs = [.ref p, .int o] ∧ InAt C Cs p d e F m B H ∧ ∀ H', Ch [p] H H' → InAt C Cs p d e F m { B with urg := max B.urg o } H' → Q .non H'
theorem ok_Inbox_mark_urgent (T : Txt K mg) : FnOk P w K mg base CX0 1 T.a_Inbox_mark_urgent T.fd_Inbox_mark_urgent ["self", "offset"] (sp_Inbox_mark_urgent T.c_Inbox T.c_Spans) := by
  have S := sc_Inbox_mark_urgent
  refine T.F_Inbox_mark_urgent.ok S (fun vs H Q E h => ?_) (fun cdv A outer s H vs Q E hr h => ?_)
  · obtain ⟨p, d, e, F, m, B, o, rfl, _⟩ := h
    rfl
  · obtain ⟨p, d, e, F, m, B, o, rfl, I, k⟩ := h
    obtain ⟨dx, hp⟩ := I.oo
    obtain ⟨kvs, hd, ht, hk⟩ := I.dd
    refine ⟨_, (pss_one (ps_fld (pv 0) (pe_callB (id := "max") (call_max2K rfl) (by rfl) T.b_max (by decide +kernel) (pa_cons (pe_fld (pv 0) rfl) (pa_cons (pv 1) pa_nil))) rfl)), ?_⟩
    refine st_Inbox_mark_urgent ?_
    o_args
    refine fget hp T.cl_Inbox T.n_Inbox_urgent_end rfl ?_
    o_args
    refine fstore hp T.cl_Inbox T.n_Inbox_urgent_end (Nat.le_of_ble_eq_true rfl) rfl fun H1 s1 h1 => ?_
    o_args
    have c1 : Ch [p] H H1 := Ch.ofX (by simp) s1 h1
    have dp : d ∉ [p] := fun z => by
      rw [← List.mem_singleton.mp z, hd] at hp; cases hp
    exact k H1 c1 ⟨⟨dx, h1⟩, ⟨kvs, c1.at dp hd, ht, hk⟩, I.ee.ch c1 (fun b hb => by rw [List.mem_singleton.mp hb]; exact I.ff.1), I.pe, I.li, I.ff⟩
/-! ### the inbox is read -/
def Ib.got (B : Ib) (k : Int) : List Int := (List.range k.toNat).map fun i : Nat => (B.st (B.rd + (i : Int))).getD 0
def Ib.read (B : Ib) (k : Int) : Ib := { B with rd := B.rd + k, st := fun o => if B.rd ≤ o ∧ o < B.rd + k then none else B.st o }
theorem Good.read {B : Ib} {k : Int} (g : Good B) (h0 : 0 ≤ k) (h1 : k ≤ B.nx - B.rd) : Good (B.read k) := by
  have g1 := g.r1
  have g2 := g.rn
  have hs : ∀ o, (B.read k).st o ≠ none ↔ B.st o ≠ none ∧ B.rd + k ≤ o := fun o => by
    show (if _ then _ else _) ≠ none ↔ _
    by_cases c : B.rd ≤ o ∧ o < B.rd + k
    · rw [if_pos c]
      exact ⟨fun z => absurd rfl z, fun z => by omega⟩
    · rw [if_neg c]
      exact ⟨fun z => ⟨z, by have := g.lo o z; omega⟩, fun z => z.1⟩
  refine ⟨by show 1 ≤ B.rd + k; omega, by show B.rd + k ≤ B.nx; omega, fun o => ?_, ?_, fun o z => ((hs o).mp z).2, fun o z1 z2 => (hs o).mpr ⟨g.fu o (by have : B.rd + k ≤ o := z1; omega) z2, z1⟩⟩
  · rw [hs o]
    show Mem o B.ah ↔ (_ ∧ _) ∧ B.nx ≤ o
    rw [g.ha o]
    exact ⟨fun z => ⟨⟨z.1, by omega⟩, z.2⟩, fun z => ⟨z.1.1, z.2⟩⟩
  · show (if _ then none else B.st B.nx) = none
    rw [g.nn, ite_self]
theorem x_dpop {td ty : TE} {σ : L2.St} {H : Hp} {Q : VK} (q : td σ H fun x H1 => ∃ a, x = .ref a ∧ IsD H1 a ∧ ty σ H1 fun y H2 => ∃ kvs k v, H2 a = some (.dK kvs) ∧ y = kV k ∧ valV kvs k = some v ∧ Q v (upd H2 a (.dK (dropK kvs k)))) : tDPop1 td ty σ H Q := q
def sp_Inbox_read (K : PySem.W.Frag) (C Cs Ce : Addr) : Sp := fun vs H Q E => ∃ (p d e : Addr) (F : List Addr) (m : Nat) (B : Ib) (x : V), vs = [.ref p, x] ∧ InAt C Cs p d e F m B H ∧ Al F H ∧ Good B ∧ B.nx ≤ 50000 ∧
  ((∃ n, x = .int n ∧ 0 ≤ n ∧ ∀ t H', H' t = some (.tup ((B.got (min n (B.nx - B.rd))).map V.int)) → InAt C Cs p d e F m (B.read (min n (B.nx - B.rd))) H' → Ch [p, d, e] H H' → Q (.ref t) H') ∨ (Less K H x 0 ∧ Err Ce "number" x H E))
theorem ok_Inbox_read (T : Txt K mg) : FnOk P w K mg base (L2.CX P w) 3 T.a_Inbox_read T.fd_Inbox_read ["self", "count"] (sp_Inbox_read K T.c_Inbox T.c_Spans T.c_InvalidNumber) := by
  have S := sc_Inbox_read
  refine T.F_Inbox_read.okX S (fun vs H Q E h => ?_) (fun cdv A outer s H vs Q E hr h => ?_)
  · obtain ⟨p, d, e, F, m, B, x, rfl, _⟩ := h
    rfl
  · obtain ⟨p, d, e, F, m, B, x, rfl, I, A, g, hn, h⟩ := h
    obtain ⟨dx, hp⟩ := I.oo
    obtain ⟨kvs, hd, ht, hk⟩ := I.dd
    have g1 := g.r1
    have g2 := g.rn
    refine ⟨_, (pss_cons (ps_if (pt_not (pt_val (pe_call (ok_is_at_least T) (hr.mono (by decide)) rfl T.g_is_at_least T.F_is_at_least.kp T.B_is_at_least .nil pass0 (pa_cons (pv 1) (pa_cons pe_int pa_nil))))) (pss_one (ps_raise rfl (takes_of rfl rfl rfl rfl) (pmk_oex T.X_InvalidNumber.o T.X_InvalidNumber.i T.X_InvalidNumber.t (ok_InvalidNumber_init_ T) (hr.mono (by decide)) T.B_InvalidNumber_init_ .nil pass0 rfl T.X_InvalidNumber.g (pa_cons (pv 1) pa_nil)))) pss_nil)
      (pss_cons (ps_set (i := 2) S.nd rfl (Or.inl rfl) (pe_fld (pv 0) rfl))
      (pss_cons (ps_fldaug (pv 0) (pe_callB (id := "min") (call_min2K rfl) (by rfl) T.b_min (by decide +kernel) (pa_cons (pv 1) (pa_cons (pe_prop (pv 0) T.cl_Inbox T.PR_Inbox_ready (ok_Inbox_ready T) (hr.mono (by decide)) T.B_Inbox_ready .nil pass0 rfl) pa_nil))) ip_add)
      (pss_cons (ps_set (i := 3) S.nd rfl (Or.inl rfl) (pe_lst pa_nil))
      (pss_cons (ps_for (passes_of rfl) rfl (pi_range2 (by rfl) T.b_range (pa_cons (pv 2) (pa_cons (pe_fld (pv 0) rfl) pa_nil))) (pg_name (i := 4) S.nd rfl (Or.inl rfl)) (pss_one (ps_expr (pe_bm PySem.F.plainAttrs_list PySem.F.slot_list_append PySem.F.type_list_append mt_append (pv 3) (pa_cons (pe_dpop1 (pe_fld (pv 0) rfl) (pv 4) ⟨rfl, rfl, rfl, rfl⟩) pa_nil)))))
      (pss_one (ps_ret (pe_callTy (T := "tuple") (call_tupK (K := K) rfl) (by rfl) T.b_tuple (by decide +kernel) (pa_cons (pv 3) pa_nil))))))))), ?_⟩
    refine st_Inbox_read ?_
    o_args
    rcases h with ⟨n, rfl, h0, k⟩ | ⟨hl, hE⟩
    rotate_left
    · refine ⟨_, _, rfl, .inr ⟨hl, ?_⟩⟩
      o_args
      refine x_mkO ?_
      o_args
      exact mkO_of T.X_InvalidNumber.o T.nX_InvalidNumber fun d H2 nd ss hx => hE d H2 ss hx
    refine ⟨_, _, rfl, .inl ⟨n, rfl, h0, ?_⟩⟩
    o_args
    refine fget hp T.cl_Inbox T.n_Inbox_read_offset rfl ?_
    o_args
    refine ⟨p, _, dx, _, _, rfl, hp, T.cl_Inbox, T.n_Inbox_read_offset, rfl, ?_⟩
    o_args
    refine ⟨p, dx, _, rfl, hp, p, d, e, F, m, B, rfl, I, ?_⟩
    o_args
    generalize hkk : min n (B.nx - B.rd) = c at k
    have c0 : 0 ≤ c := by omega
    have c1 : c ≤ B.nx - B.rd := by omega
    refine ⟨dx, _, hp, Nat.le_of_ble_eq_true rfl, ?_⟩
    have s1 : SameX p H (upd H p (.ins T.c_Inbox dx ({ B with rd := B.rd + c }.fs d e))) := SameX.upd
    have h1 : upd H p (.ins T.c_Inbox dx ({ B with rd := B.rd + c }.fs d e)) p = some (.ins T.c_Inbox dx ({ B with rd := B.rd + c }.fs d e)) := upd_same
    show tSeq _ _ _ _ (upd H p (.ins T.c_Inbox dx ({ B with rd := B.rd + c }.fs d e)))
    generalize upd H p (.ins T.c_Inbox dx ({ B with rd := B.rd + c }.fs d e)) = H1 at s1 h1
    have dp : d ≠ p := fun z => by rw [z, hp] at hd; cases hd
    have hd1 := s1 _ _ dp hd
    have C1 : Ch [p] H H1 := Ch.ofX (by simp) s1 h1
    have I1 : InAt T.c_Inbox T.c_Spans p d e F m { B with rd := B.rd + c } H1 := ⟨⟨dx, h1⟩, ⟨kvs, hd1, ht, hk⟩, I.ee.ch C1 (fun b hb => by rw [List.mem_singleton.mp hb]; exact I.ff.1), I.pe, I.li, I.ff⟩
    o_args
    refine newList (by simp) fun f H2 nf s2 h2 => ?_
    have I2 := I1.own nf s2
    have nfH : H f = none := C1.none nf
    have fo : f ∉ [p, d, e] := fun z => by
      obtain ⟨dxe, _, _, he, _⟩ := id I1.ee
      simp only [List.mem_cons, List.not_mem_nil, or_false] at z
      rcases z with z | z | z
      · rw [z, h1] at nf; cases nf
      · rw [z, hd1] at nf; cases nf
      · rw [z, he] at nf; cases nf
    have fF : f ∉ F := (A.ch C1).new nf
    o_args
    refine fget (s2 _ _ h1) T.cl_Inbox T.n_Inbox_read_offset rfl ?_
    refine ⟨B.rd, B.rd + c, rfl, ⟨by omega, by omega, by omega, by omega⟩, for_range (lo := B.rd) (n := (B.rd + c - B.rd).toNat) (fun j σ H' => ∃ v st, σ = [some (.ref p), some (.int n), some (.int B.rd), some (.ref f), v] ∧ Ch [f, p, d, e] H2 H' ∧ H' f = some (.lst (((List.range j).map fun i : Nat => (B.st (B.rd + (i : Int))).getD 0).map V.int)) ∧ InAt T.c_Inbox T.c_Spans p d e (f :: F) m { B with rd := B.rd + c, st := st } H' ∧ (∀ o, st o = if B.rd ≤ o ∧ o < B.rd + (j : Int) then none else B.st o)) ⟨none, B.st, rfl, Ch.refl, h2, I2, fun o => by rw [if_neg (by omega)]⟩ ?_ ?_⟩
    · rintro j σ Hj jl ⟨v, st, rfl, cj, hf, Ij, hst⟩
      obtain ⟨dxj, hpj⟩ := Ij.oo
      obtain ⟨kj, hdj, htj, hkj⟩ := Ij.dd
      have full := g.fu (B.rd + j) (by omega) (by omega)
      have hv : st (B.rd + j) = B.st (B.rd + j) := by rw [hst, if_neg (by omega)]
      obtain ⟨x, hx⟩ : ∃ x, B.st (B.rd + j) = some x := by
        cases e : B.st (B.rd + j) with
        | none => exact absurd e full
        | some x => exact ⟨x, rfl⟩
      have hval := htj (B.rd + j)
      rw [show ({ B with rd := B.rd + c, st := st } : Ib).st = st from rfl, hv, hx] at hval
      o_args
      refine ⟨isList hf, ?_⟩
      o_args
      refine x_dpop ?_
      o_args
      refine fget hpj T.cl_Inbox T.n_Inbox__stored rfl ?_
      refine ⟨d, rfl, .inl ⟨kj, .inl hdj⟩, ?_⟩
      o_args
      refine ⟨kj, .inl (B.rd + j), .int x, hdj, rfl, hval, ?_⟩
      have s3 : SameX d Hj (upd Hj d (.dK (dropK kj (.inl (B.rd + j))))) := SameX.upd
      have h3 : upd Hj d (.dK (dropK kj (.inl (B.rd + j)))) d = some (.dK (dropK kj (.inl (B.rd + j)))) := upd_same
      generalize upd Hj d (.dK (dropK kj (.inl (B.rd + j)))) = H3 at s3 h3
      have fd : f ≠ d := fun z => fo (by simp [z])
      have I3 := Ij.dict s3 h3 htj.drop (Nat.le_trans (dropK_le kj _) hkj)
      o_args
      refine appList (s3 _ _ fd hf) (by simp; omega) fun H4 s4 h4 => ?_
      have I4 := I3.ch (Ch.ofX (a := f) (G := [f]) (by simp) s4 h4) (fun b hb => by rw [List.mem_singleton.mp hb]; exact List.mem_cons_self) (fun z => fo (by simp [← List.mem_singleton.mp z])) (fun z => fo (by simp [← List.mem_singleton.mp z]))
      o_args
      refine ⟨_, _, rfl, (cj.trans ((Ch.ofX (G := [f, p, d, e]) (by simp) s3 h3))).trans (Ch.ofX (by simp) s4 h4), ?_, I4, fun o => ?_⟩
      · rw [h4, List.range_succ, List.map_append, List.map_append]
        simp [hx]
      · show (if o = B.rd + (j : Int) then none else st o) = _
        rw [hst]
        by_cases q : o = B.rd + (j : Int)
        · rw [if_pos q, if_pos (by omega)]
        · rw [if_neg q]
          by_cases q2 : B.rd ≤ o ∧ o < B.rd + (j : Int)
          · rw [if_pos q2, if_pos (by omega)]
          · rw [if_neg q2, if_neg (by omega)]
    · rintro σ Hj ⟨v, st, rfl, cj, hf, Ij, hst⟩
      o_args
      refine ⟨f, _, rfl, .inl ⟨SqL.of hf, fun t nt => ?_⟩⟩
      have s5 := Same.new (o := .tup (((List.range (B.rd + c - B.rd).toNat).map fun i : Nat => (B.st (B.rd + (i : Int))).getD 0).map V.int)) nt
      refine k t _ (by rw [upd_same, show B.rd + c - B.rd = c by omega]; rfl) ?_ ((C1.more (by simp)).trans ((((Ch.of s2).trans cj).drop nf).trans (Ch.of s5)))
      have I5 := (Ij.same s5).less (G := F) (fun b hb => List.mem_cons_of_mem _ hb) I.ff.1 I.ff.2
      have e : st = fun o => if B.rd ≤ o ∧ o < B.rd + c then none else B.st o := funext fun o => by rw [hst o, show B.rd + ((B.rd + c - B.rd).toNat : Int) = B.rd + c by omega]
      rw [e] at I5
      exact I5
/-! ### the told runs -/
def Ib.told (B : Ib) : List Run := (match B.ah.find? fun r : Run => decide (r.1 ≤ B.la ∧ B.la < r.2) with
  | none => B.ah
  | some r => r :: B.ah.filter fun q => !decide (q = r)).take 3
theorem dp_run {K : PySem.W.Frag} {H : Hp} {t : Addr} {r : Run} (h : H t = some (.tup [.int r.1, .int r.2])) : Dp K H (.ref t) (.tuple [.int r.1, .int r.2]) := .tup (SqT.of h) (.cons (.int _) (.cons (.int _) .nil))
theorem lay_run (r : Run) : PySem.SeqAt.shaped (.tuple [.int r.1, .int r.2]) = true := by
  simp [PySem.SeqAt.shaped, PyData.canLay0, PyData.canLayAll0, PyData.depth, PyData.depthAll]
theorem neRun {K : PySem.W.Frag} {H : Hp} {Q : VK} {t u : Addr} {r q : Run} (h : H t = some (.tup [.int r.1, .int r.2])) (g : H u = some (.tup [.int q.1, .int q.2])) (k : Q (.bl (!decide (r = q))) H) : rNeD K (.ref t) (.ref u) H Q :=
  ⟨_, _, dp_run h, dp_run g, lay_run r, lay_run q, by
    rw [show PyData.eqv (.tuple [.int r.1, .int r.2]) (.tuple [.int q.1, .int q.2]) = decide (r = q) by
      simp only [PyData.eqv, PyData.eqvAll, Bool.and_true]
      rw [Bool.eq_iff_iff]
      simp [Prod.ext_iff]]
    exact k⟩
theorem slice3 {K : PySem.W.Frag} {H : Hp} {Q : VK} {a : Addr} {xs : List V} (h : H a = some (.lst xs)) (q : ∀ l H', H l = none → Same H H' → H' l = some (.lst (xs.take 3)) → Q (.ref l) H') : rSlL K (.ref a) none (some 3) H Q := by
  refine ⟨a, xs, rfl, SqL.of h, fun l hl => q l _ hl (Same.new hl) ?_⟩
  rw [upd_same]
  exact congrArg (fun z => some (HO.lst z)) (cut_to xs 3)
theorem Tups.take {H : Hp} {ts : List Addr} {rs : List Run} (h : Tups H ts rs) (n : Nat) : Tups H (ts.take n) (rs.take n) := ⟨by rw [List.length_take, List.length_take, h.1], fun i t r h1 h2 => by
  rw [List.getElem?_take] at h1 h2
  split at h1
  · rename_i c
    rw [if_pos c] at h2
    exact h.2 i t r h1 h2
  · cases h1⟩
theorem Tups.cons {H : Hp} {t : Addr} {ts : List Addr} {r : Run} {rs : List Run} (h : Tups H ts rs) (e : H t = some (.tup [.int r.1, .int r.2])) : Tups H (t :: ts) (r :: rs) := ⟨by rw [List.length_cons, List.length_cons, h.1], fun i a b h1 h2 => by
  cases i with
  | zero => cases h1; cases h2; exact e
  | succ i => exact h.2 i a b h1 h2⟩
def sp_Inbox_told_runs (C Cs : Addr) : Sp := fun vs H Q _ => ∃ (p d e : Addr) (F : List Addr) (m : Nat) (B : Ib), vs = [.ref p] ∧ InAt C Cs p d e F m B H ∧ B.ah.length < 20000 ∧ ∀ l ts H', H l = none → Same H H' → RunsL l ts B.told H' → Q (.ref l) H'
theorem ok_Inbox_told_runs (T : Txt K mg) : FnOk P w K mg base CX0 3 T.a_Inbox_told_runs T.fd_Inbox_told_runs ["self"] (sp_Inbox_told_runs T.c_Inbox T.c_Spans) := by
  have S := sc_Inbox_told_runs
  refine T.F_Inbox_told_runs.ok S (fun vs H Q E h => ?_) (fun cdv A outer s H vs Q E hr h => ?_)
  · obtain ⟨p, d, e, F, m, B, rfl, _⟩ := h
    rfl
  · obtain ⟨p, d, e, F, m, B, rfl, I, hz, k⟩ := h
    obtain ⟨dx, hp⟩ := I.oo
    obtain ⟨dxe, le, tse, he, _⟩ := id I.ee
    have O := I.ee.offs
    refine ⟨_, (pss_cons (ps_set (i := 1) S.nd rfl (Or.inl rfl) (pe_meth0 (pe_fld (pv 0) rfl) T.cl_Spans T.m_Spans_rows (ok_Spans_rows T) (hr.mono (by decide)) T.B_Spans_rows .nil pass0))
      (pss_cons (ps_set (i := 2) S.nd rfl (Or.inr rfl) (pe_meth (pe_fld (pv 0) rfl) T.cl_Spans T.m_Spans_holding (ok_Spans_holding T) (hr.mono (by decide)) T.B_Spans_holding .nil pass0 (pa_cons (pe_fld (pv 0) rfl) pa_nil)))
      (pss_cons (ps_if (pt_cmpR op_notN (pv 2) pe_non (nomark _)) (pss_one (ps_set (i := 1) S.nd rfl (Or.inl rfl) (pe_lst (pa_cons (pv 2) (StX.pa_star (pe_lc (own := [("run", 3)]) (g := gName 3) rfl S.nd (pi_list (pv 1)) (blkOk_by (N := ["self", "rows", "latest", "run"]) (sc := defScope s_Inbox_told_runs) (by decide +kernel)) (fun _ _ _ _ _ => pg_name (i := 3) S.nd rfl (Or.inl rfl)) (fun _ _ _ _ _ => pts_one (pt_cmpR (show OpR _ _ (rNeD K) from op_neD hr.units) (pv 3) (pv 2) (nomark _))) (fun _ _ _ _ _ => (pv 3))) pa_nil))))) pss_nil)
      (pss_one (ps_ret (pe_slice sl_list (pv 1) po_none (po_some (pe_glob rfl T.g_MOST_TOLD T.r_MOST_TOLD)))))))), ?_⟩
    refine st_Inbox_told_runs ?_
    o_args
    refine fget hp T.cl_Inbox T.n_Inbox__ahead rfl ?_
    o_args
    refine ⟨e, dxe, _, rfl, he, rfl, ?_⟩
    o_args
    refine ⟨e, F, B.ah, rfl, I.ee, fun l ts H1 nl s1 r1 => ?_⟩
    have I1 := I.same s1
    o_args
    refine fget (s1 _ _ hp) T.cl_Inbox T.n_Inbox__ahead rfl ?_
    o_args
    refine ⟨e, dxe, _, rfl, s1 _ _ he, rfl, ?_⟩
    o_args
    refine fget (s1 _ _ hp) T.cl_Inbox T.n_Inbox__latest rfl ?_
    o_args
    refine ⟨e, F, B.ah, _, rfl, I1.ee, .inl ⟨_, rfl, ?_⟩⟩
    by_cases c : Mem B.la B.ah
    · obtain ⟨r, rm, c1, c2⟩ := c
      refine .inl ⟨r, rm, c1, c2, fun t H2 s2 h2 => ?_⟩
      have fd : B.ah.find? (fun r : Run => decide (r.1 ≤ B.la ∧ B.la < r.2)) = some r := by
        cases e : B.ah.find? fun r : Run => decide (r.1 ≤ B.la ∧ B.la < r.2) with
        | none => exact absurd (List.find?_eq_none.mp e r rm) (by simp [c1, c2])
        | some q =>
          have hq := List.find?_some e
          rw [decide_eq_true_iff] at hq
          rw [pair_uniq O.nrm rm (List.mem_of_find?_eq_some e) c1 c2 hq.1 hq.2]
      have r2 := r1.same s2
      o_args
      refine brF (by rfl) ?_
      o_args
      refine lcG (a := l) (xs := ts.map V.ref) (fun D i vs H' => SameX D H2 H' ∧ ∃ us, vs = us.map V.ref ∧ Tups H' us ((B.ah.take i).filter fun q => !decide (q = r)) ∧ D ∉ us) (fun R h => ⟨_, rfl, h⟩) (SqL.of r2.1) (by rw [List.length_map, r2.len]; omega) (fun D _ => ⟨SameX.upd, [], rfl, Tups.nil, by simp⟩) (fun D i vs H' hD hP => SqL.of (hP.1 _ _ (ne_of_none r2.1 hD) r2.1)) (fun D i v vs H' hD hv hle h1 hP => ?_) (fun D vs H' hD h1 hle hP => ?_)
      · obtain ⟨s, us, e1, T1, nu⟩ := hP
        have il := getq_lt hv
        rw [List.length_map, r2.len] at il
        obtain ⟨u, _, e2, hu⟩ := r2.at (List.getElem?_eq_getElem il)
        rw [e2] at hv
        cases hv
        have tk : B.ah.take (i + 1) = B.ah.take i ++ [B.ah[i]] := by rw [List.take_succ, List.getElem?_eq_getElem il]; rfl
        generalize B.ah[i] = q at tk hu
        have hu' := s _ _ (ne_of_none hu hD) hu
        have h2' := s _ _ (ne_of_none h2 hD) h2
        intro Y N hY hN
        o_args
        refine neRun hu' h2' ?_
        by_cases e : q = r
        · rw [show (!decide (q = r)) = false by simp [e]]
          refine ⟨false, rfl, ?_⟩
          rw [if_neg (by simp)]
          refine hN _ h1 ⟨s, us, e1, ?_, nu⟩
          rw [tk, List.filter_append, List.filter_cons_of_neg (by simp [e]), List.filter_nil, List.append_nil]
          exact T1
        · rw [show (!decide (q = r)) = true by simp [e]]
          refine ⟨true, rfl, ?_⟩
          rw [if_pos rfl]
          o_args
          have ud : u ≠ D := ne_of_none hu hD
          refine hY _ H' h1 ⟨s.upd', us ++ [u], by rw [e1, List.map_append]; rfl, ?_, by simp [nu, ud.symm]⟩
          rw [tk, List.filter_append, List.filter_cons_of_pos (by simp [e]), List.filter_nil]
          have sx : SameX D H' (upd H' D (.lst (vs ++ [.ref u]))) := SameX.upd
          exact (T1.ch (Ch.ofX (a := D) (G := [D]) (by simp) sx upd_same) fun t ht z => nu (by rw [← List.mem_singleton.mp z]; exact ht)).snoc (sx _ _ ud hu')
      · obtain ⟨s, us, e1, T1, nu⟩ := hP
        rw [List.length_map, r2.len, List.take_length] at T1
        subst e1
        have S2 := Same.ofX hD s
        have fl : (B.ah.filter fun q => !decide (q = r)).length ≤ B.ah.length := List.length_filter_le _ _
        refine ⟨D, _, rfl, .inr (SqL.of h1), ?_⟩
        o_args
        refine newList (by have := T1.1; simp; omega) fun w H3 nw s3 h3 => ?_
        have T3 : Tups H3 (t :: us) (r :: B.ah.filter fun q => !decide (q = r)) := (T1.same s3).cons (s3 _ _ (S2 _ _ h2))
        o_args
        refine slice3 h3 fun z H4 nz s4 h4 => ?_
        refine k z ((t :: us).take 3) H4 ?_ ?_ ⟨by rw [h4]; simp [List.map_take], ?_⟩
        · exact none_of s1 (none_of s2 (none_of S2 (none_of s3 nz)))
        · exact ((s1.trans s2).trans S2).trans (s3.trans s4)
        · unfold Ib.told
          rw [fd]
          exact (T3.take 3).same s4
    · refine .inr ⟨c, ?_⟩
      have fd : B.ah.find? (fun r : Run => decide (r.1 ≤ B.la ∧ B.la < r.2)) = none := List.find?_eq_none.mpr fun r rm => by
        rw [decide_eq_true_iff]
        exact fun z => c ⟨r, rm, z.1, z.2⟩
      o_args
      refine slice3 r1.1 fun z H4 nz s4 h4 => ?_
      refine k z (ts.take 3) H4 (none_of s1 nz) (s1.trans s4) ⟨by rw [h4, List.map_take], ?_⟩
      unfold Ib.told
      rw [fd]
      exact (r1.2.take 3).same s4
/-! ### the law's account -/
structure Sx where
  lim : Int
  nx : Int
  rd : Int
  la : Int
  fin : Option Int
  urg : Int
  ks : List Int
  T : Int → Option Int
def Sx.kvs (S : Sx) (c : Addr) : List (Key × V) := [(.inr "limit", .int S.lim), (.inr "table", .ref c), (.inr "next", .int S.nx), (.inr "read", .int S.rd), (.inr "newest", .int S.la), (.inr "final", finV S.fin), (.inr "urgent", .int S.urg)]
/-- c holds the table: its keys ks, each once -/
def TabAt (H : Hp) (c : Addr) (ks : List Int) (T : Int → Option Int) : Prop := ∃ tk, H c = some (.dK tk) ∧ tk.map (·.1) = ks.map Sum.inl ∧ ks.Nodup ∧ Tells tk T
structure StAt (H : Hp) (q c : Addr) (S : Sx) : Prop where
  sq : H q = some (.dK (S.kvs c))
  sc : TabAt H c S.ks S.T
  ne : q ≠ c
theorem TabAt.ch {H H' : Hp} {c : Addr} {ks : List Int} {T : Int → Option Int} {G : List Addr} (h : TabAt H c ks T) (x : Ch G H H') (n : c ∉ G) : TabAt H' c ks T := h.elim fun tk h => ⟨tk, x.at n h.1, h.2⟩
theorem StAt.ch {H H' : Hp} {q c : Addr} {S : Sx} {G : List Addr} (h : StAt H q c S) (x : Ch G H H') (n : q ∉ G) (m : c ∉ G) : StAt H' q c S := ⟨x.at n h.sq, h.sc.ch x m, h.ne⟩
theorem StAt.same {H H' : Hp} {q c : Addr} {S : Sx} (h : StAt H q c S) (s : Same H H') : StAt H' q c S := h.ch (Ch.of (G := []) s) (fun z => nomatch z) (fun z => nomatch z)
theorem tells_keys {tk : List (Key × V)} {ks : List Int} {T : Int → Option Int} (h : tk.map (·.1) = ks.map Sum.inl) (t : Tells tk T) (o : Int) : o ∈ ks ↔ T o ≠ none := by
  have e := t o
  constructor
  · intro hm z
    rw [z] at e
    have : (Sum.inl o : Key) ∈ tk.map (·.1) := by rw [h]; exact List.mem_map.mpr ⟨o, hm, rfl⟩
    obtain ⟨p, hp, e2⟩ := List.mem_map.mp this
    have e3 := valV_any (.inl o : Key) tk
    rw [e] at e3
    have : (tk.any fun kv => decide (kv.1 = .inl o)) = true := List.any_eq_true.mpr ⟨p, hp, decide_eq_true e2⟩
    rw [this] at e3
    cases e3
  · intro hn
    cases q : T o with
    | none => exact absurd q hn
    | some x =>
      rw [q] at e
      obtain ⟨p, hp, e2⟩ := Option.map_eq_some_iff.mp e
      have e3 := List.find?_some hp
      have : (Sum.inl o : Key) ∈ tk.map (·.1) := List.mem_map.mpr ⟨p, List.mem_of_find?_eq_some hp, by simpa using e3⟩
      rw [h] at this
      obtain ⟨y, hy, e4⟩ := List.mem_map.mp this
      rw [← Sum.inl.inj e4]
      exact hy
theorem TabAt.put {H' : Hp} {c : Addr} {ks : List Int} {T : Int → Option Int} {tk : List (Key × V)} {k v : Int} (e : H' c = some (.dK (putK tk (.inl k) (.int v)))) (h : tk.map (·.1) = ks.map Sum.inl) (n : ks.Nodup) (t : Tells tk T) (z : T k = none) : TabAt H' c (ks ++ [k]) (fun j => if j = k then some v else T j) := by
  have e1 := t k
  rw [z] at e1
  refine ⟨_, e, ?_, ?_, t.put⟩
  · rw [putK_new _ e1, List.map_append, List.map_append, h]; rfl
  · refine List.nodup_append.mpr ⟨n, by simp, fun x hx y hy e => ?_⟩
    rw [List.mem_singleton.mp hy] at e
    exact (tells_keys h t k).mp (e ▸ hx) z
/-- what is new of n bytes from off on -/
def Sx.edge (S : Sx) : Int := max S.nx (S.rd + S.lim)
def Sx.stop (S : Sx) : Int := match S.fin with
  | none => S.edge
  | some n => min S.edge n
def Sx.neu (S : Sx) (off : Int) (n : Nat) (o : Int) : Prop := max off S.nx ≤ o ∧ o < min (off + n) S.stop ∧ S.T o = none
structure Stored (S S' : Sx) (off : Int) (ns : List Int) (r : Int) : Prop where
  li : S'.lim = S.lim
  rd : S'.rd = S.rd
  fi : S'.fin = S.fin
  ur : S'.urg = S.urg
  kz : S'.ks.length ≤ S.ks.length + ns.length
  s1 : ∀ o, S.neu off ns.length o → S'.T o = ns[(o - off).toNat]?
  s0 : ∀ o, ¬ S.neu off ns.length o → S'.T o = S.T o
  n0 : S.nx ≤ S'.nx
  n1 : ∀ o, S.nx ≤ o → o < S'.nx → S.T o ≠ none ∨ S.neu off ns.length o
  n2 : ¬ (S.T S'.nx ≠ none ∨ S.neu off ns.length S'.nx)
  la : ((∀ o, ¬ S.neu off ns.length o) ∧ S'.la = S.la) ∨ (S.neu off ns.length S'.la ∧ ∀ o, S.neu off ns.length o → S'.la ≤ o)
  cn : r = cnt (fun o => decide (max off S.nx ≤ o ∧ o < min (off + ns.length) S.stop) && (S.T o).isNone) off ns.length
/-- the inbox and the account are of one mind -/
structure Rel (B : Ib) (S : Sx) : Prop where
  g : Good B
  li : B.lim = S.lim
  nx : B.nx = S.nx
  rd : B.rd = S.rd
  la : B.la = S.la
  fi : B.fin = S.fin
  ur : B.urg = S.urg
  st : ∀ o, B.rd ≤ o → B.st o = S.T o
  fu : ∀ o, 1 ≤ o → o < S.nx → S.T o ≠ none
  hi : ∀ o, S.T o ≠ none → o < S.nx + 65535
  lm : B.lim ≤ 65535
theorem Rel.neu {B : Ib} {S : Sx} (R : Rel B S) (off : Int) (n : Nat) (o : Int) : B.neu off n o ↔ S.neu off n o := by
  have g2 := R.g.rn
  have e1 : B.stop = S.stop := by unfold Ib.stop Sx.stop Ib.edge Sx.edge; rw [R.fi, R.nx, R.rd, R.li]; all_goals (cases S.fin <;> rfl)
  unfold Ib.neu Sx.neu
  rw [e1, R.nx]
  constructor
  · rintro ⟨h1, h2, h3⟩
    refine ⟨h1, h2, ?_⟩
    rw [R.g.ha, R.nx] at h3
    rw [← R.st o (by have := R.nx; omega)]
    cases q : B.st o with
    | none => rfl
    | some x => exact absurd ⟨by rw [q]; exact fun z => (nomatch z), by omega⟩ h3
  · rintro ⟨h1, h2, h3⟩
    refine ⟨h1, h2, ?_⟩
    rw [R.g.ha, R.st o (by have := R.nx; omega)]
    exact fun z => z.1 h3
theorem Rel.mem {B : Ib} {S : Sx} (R : Rel B S) (o : Int) : Mem o B.ah ↔ S.T o ≠ none ∧ S.nx ≤ o := by
  have g2 := R.g.rn
  have e := R.nx
  rw [R.g.ha, R.nx]
  constructor
  · rintro ⟨h1, h2⟩
    rw [R.st o (by omega)] at h1
    exact ⟨h1, h2⟩
  · rintro ⟨h1, h2⟩
    rw [R.st o (by omega)]
    exact ⟨h1, h2⟩
theorem Rel.took {B B' : Ib} {S S' : Sx} {off r r' : Int} {ns : List Int} (R : Rel B S) (t : Took B B' off ns r) (u : Stored S S' off ns r') : r = r' ∧ Rel B' S' := by
  have g' := t.good R.g
  have N := R.neu off ns.length
  have g2 := R.g.rn
  have e := R.nx
  have s : ∀ o, B.rd ≤ o → B'.st o = S'.T o := fun o h => by
    by_cases c : B.neu off ns.length o
    · rw [t.s1 o c, u.s1 o ((N o).mp c)]
    · rw [t.s0 o c, u.s0 o fun z => c ((N o).mpr z), R.st o h]
  have free : ∀ o, B.nx ≤ o → (Mem o B.ah ∨ B.neu off ns.length o ↔ S.T o ≠ none ∨ S.neu off ns.length o) := fun o h => by
    rw [R.mem o, N o]
    exact ⟨fun z => z.imp (·.1) id, fun z => z.imp (fun y => ⟨y, by omega⟩) id⟩
  have n0 := t.n0
  have m0 := u.n0
  have en : B'.nx = S'.nx := by
    rcases Int.lt_trichotomy B'.nx S'.nx with c | c | c
    · exact absurd ((free _ n0).mpr (u.n1 _ (by omega) c)) t.n2
    · exact c
    · exact absurd ((free _ (by omega)).mp (t.n1 _ (by omega) c)) u.n2
  refine ⟨?_, g', by rw [t.li, u.li, R.li], en, by rw [t.rd, u.rd, R.rd], ?_, by rw [t.fi, u.fi, R.fi], by rw [t.ur, u.ur, R.ur], fun o h => s o (by rw [t.rd] at h; exact h), fun o h1 h2 => ?_, fun o h => ?_, by rw [t.li]; exact R.lm⟩
  · rw [u.cn]
    refine t.cn _ fun o => ?_
    rw [N o, Bool.and_eq_true, decide_eq_true_iff, Option.isNone_iff_eq_none, and_assoc]
    exact Iff.rfl
  · rcases t.la with ⟨a1, a2⟩ | ⟨a1, a2⟩
    · rcases u.la with ⟨b1, b2⟩ | ⟨b1, b2⟩
      · rw [a2, b2, R.la]
      · exact absurd ((N _).mpr b1) (a1 _)
    · rcases u.la with ⟨b1, b2⟩ | ⟨b1, b2⟩
      · exact absurd ((N _).mp a1) (b1 _)
      · have := a2 _ ((N _).mpr b1)
        have := b2 _ ((N _).mp a1)
        omega
  · by_cases c : S.neu off ns.length o
    · rw [u.s1 o c, List.getElem?_eq_getElem (by have := c.1; have := c.2.1; omega)]
      exact fun z => nomatch z
    · rw [u.s0 o c]
      by_cases d : o < S.nx
      · exact R.fu o h1 d
      · exact (u.n1 o (by omega) h2).resolve_right c
  · have lm := R.lm
    have e2 := R.rd
    have e3 := R.li
    by_cases c : S.neu off ns.length o
    · have c2 := c.2.1
      have sl : S.stop ≤ S.edge := by unfold Sx.stop; split <;> omega
      unfold Sx.edge at sl
      omega
    · rw [u.s0 o c] at h
      have := R.hi o h
      omega
def sp__law_edge : Sp := fun vs H Q _ => ∃ (q c : Addr) (S : Sx), vs = [.ref q] ∧ StAt H q c S ∧ Q (.int S.edge) H
theorem ok__law_edge (T : Txt K mg) : FnOk P w K mg base CX0 1 T.a__law_edge T.fd__law_edge ["state"] (sp__law_edge) := by
  have S := sc__law_edge
  refine T.F__law_edge.ok S (fun vs H Q E h => ?_) (fun cdv A outer s H vs Q E hr h => ?_)
  · obtain ⟨q, c, S, rfl, _⟩ := h
    rfl
  · obtain ⟨q, c, S', rfl, h, k⟩ := h
    have hq := h.sq
    unfold Sx.kvs at hq
    refine ⟨_, (pss_one (ps_ret (pe_callB (id := "max") (call_max2K rfl) (by rfl) T.b_max (by decide +kernel) (pa_cons (pe_dget (room_u1 hr) (pv 0) pe_str (fun _ _ => rfl)) (pa_cons (pe_op op_add (pe_dget (room_u1 hr) (pv 0) pe_str (fun _ _ => rfl)) (pe_dget (room_u1 hr) (pv 0) pe_str (fun _ _ => rfl))) pa_nil))))), ?_⟩
    refine st__law_edge ?_
    o_args
    exact k
def rLenD : List V → Hp → VK → Prop := fun xs H Q => ∃ a kvs, xs = [V.ref a] ∧ H a = some (.dK kvs) ∧ Q (.int (kvs.length : Nat)) H
theorem call_lenDK {X : Cx} : CallR X (.builtin "len") rLenD := by
  intro pins s σ H xs us Q I r h
  obtain ⟨a, kvs, rfl, ha, q⟩ := h
  obtain ⟨u, rfl, ru⟩ := vals1 r
  cases ru
  exact d_len I (.inl ha) fun t s' I' => ⟨.int kvs.length, H, I', ⟨t, rfl⟩, q⟩
theorem x_dnotin {ty td : TE} {σ : L2.St} {H : Hp} {Q : VK} (q : ty σ H fun y H1 => td σ H1 fun x H2 => ∃ a o, x = .ref a ∧ DGet H2 a y o ∧ Q (.bl (!o.isSome)) H2) : tDNotIn ty td σ H Q := q
theorem x_din {ty td : TE} {σ : L2.St} {H : Hp} {Q : VK} (q : ty σ H fun y H1 => td σ H1 fun x H2 => ∃ a o, x = .ref a ∧ DGet H2 a y o ∧ Q (.bl o.isSome) H2) : tDIn ty td σ H Q := q
/-- what the table says of a place -/
theorem dgetT {H : Hp} {c : Addr} {tk : List (Key × V)} {T : Int → Option Int} {o : Int} {r : Option Int} (h : H c = some (.dK tk)) (t : Tells tk T) (e : T o = r) : DGet H c (.int o) (r.map V.int) := .inl ⟨tk, .inl o, .inl h, rfl, by rw [← e]; exact (t o).symm⟩
def sp__law_stores (K : PySem.W.Frag) : Sp := fun vs H Q _ => ∃ (q c a : Addr) (S : Sx) (off : Int) (ns : List Int), vs = [.ref q, .int off, .ref a] ∧ StAt H q c S ∧ SeqA K H a (ns.map V.int) ∧ ns.length ≤ 1000 ∧ S.ks.length ≤ 5000 ∧
  ∀ S' r H', Stored S S' off ns r → StAt H' q c S' → Ch [q, c] H H' → Q (.int r) H'
set_option maxHeartbeats 0 in
theorem ok__law_stores (T : Txt K mg) : FnOk P w K mg base CX0 2 T.a__law_stores T.fd__law_stores ["state", "offset", "data"] (sp__law_stores K) := by
  have S := sc__law_stores
  refine T.F__law_stores.ok S (fun vs H Q E h => ?_) (fun cdv A outer s H vs Q E hr h => ?_)
  · obtain ⟨q, c, a, S, off, ns, rfl, _⟩ := h
    rfl
  · obtain ⟨q, c, a, S0, off, ns, rfl, h, hA, hz, hk, k⟩ := h
    have hq := h.sq
    unfold Sx.kvs at hq
    refine ⟨_, (pss_cons (ps_set (i := 3) S.nd rfl (Or.inl rfl) (pe_call (ok__law_edge T) (hr.mono (by decide)) rfl T.g__law_edge T.F__law_edge.kp T.B__law_edge .nil pass0 (pa_cons (pv 0) pa_nil)))
      (C8.pss_cut (ps_if (pt_cmpR op_notN (pe_dget (room_u1 hr) (pv 0) pe_str (fun _ _ => rfl)) pe_non (nomark _)) (pss_one (ps_set (i := 3) S.nd rfl (Or.inl rfl) (pe_callB (id := "min") (call_min2K rfl) (by rfl) T.b_min (by decide +kernel) (pa_cons (pv 3) (pa_cons (pe_dget (room_u1 hr) (pv 0) pe_str (fun _ _ => rfl)) pa_nil))))) pss_nil)
      (pss_cons (ps_set (i := 4) S.nd rfl (Or.inl rfl) (pe_dget (room_u1 hr) (pv 0) pe_str (fun _ _ => rfl)))
      (pss_cons (ps_set (i := 5) S.nd rfl (Or.inl rfl) pe_int)
      (pss_cons (ps_for PassesOwn.never rfl (pi_range1 (by rfl) T.b_range (pa_cons (pe_callB (id := "len") (call_lenK (K := K) rfl) (by rfl) T.b_len (by decide +kernel) (pa_cons (pv 2) pa_nil)) pa_nil)) (pg_name (i := 6) S.nd rfl (Or.inl rfl)) (pss_cons (ps_set (i := 7) S.nd rfl (Or.inl rfl) (pe_op op_add (pv 1) (pv 6)))
      (pss_one (ps_if (PW.pt (pw_and (pt_chain op_le op_lt (pe_dget (room_u1 hr) (pv 0) pe_str (fun _ _ => rfl)) (pv 7) (pv 3)) (pw_and1 (pt_cmp (pc_dnotin (room_u1 hr) (pv 7) (pv 4)) rfl)))) (pss_cons (ps_dput (room_u1 hr) (pv 4) (pv 7) (pe_ix ix_seq (pv 2) (pv 6) (fun _ _ => rfl)) rfl)
      (C8.pss_cut (ps_if (pt_cmpR op_eq (pv 5) pe_int (nomark _)) (pss_one (ps_dput (room_u1 hr) (pv 0) pe_str (pv 7) rfl)) pss_nil)
      (pss_one (ps_set (i := 5) S.nd rfl (Or.inl rfl) (pe_op op_add (pv 5) pe_int))))) pss_nil))))
      (pss_cons (ps_for PassesOwn.never rfl (pi_range1 (by rfl) T.b_range (pa_cons (pe_callB (id := "len") call_lenDK (by rfl) T.b_len (by decide +kernel) (pa_cons (pv 4) pa_nil)) pa_nil)) (pg_name (i := 6) S.nd rfl (Or.inl rfl)) (pss_one (ps_if (pt_cmp (pc_din (room_u1 hr) (pe_dget (room_u1 hr) (pv 0) pe_str (fun _ _ => rfl)) (pv 4)) rfl) (pss_one (ps_dput (room_u1 hr) (pv 0) pe_str (pe_op op_add (pe_dget (room_u1 hr) (pv 0) pe_str (fun _ _ => rfl)) pe_int) rfl)) pss_nil)))
      (pss_one (ps_ret (pv 5))))))))), ?_⟩
    refine st__law_stores ?_
    o_args
    refine ⟨q, c, S0, rfl, h, ?_⟩
    o_args
    refine ⟨fun σ H' => σ = [some (.ref q), some (.int off), some (.ref a), some (.int S0.stop), none, none, none, none] ∧ H = H', ?_, ?_⟩
    · unfold Sx.stop
      cases hf : S0.fin with
      | none =>
        rw [hf] at hq
        simp only [finV] at hq
        o_args
        exact ⟨rfl, rfl⟩
      | some f =>
        rw [hf] at hq
        simp only [finV] at hq
        o_args
        refine brF (by rfl) ?_
        o_args
        exact ⟨rfl, rfl⟩
    rintro σ H0 ⟨rfl, rfl⟩
    o_args
    refine lenA hA ?_
    o_args
    obtain ⟨tk0, hc0, hkk0, nd0, ht0⟩ := id h.sc
    have oldA : ∀ {H'}, Ch [q, c] H H' → SeqA K H' a (ns.map V.int) := fun ch => by
      have kk : ∀ {o}, (∀ kvs, o ≠ .dK kvs) → H a = some o → _ := fun n2 ha => ch.at (fun z => by
        simp only [List.mem_cons, List.not_mem_nil, or_false] at z
        rcases z with z | z <;> rw [z] at ha
        · rw [h.sq] at ha; exact n2 _ (Option.some.inj ha).symm
        · rw [hc0] at ha; exact n2 _ (Option.some.inj ha).symm) ha
      rcases hA with ((h | ⟨o, h⟩) | h) | ((h | ⟨o, h⟩) | h)
      · exact .inl (.inl (.inl (kk (fun _ => nofun) h)))
      · exact .inl (.inl (.inr ⟨o, kk (fun _ => nofun) h⟩))
      · exact .inl (.inr h)
      · exact .inr (.inl (.inl (kk (fun _ => nofun) h)))
      · exact .inr (.inl (.inr ⟨o, kk (fun _ => nofun) h⟩))
      · exact .inr (.inr h)
    refine ⟨by omega, by rw [List.length_map]; omega, ?_⟩
    have ef : ∃ f : Int → Bool, f = fun o => decide (max off S0.nx ≤ o ∧ o < min (off + ns.length) S0.stop) && (S0.T o).isNone := ⟨_, rfl⟩
    obtain ⟨f, ef⟩ := ef
    have hf : ∀ o, f o = true ↔ S0.neu off ns.length o := fun o => by
      rw [ef]
      show (_ && _) = true ↔ _
      rw [Bool.and_eq_true, decide_eq_true_iff, Option.isNone_iff_eq_none, and_assoc]
      exact Iff.rfl
    refine for_range (lo := 0) (n := (((ns.map V.int).length : Nat) : Int).toNat) (fun i σ H' => ∃ ks T la v6 v7, σ = [some (.ref q), some (.int off), some (.ref a), some (.int S0.stop), some (.ref c), some (.int (cnt f off i)), v6, v7] ∧ Ch [q, c] H H' ∧
      H' q = some (.dK ({ S0 with la := la }.kvs c)) ∧ TabAt H' c ks T ∧ ks.length ≤ S0.ks.length + i ∧ (∀ o, S0.neu off ns.length o → o < off + i → T o = ns[(o - off).toNat]?) ∧ (∀ o, ¬ (S0.neu off ns.length o ∧ o < off + i) → T o = S0.T o) ∧
      (((∀ o, S0.neu off ns.length o → ¬ o < off + i) ∧ la = S0.la ∧ cnt f off i = 0) ∨ (S0.neu off ns.length la ∧ la < off + i ∧ (∀ o, S0.neu off ns.length o → la ≤ o) ∧ 0 < cnt f off i))) ⟨S0.ks, S0.T, S0.la, none, none, rfl, Ch.refl, h.sq, h.sc, Nat.le_refl _, fun o n z => by have := n.1; omega, fun o _ => rfl, .inl ⟨fun o n z => by have := n.1; omega, rfl, rfl⟩⟩ ?_ ?_
    · rintro i σ Hi il ⟨ks, T, la, v6, v7, rfl, ci, hqi, tai, kz, t1, t0, hla⟩
      rw [List.length_map, Int.toNat_natCast] at il
      obtain ⟨tk, hci, hkk, nd, ht⟩ := id tai
      unfold Sx.kvs at hqi
      rw [Int.zero_add]
      have cs : cnt f off (i + 1) = cnt f off i + if f (off + i) = true then 1 else 0 := rfl
      have pos := (cnt_le f off i).1
      have same : ¬ S0.neu off ns.length (off + i) → ∃ ks' T' la' v6' v7', ([some (.ref q), some (.int off), some (.ref a), some (.int S0.stop), some (.ref c), some (.int (cnt f off i)), some (.int (i : Int)), some (.int (off + i))] : L2.St) = [some (.ref q), some (.int off), some (.ref a), some (.int S0.stop), some (.ref c), some (.int (cnt f off (i + 1))), v6', v7'] ∧ Ch [q, c] H Hi ∧
          Hi q = some (.dK ({ S0 with la := la' }.kvs c)) ∧ TabAt Hi c ks' T' ∧ ks'.length ≤ S0.ks.length + (i + 1) ∧ (∀ o, S0.neu off ns.length o → o < off + ((i + 1 : Nat) : Int) → T' o = ns[(o - off).toNat]?) ∧ (∀ o, ¬ (S0.neu off ns.length o ∧ o < off + ((i + 1 : Nat) : Int)) → T' o = S0.T o) ∧
          (((∀ o, S0.neu off ns.length o → ¬ o < off + ((i + 1 : Nat) : Int)) ∧ la' = S0.la ∧ cnt f off (i + 1) = 0) ∨ (S0.neu off ns.length la' ∧ la' < off + ((i + 1 : Nat) : Int) ∧ (∀ o, S0.neu off ns.length o → la' ≤ o) ∧ 0 < cnt f off (i + 1))) := fun no => by
        have nf : ¬ f (off + i) = true := fun z => no ((hf _).mp z)
        rw [if_neg nf, Int.add_zero] at cs
        have ne : ∀ o, S0.neu off ns.length o → o < off + ((i + 1 : Nat) : Int) → o < off + i := fun o n z => by
          by_cases e : o = off + i
          · subst e; exact absurd n no
          · omega
        refine ⟨ks, T, la, _, _, by rw [cs], ci, hqi, tai, by omega, fun o n z => t1 o n (ne o n z), fun o z => t0 o fun y => z ⟨y.1, by omega⟩, ?_⟩
        rw [cs]
        rcases hla with ⟨a1, a2, a3⟩ | ⟨a1, a2, a3, a4⟩
        · exact .inl ⟨fun o n z => a1 o n (ne o n z), a2, a3⟩
        · exact .inr ⟨a1, by omega, a3, a4⟩
      have Ti : T (off + i) = S0.T (off + i) := t0 _ fun z => by omega
      o_args
      refine brD (fun c1 => ?_) (fun c1 => ?_)
      · o_args
        refine brD (fun c2 => ?_) (fun c2 => ?_)
        · o_args
          refine x_dnotin ?_
          o_args
          cases hT : S0.T (off + i) with
          | some y =>
            refine ⟨c, _, rfl, dgetT hci ht (Ti.trans hT), false, rfl, ?_⟩
            rw [if_neg (by simp)]
            o_args
            exact same fun n => by have z := n.2.2; rw [hT] at z; cases z
          | none =>
            have n : S0.neu off ns.length (off + i) := ⟨by omega, by omega, hT⟩
            have nf := (hf _).mpr n
            rw [if_pos nf] at cs
            refine ⟨c, _, rfl, dgetT hci ht (Ti.trans hT), true, rfl, ?_⟩
            rw [if_pos rfl]
            o_args
            refine ix_seqA (v := .int ns[i]) (oldA ci) (atI_nat (by rw [List.getElem?_map, List.getElem?_eq_getElem il]; rfl)) ?_
            o_args
            have tz : tk.length = ks.length := by
              have := congrArg List.length hkk
              simpa using this
            refine dputI hci (by omega) fun H2 s2 h2 => ?_
            have c2' : Ch [q, c] Hi H2 := Ch.ofX (by simp) s2 h2
            have q2 := s2 _ _ h.ne hqi
            have tab2 := TabAt.put h2 hkk nd ht (Ti.trans hT)
            refine ⟨fun σ H' => ∃ la', σ = [some (.ref q), some (.int off), some (.ref a), some (.int S0.stop), some (.ref c), some (.int (cnt f off i)), some (.int (i : Int)), some (.int (off + i))] ∧ Ch [q, c] H H' ∧ H' q = some (.dK ({ S0 with la := la' }.kvs c)) ∧ TabAt H' c (ks ++ [off + (i : Int)]) (fun j => if j = off + (i : Int) then some ns[i] else T j) ∧ la' = (if cnt f off i = 0 then off + (i : Int) else la), ?_, ?_⟩
            · o_args
              refine brD (fun c3 => ?_) (fun c3 => ?_)
              · o_args
                refine dput (P := fun H' => ∃ la', ([some (.ref q), some (.int off), some (.ref a), some (.int S0.stop), some (.ref c), some (.int (cnt f off i)), some (.int (i : Int)), some (.int (off + i))] : L2.St) = [some (.ref q), some (.int off), some (.ref a), some (.int S0.stop), some (.ref c), some (.int (cnt f off i)), some (.int (i : Int)), some (.int (off + i))] ∧ Ch [q, c] H H' ∧ H' q = some (.dK ({ S0 with la := la' }.kvs c)) ∧ TabAt H' c (ks ++ [off + (i : Int)]) (fun j => if j = off + (i : Int) then some ns[i] else T j) ∧ la' = (if cnt f off i = 0 then off + (i : Int) else la)) (k := "newest") (v := .int (off + (i : Int))) (kvs' := Sx.kvs { S0 with la := off + (i : Int) } c) q2 (Nat.le_of_ble_eq_true rfl) (by with_unfolding_all rfl) fun H3 s3 h3 => ?_
                have c3' : Ch [q] H2 H3 := Ch.ofX (by simp) s3 h3
                exact ⟨_, rfl, (ci.trans c2').trans (c3'.more (by simp)), h3, tab2.ch c3' (by simpa using h.ne.symm), by rw [if_pos c3]⟩
              · o_args
                exact ⟨la, rfl, ci.trans c2', q2, tab2, by rw [if_neg c3]⟩
            · rintro σ H3 ⟨la', rfl, c3, q3, tab3, e3⟩
              o_args
              refine ⟨_, _, la', _, _, by rw [cs], c3, q3, tab3, by rw [List.length_append]; simp; omega, fun o n' z => ?_, fun o z => ?_, ?_⟩
              · show (if o = off + (i : Int) then some ns[i] else T o) = _
                by_cases e : o = off + i
                · rw [if_pos e, e, show (off + (i : Int) - off).toNat = i by omega, List.getElem?_eq_getElem il]
                · rw [if_neg e]
                  exact t1 o n' (by omega)
              · show (if o = off + (i : Int) then some ns[i] else T o) = _
                by_cases e : o = off + i
                · rw [e] at z
                  exact absurd ⟨n, by omega⟩ z
                · rw [if_neg e]
                  exact t0 o fun y => z ⟨y.1, by omega⟩
              · rw [cs]
                refine .inr ?_
                rcases hla with ⟨a1, a2, a3⟩ | ⟨a1, a2, a3, a4⟩
                · rw [if_pos a3] at e3
                  subst e3
                  exact ⟨n, by omega, fun o n' => by have := a1 o n'; omega, by omega⟩
                · rw [if_neg (by omega)] at e3
                  subst e3
                  exact ⟨a1, by omega, a3, by omega⟩
        · o_args
          exact same fun n => by have := n.2.1; omega
      · o_args
        exact same fun n => by have := n.1; omega
    · rintro σ Hi ⟨ks, T, la, v6, v7, rfl, ci, hqi, tai, kz, t1, t0, hla⟩
      rw [List.length_map, Int.toNat_natCast] at kz t1 t0 hla
      obtain ⟨tk, hci, hkk, nd, ht⟩ := id tai
      have tz : tk.length = ks.length := by
        have := congrArg List.length hkk
        simpa using this
      have nlt : ∀ o, S0.neu off ns.length o → o < off + (ns.length : Nat) := fun o n => by have := n.2.1; omega
      have hT : ∀ o, T o ≠ none ↔ S0.T o ≠ none ∨ S0.neu off ns.length o := fun o => by
        by_cases n : S0.neu off ns.length o
        · rw [t1 o n (nlt o n), List.getElem?_eq_getElem (by have := n.1; have := nlt o n; omega)]
          exact ⟨fun _ => .inr n, fun _ => nofun⟩
        · rw [t0 o fun z => n z.1]
          exact ⟨.inl, fun z => z.resolve_right n⟩
      o_args
      refine ⟨c, tk, rfl, hci, ?_⟩
      o_args
      refine ⟨by omega, by omega, ?_⟩
      refine for_range (lo := 0) (n := ((tk.length : Nat) : Int).toNat) (fun j σ H' => ∃ nx v6 v7, σ = [some (.ref q), some (.int off), some (.ref a), some (.int S0.stop), some (.ref c), some (.int (cnt f off (ns.map V.int).length)), v6, v7] ∧ Ch [q] Hi H' ∧
        H' q = some (.dK ({ S0 with la := la, nx := nx }.kvs c)) ∧ S0.nx ≤ nx ∧ (∀ o, S0.nx ≤ o → o < nx → T o ≠ none) ∧ (nx = S0.nx + j ∨ T nx = none)) ⟨S0.nx, v6, v7, rfl, Ch.refl, hqi, Int.le_refl _, fun o x y => by omega, .inl (by omega)⟩ ?_ ?_
      · rintro j σ Hj jl ⟨nx, v6, v7, rfl, cj, hqj, n0, n1, n2⟩
        have hcj := cj.at (by simpa using h.ne.symm) hci
        unfold Sx.kvs at hqj
        o_args
        refine x_din ?_
        o_args
        cases hn : T nx with
        | none =>
          refine ⟨c, _, rfl, dgetT hcj ht hn, false, rfl, ?_⟩
          rw [if_neg (by simp)]
          o_args
          exact ⟨nx, _, _, rfl, cj, hqj, n0, n1, .inr hn⟩
        | some y =>
          refine ⟨c, _, rfl, dgetT hcj ht hn, true, rfl, ?_⟩
          rw [if_pos rfl]
          o_args
          refine dput (P := fun H' => ∃ nx v6' v7', ([some (.ref q), some (.int off), some (.ref a), some (.int S0.stop), some (.ref c), some (.int (cnt f off (ns.map V.int).length)), some (.int (0 + (j : Int))), v7] : L2.St) = [some (.ref q), some (.int off), some (.ref a), some (.int S0.stop), some (.ref c), some (.int (cnt f off (ns.map V.int).length)), v6', v7'] ∧ Ch [q] Hi H' ∧
            H' q = some (.dK ({ S0 with la := la, nx := nx }.kvs c)) ∧ S0.nx ≤ nx ∧ (∀ o, S0.nx ≤ o → o < nx → T o ≠ none) ∧ (nx = S0.nx + ((j + 1 : Nat) : Int) ∨ T nx = none)) (k := "next") (v := .int (nx + 1)) (kvs' := Sx.kvs { S0 with la := la, nx := nx + 1 } c) hqj (Nat.le_of_ble_eq_true rfl) (by with_unfolding_all rfl) fun H3 s3 h3 => ?_
          refine ⟨nx + 1, _, _, rfl, cj.trans (Ch.ofX (by simp) s3 h3), h3, by omega, fun o x y => ?_, .inl ?_⟩
          · by_cases e : o = nx
            · rw [e, hn]; exact nofun
            · exact n1 o x (by omega)
          · rcases n2 with n2 | n2
            · omega
            · rw [hn] at n2; cases n2
      · rintro σ Hj ⟨nx, v6, v7, rfl, cj, hqj, n0, n1, n2⟩
        have hcj := cj.at (by simpa using h.ne.symm) hci
        have nn : T nx = none := by
          rcases n2 with n2 | n2
          · cases hn : T nx with
            | none => rfl
            | some y =>
              exfalso
              have := nodup_le (l := (List.range (ks.length + 1)).map fun i : Nat => S0.nx + (i : Int)) (m := ks) (by
                rw [List.Nodup, List.pairwise_map]
                exact (List.nodup_range).imp fun {a b} ab e => ab (by omega)) fun o ho => by
                obtain ⟨i, hi, rfl⟩ := List.mem_map.mp ho
                have hi := List.mem_range.mp hi
                refine (tells_keys hkk ht _).mpr ?_
                by_cases e : S0.nx + (i : Int) = nx
                · rw [e, hn]; exact nofun
                · exact n1 _ (by omega) (by omega)
              rw [List.length_map, List.length_range] at this
              omega
          · exact n2
        o_args
        rw [List.length_map]
        refine k { S0 with nx := nx, la := la, ks := ks, T := T } _ Hj ⟨rfl, rfl, rfl, rfl, by simpa using kz, fun o n => t1 o n (nlt o n), fun o n => t0 o fun z => n z.1, n0, fun o x y => (hT o).mp (n1 o x y), fun z => (hT nx).mpr z nn, ?_, by rw [ef]⟩ ⟨hqj, ⟨tk, hcj, hkk, nd, ht⟩, h.ne⟩ (ci.trans (cj.more (by simp)))
        rcases hla with ⟨a1, a2, a3⟩ | ⟨a1, a2, a3, a4⟩
        · exact .inl ⟨fun o n => a1 o n (nlt o n), a2⟩
        · exact .inr ⟨a1, a3⟩
/-- the data of a list of pairs -/
def pData (rs : List Run) : PyData := .list (rs.map fun r => .tuple [.int r.1, .int r.2])
theorem dp_pairs {K : PySem.W.Frag} {H : Hp} : ∀ {ts : List Addr} {rs : List Run}, Tups H ts rs → DpAll K H (ts.map V.ref) (rs.map fun r => .tuple [.int r.1, .int r.2])
  | [], [], _ => .nil
  | [], _ :: _, h => nomatch h.1
  | _ :: _, [], h => nomatch h.1
  | t :: ts, r :: rs, h => .cons (.tup (SqT.of (h.2 0 t r rfl rfl)) (.cons (.int _) (.cons (.int _) .nil))) (dp_pairs ⟨Nat.succ.inj h.1, fun i a b h1 h2 => h.2 (i + 1) a b h1 h2⟩)
theorem lay_pairs : ∀ rs : List Run, PyData.canLayAll0 (rs.map fun r => .tuple [.int r.1, .int r.2]) = true ∧ PyData.depthAll (rs.map fun r => .tuple [.int r.1, .int r.2]) ≤ 1
  | [] => ⟨by simp only [List.map_nil, PyData.canLayAll0], by simp only [List.map_nil, PyData.depthAll]; decide⟩
  | r :: rs => by
    obtain ⟨h1, h2⟩ := lay_pairs rs
    refine ⟨by simp only [List.map_cons, PyData.canLayAll0, PyData.canLay0, h1, Bool.and_self], ?_⟩
    rw [List.map_cons]
    unfold PyData.depthAll
    exact Nat.max_le.mpr ⟨by simp [PyData.depth, PyData.depthAll], h2⟩
theorem lay_pd (rs : List Run) : PySem.SeqAt.shaped (pData rs) = true := by
  obtain ⟨h1, h2⟩ := lay_pairs rs
  have e : PyData.depthAll (rs.map fun r => .tuple [.int r.1, .int r.2]) = 0 ∨ PyData.depthAll (rs.map fun r => .tuple [.int r.1, .int r.2]) = 1 := by
    generalize PyData.depthAll _ = n at h2
    omega
  unfold PySem.SeqAt.shaped pData
  rcases e with e | e
  · simp only [PyData.canLay0, PyData.depth, h1, e]
    decide
  · simp only [PyData.canLay0, PyData.depth, h1, e]
    decide
/-- a list of pairs against an empty one -/
theorem nePairs {K : PySem.W.Frag} {H : Hp} {Q : VK} {l m : Addr} {ts : List Addr} {rs : List Run} (h : RunsL l ts rs H) (g : H m = some (.lst [])) (q : Q (.bl (!decide (rs = []))) H) : rNeD K (.ref l) (.ref m) H Q :=
  ⟨_, .list [], .lst (SqL.of h.1) (dp_pairs h.2), .lst (SqL.of g) .nil, lay_pd rs, by decide +kernel, by
    rw [show PyData.eqv (.list (rs.map fun r => .tuple [.int r.1, .int r.2])) (.list []) = decide (rs = []) by
      simp only [PyData.eqv]
      cases rs with
      | nil => simp [PyData.eqvAll]
      | cons r rs => simp [PyData.eqvAll]]
    exact q⟩
theorem room_u65 {k : Nat} {A A' : Around} (r : Room k A) (e : A'.units = A.units := by rfl) : A'.units + 65 < cLine := by have := r.un; rw [e]; omega
/-! ### the law's runs -/
def toldOf (rs : List Run) (la : Int) : List Run := (match rs.find? fun r : Run => decide (r.1 ≤ la ∧ la < r.2) with
  | none => rs
  | some r => r :: rs.filter fun q => !decide (q = r)).take 3
theorem filt1 {la : Int} : ∀ {rs : List Run}, Nrm rs → rs.filter (fun r : Run => decide (r.1 ≤ la ∧ la < r.2)) = (rs.find? fun r : Run => decide (r.1 ≤ la ∧ la < r.2)).toList
  | [], _ => rfl
  | r :: rs, N => by
    obtain ⟨n1, n2, n3⟩ := Nrm.cons.mp N
    by_cases c : r.1 ≤ la ∧ la < r.2
    · rw [List.filter_cons_of_pos (p := fun r : Run => decide (r.1 ≤ la ∧ la < r.2)) (decide_eq_true c), List.find?_cons_of_pos (p := fun r : Run => decide (r.1 ≤ la ∧ la < r.2)) (decide_eq_true c), List.filter_eq_nil_iff.mpr fun q hq => by
        have := n2 q hq
        rw [decide_eq_true_iff]
        omega]
      rfl
    · rw [List.filter_cons_of_neg (p := fun r : Run => decide (r.1 ≤ la ∧ la < r.2)) (by rw [decide_eq_true_iff]; exact c), List.find?_cons_of_neg (p := fun r : Run => decide (r.1 ≤ la ∧ la < r.2)) (by rw [decide_eq_true_iff]; exact c), filt1 n3]
theorem toldOf_eq {rs : List Run} {la : Int} (N : Nrm rs) : (rs.filter (fun r : Run => decide (r.1 ≤ la ∧ la < r.2)) ++ rs.filter fun q => !(rs.filter fun r : Run => decide (r.1 ≤ la ∧ la < r.2)).any fun z => decide (z = q)).take 3 = toldOf rs la := by
  unfold toldOf
  rw [filt1 N]
  cases rs.find? fun r : Run => decide (r.1 ≤ la ∧ la < r.2) with
  | none =>
    show (([] : List Run) ++ rs.filter fun _ => true).take 3 = rs.take 3
    rw [List.nil_append, List.filter_eq_self.mpr fun _ _ => rfl]
  | some r =>
    simp only [Option.toList_some, List.any_cons, List.any_nil, Bool.or_false, List.singleton_append, eq_comm]
theorem lc_at {K : PySem.W.Frag} {te tel : TE} {g : TG} {tt : TT} {js : List Nat} {σ : L2.St} {H : Hp} {Q : VK} (q : te σ H fun x H1 => tLc (iList K fun _ H R => R x H) g tt tel js σ H1 Q) : tLc (iList K te) g tt tel js σ H Q := q
theorem notInRuns {K : PySem.W.Frag} {H : Hp} {Q : VK} {t m : Addr} {us : List Addr} {r : Run} {ns : List Run} (h : H t = some (.tup [.int r.1, .int r.2])) (g : RunsL m us ns H) (k : Q (.bl (!ns.any fun z => decide (z = r))) H) : rNotInD K (.ref t) (.ref m) H Q :=
  ⟨_, _, dp_run h, .lst (SqL.of g.1) (dp_pairs g.2), lay_run r, lay_pd ns, by
    rw [show ((ns.map fun r => PyData.tuple [.int r.1, .int r.2]).any fun z => PyData.eqv z (.tuple [.int r.1, .int r.2])) = ns.any fun z => decide (z = r) by
      rw [List.any_map]
      congr 1
      funext z
      show PyData.eqv (.tuple [.int z.1, .int z.2]) (.tuple [.int r.1, .int r.2]) = _
      simp only [PyData.eqv, PyData.eqvAll, Bool.and_true]
      rw [Bool.eq_iff_iff]
      simp [Prod.ext_iff]]
    exact k⟩
def sp__law_runs (K : PySem.W.Frag) : Sp := fun vs H Q _ => ∃ (q c : Addr) (S : Sx) (rs : List Run), vs = [.ref q] ∧ StAt H q c S ∧ S.ks.length ≤ 10000 ∧ Nrm rs ∧ (∀ o, Mem o rs ↔ S.T o ≠ none ∧ S.nx < o) ∧ ∀ l ts H', H l = none → Same H H' → RunsL l ts (toldOf rs S.la) H' → Q (.ref l) H'
set_option maxHeartbeats 0 in
theorem ok__law_runs (T : Txt K mg) : FnOk P w K mg base CX0 1 T.a__law_runs T.fd__law_runs ["state"] (sp__law_runs K) := by
  have S := sc__law_runs
  refine T.F__law_runs.ok S (fun vs H Q E h => ?_) (fun cdv A outer s H vs Q E hr h => ?_)
  · obtain ⟨q, c, S, rs, rfl, _⟩ := h
    rfl
  · obtain ⟨q, c, S0, rs, rfl, h, hz, N, mem, k⟩ := h
    have hq := h.sq
    unfold Sx.kvs at hq
    obtain ⟨tk, hc, hkk, nd, ht⟩ := id h.sc
    refine ⟨_, (pss_cons (ps_set (i := 1) S.nd rfl (Or.inl rfl) (pe_lst pa_nil))
      (pss_cons (ps_for PassesOwn.never rfl (pi_list (pe_callB (id := "sorted") cr_sortedI (by rfl) T.b_sorted (by decide +kernel) (pa_cons (pe_lc (own := [("place", 5)]) (g := gName 5) rfl S.nd (pi_list (pe_callTy (T := "list") (call_list_dK rfl) (by rfl) T.b_list (by decide +kernel) (pa_cons (pe_dget (room_u1 hr) (pv 0) pe_str (fun _ _ => rfl)) pa_nil))) (blkOk_by (N := ["state", "found", "offset", "newest", "pair", "place"]) (sc := defScope s__law_runs) (by decide +kernel)) (fun _ _ _ _ _ => pg_name (i := 5) S.nd rfl (Or.inl rfl)) (fun _ _ _ _ _ => pts_one (pt_cmpR op_gt (pv 5) (pe_dget (room_u1 hr) (pv 0) pe_str (fun _ _ => rfl)) (nomark _))) (fun _ _ _ _ _ => (pv 5))) pa_nil))) (pg_name (i := 2) S.nd rfl (Or.inl rfl)) (pss_one (ps_if (PW.pt (pw_and (pt_cmpR (show OpR _ _ (rNeD K) from op_neD hr.units) (pv 1) (pe_lst pa_nil) (nomark _)) (pw_and1 (pt_cmpR op_eq (pe_ix ix_tup (pe_ix ix_list (pv 1) (pe_un un_neg pe_int) (fun _ _ => rfl)) pe_int (fun _ _ => rfl)) (pv 2) (nomark _))))) (pss_one (ps_asg (pe_tup (pa_cons (pe_ix ix_tup (pe_ix ix_list (pv 1) (pe_un un_neg pe_int) (fun _ _ => rfl)) pe_int (fun _ _ => rfl)) (pa_cons (pe_op op_add (pv 2) pe_int) pa_nil))) (pg_sub (pv 1) (pe_un un_neg pe_int) set_list))) (pss_one (ps_expr (pe_bm PySem.F.plainAttrs_list PySem.F.slot_list_append PySem.F.type_list_append mt_append (pv 1) (pa_cons (pe_tup (pa_cons (pv 2) (pa_cons (pe_op op_add (pv 2) pe_int) pa_nil))) pa_nil)))))))
      (pss_cons (ps_set (i := 3) S.nd rfl (Or.inr rfl) (pe_lc (own := [("pair", 4)]) (g := gName 4) rfl S.nd (pi_list (pv 1)) (blkOk_by (N := ["state", "found", "offset", "newest", "pair", "place"]) (sc := defScope s__law_runs) (by decide +kernel)) (fun _ _ _ _ _ => pg_name (i := 4) S.nd rfl (Or.inl rfl)) (fun _ _ _ _ _ => pts_one (pt_chain op_le op_lt (pe_ix (show IxR _ (rIxT K) from ix_tup) (pv 4) pe_int (fun _ _ => rfl)) (pe_dget (room_u1 hr) (pv 0) pe_str (fun _ _ => rfl)) (pe_ix (show IxR _ (rIxT K) from ix_tup) (pv 4) pe_int (fun _ _ => rfl)))) (fun _ _ _ _ _ => (pv 4))))
      (pss_one (ps_ret (pe_slice sl_list (pe_op op_cat (pv 3) (pe_lc (own := [("pair", 4)]) (g := gName 4) rfl S.nd (pi_list (pv 1)) (blkOk_by (N := ["state", "found", "offset", "newest", "pair", "place"]) (sc := defScope s__law_runs) (by decide +kernel)) (fun _ _ _ _ _ => pg_name (i := 4) S.nd rfl (Or.inl rfl)) (fun _ _ _ _ _ => pts_one (pt_cmpR (show OpR _ _ (rNotInD K) from op_notInD (room_u65 hr)) (pv 4) (pv 3) rfl)) (fun _ _ _ _ _ => (pv 4)))) po_none (po_some pe_int))))))), ?_⟩
    refine st__law_runs ?_
    o_args
    refine newList (by simp) fun f H1 nf s1 h1 => ?_
    have hq1 := s1 _ _ hq
    have hc1 := s1 _ _ hc
    o_args
    refine lc_at ?_
    o_args
    refine ⟨c, tk, rfl, hc1, fun l0 nl0 => ?_⟩
    have s2 := Same.new (o := .lst (tk.map fun kv => kV kv.1)) nl0
    have e0 : (tk.map fun kv => kV kv.1) = S0.ks.map V.int := by
      have := congrArg (List.map kV) hkk
      rw [List.map_map, List.map_map] at this
      exact this
    rw [e0] at s2 ⊢
    have h2 : upd H1 l0 (.lst (S0.ks.map V.int)) l0 = some (.lst (S0.ks.map V.int)) := upd_same
    generalize upd H1 l0 (.lst (S0.ks.map V.int)) = H2 at s2 h2
    have hq2 := s2 _ _ hq1
    o_args
    refine lcG (a := l0) (xs := S0.ks.map V.int) (fun D i vs H' => SameX D H2 H' ∧ vs = ((S0.ks.take i).filter fun o => decide (S0.nx < o)).map V.int) (fun R h => h) (SqL.of h2) (by rw [List.length_map]; omega) (fun D _ => ⟨SameX.upd, rfl⟩) (fun D i vs H' hD hP => SqL.of (hP.1 _ _ (ne_of_none h2 hD) h2)) (fun D i v vs H' hD hv hle h1 hP => ?_) (fun D vs H' hD h3 hle hP => ?_)
    · obtain ⟨s, e1⟩ := hP
      have il := getq_lt hv
      rw [List.length_map] at il
      rw [List.getElem?_map, List.getElem?_eq_getElem il] at hv
      cases hv
      have tk' : S0.ks.take (i + 1) = S0.ks.take i ++ [S0.ks[i]] := by rw [List.take_succ, List.getElem?_eq_getElem il]; rfl
      have hq' := s _ _ (ne_of_none hq2 hD) hq2
      generalize S0.ks[i] = o at tk'
      intro Y N' hY hN
      o_args
      refine ⟨fun cc => ?_, fun cc => ?_⟩
      · have cc := of_decide_eq_true cc
        o_args
        exact hY _ H' h1 ⟨s.upd', by rw [e1, tk', List.filter_append, List.filter_cons_of_pos (by rw [decide_eq_true_iff]; exact cc)]; simp⟩
      · have cc := of_decide_eq_false cc
        exact hN _ h1 ⟨s, by rw [e1, tk', List.filter_append, List.filter_cons_of_neg (by rw [decide_eq_true_iff]; exact cc)]; simp⟩
    obtain ⟨s, e1⟩ := hP
    rw [List.length_map, List.take_length] at e1
    subst e1
    have S3 := Same.ofX hD s
    o_args
    refine ⟨D, _, rfl, SqL.of h3, fun es p hp so np => ?_⟩
    have S4 : Same H' (upd H' p (.lst (es.map V.int))) := Same.new np
    have h4 : upd H' p (.lst (es.map V.int)) p = some (.lst (es.map V.int)) := upd_same
    generalize upd H' p (.lst (es.map V.int)) = H4 at S4 h4
    have nde : es.Nodup := hp.nodup_iff.mpr (nd.filter _)
    have eme : ∀ o, o ∈ es ↔ S0.T o ≠ none ∧ S0.nx < o := fun o => by
      rw [hp.mem_iff, List.mem_filter, decide_eq_true_iff, tells_keys hkk ht o]
    have el : es.length ≤ S0.ks.length := by
      rw [hp.length_eq]
      exact List.length_filter_le _ _
    have S14 := (s2.trans S3).trans S4
    have hf4 := S14 _ _ h1
    have hq4 := S14 _ _ hq1
    have pf : p ≠ f := fun z => by rw [z, S3 _ _ (s2 _ _ h1)] at np; cases np
    have qf : q ≠ f := fun z => by rw [z, nf] at hq; cases hq
    have oldN : ∀ {b}, H4 b = none → H b = none := fun nb => none_of s1 (none_of S14 nb)
    o_args
    have pw := List.pairwise_iff_getElem.mp so
    have nw := List.pairwise_iff_getElem.mp nde
    refine overL (SqL.of h4) (for_list (K := K) (a := p) (xs := es.map V.int) (fun i σ H' => ∃ v ts fr, σ = [some (.ref q), some (.ref f), v, none, none, none] ∧ Ch [f] H4 H' ∧ RunsL f ts fr H' ∧ (∀ t ∈ ts, H t = none) ∧ fr.length ≤ i ∧ Nrm fr ∧ (∀ o, Mem o fr ↔ o ∈ es.take i)) ⟨none, [], [], rfl, Ch.refl, ⟨hf4, .nil⟩, (fun _ h => nomatch h), Nat.le_refl _, Nrm.nil, fun o => ⟨fun z => absurd z Mem.nil, fun z => by rw [List.take_zero] at z; cases z⟩⟩ (fun i σ H' _ ⟨_, _, _, _, c, _⟩ => SqL.of (c.at (by simpa using pf) h4)) ?_ ?_)
    · rintro i x σ Hi hx ⟨v, ts, fr, rfl, ci, ri, ni, zi, Ni, mi⟩
      have il := getq_lt hx
      rw [List.length_map] at il
      rw [List.getElem?_map, List.getElem?_eq_getElem il] at hx
      cases hx
      have tk' : es.take (i + 1) = es.take i ++ [es[i]] := by rw [List.take_succ, List.getElem?_eq_getElem il]; rfl
      have lt : ∀ o ∈ es.take i, o < es[i] := fun o ho => by
        obtain ⟨j, hj⟩ := List.mem_iff_getElem?.mp ho
        have jl := getq_lt hj
        rw [List.length_take] at jl
        rw [List.getElem?_take, if_pos (by omega), List.getElem?_eq_getElem (by omega)] at hj
        cases hj
        have a := pw j i (by omega) il (by omega)
        have b := nw j i (by omega) il (by omega)
        omega
      generalize es[i] = x at tk' lt
      have hi : ∀ r ∈ fr, r.2 ≤ x := fun r hr => by
        have a := Ni.1 r hr
        have := lt (r.2 - 1) ((mi _).mp ⟨r, hr, by omega, by omega⟩)
        omega
      have rl := ri.len
      have new : ∀ {H5 u}, Ch [f] Hi H5 → H5 u = none → H u = none := fun c nu => oldN ((ci.trans c).none nu)
      have fin : ∀ (H5 : Hp) (ts' : List Addr) (fr' : List Run) (v' : Option V), Ch [f] Hi H5 → RunsL f ts' fr' H5 → (∀ t ∈ ts', H t = none) → fr'.length ≤ fr.length + 1 → Nrm fr' → (∀ o, Mem o fr' ↔ Mem o fr ∨ o = x) → ∃ v ts fr, ([some (.ref q), some (.ref f), v', none, none, none] : L2.St) = [some (.ref q), some (.ref f), v, none, none, none] ∧ Ch [f] H4 H5 ∧ RunsL f ts fr H5 ∧ (∀ t ∈ ts, H t = none) ∧ fr.length ≤ i + 1 ∧ Nrm fr ∧ (∀ o, Mem o fr ↔ o ∈ es.take (i + 1)) :=
        fun H5 ts' fr' v' c r n z N m => ⟨v', ts', fr', rfl, ci.trans c, r, n, by omega, N, fun o => by rw [m o, mi o, tk', List.mem_append, List.mem_singleton]⟩
      have push : ∀ (H5 : Hp) (u : Addr) (v' : Option V), Ch [f] Hi H5 → H5 u = some (.tup [.int x, .int (x + 1)]) → u ≠ f → H u = none → H5 f = some (.lst (ts.map V.ref ++ [.ref u])) → (∀ r ∈ fr, r.2 < x) → ∃ v ts fr, ([some (.ref q), some (.ref f), v', none, none, none] : L2.St) = [some (.ref q), some (.ref f), v, none, none, none] ∧ Ch [f] H4 H5 ∧ RunsL f ts fr H5 ∧ (∀ t ∈ ts, H t = none) ∧ fr.length ≤ i + 1 ∧ Nrm fr ∧ (∀ o, Mem o fr ↔ o ∈ es.take (i + 1)) :=
        fun H5 u v' c hu uf nu hf5 lt' => fin H5 (ts ++ [u]) (fr ++ [(x, x + 1)]) v' c ⟨by rw [hf5, List.map_append]; rfl, (ri.2.ch c fun t ht z => (ri.2.lst_ne ri.1 t ht) (List.mem_singleton.mp z)).snoc hu⟩ (fun t ht => by
          rcases List.mem_append.mp ht with ht | ht
          · exact ni t ht
          · rw [List.mem_singleton.mp ht]; exact nu) (by simp) (Nrm.snoc.mpr ⟨Ni, by show x < x + 1; omega, lt'⟩) fun o => by
            rw [Mem.app, Mem.one]
            exact or_congr Iff.rfl ⟨fun z => by have := z.1; have := z.2; simp only at *; omega, fun z => by subst z; exact ⟨Int.le_refl _, by show o < o + 1; omega⟩⟩
      o_args
      refine newList (by simp) fun w H5 nw s5 h5 => ?_
      o_args
      have r5 := ri.same s5
      have c5 : Ch [f] Hi H5 := Ch.of s5
      refine nePairs r5 h5 ?_
      rcases snoc_or fr with e0 | ⟨ra, r, e0⟩
      · subst e0
        have e1 : ts = [] := List.eq_nil_of_length_eq_zero rl
        subst e1
        refine ⟨false, rfl, ?_⟩
        rw [if_neg (by simp)]
        o_args
        refine ⟨isList r5.1, ?_⟩
        o_args
        refine newTup (by simp) fun u H6 nu s6 h6 => ?_
        o_args
        refine appList (s6 _ _ r5.1) (by simp) fun H7 s7 h7 => ?_
        have uf : u ≠ f := (ne_of_none r5.1 nu).symm
        o_args
        exact push H7 u _ ((c5.trans (Ch.of s6)).trans (Ch.ofX (by simp) s7 h7)) (s7 _ _ uf h6) uf (new c5 nu) h7 (fun _ h => nomatch h)
      · subst e0
        obtain ⟨ta, tr, rfl⟩ : ∃ a x, ts = a ++ [x] := (snoc_or ts).resolve_left fun z => by rw [z] at rl; simp at rl
        have hl5 : H5 f = some (.lst (ta.map V.ref ++ [V.ref tr])) := by rw [r5.1, List.map_append]; rfl
        obtain ⟨Ti, Tr⟩ := r5.2.init
        refine ⟨true, by simp, ?_⟩
        rw [if_pos rfl]
        o_args
        refine ixLast hl5 ?_
        o_args
        refine brD (fun cc => ?_) (fun cc => ?_)
        · o_args
          refine ixLast hl5 ?_
          o_args
          refine newTup (by simp) fun u H6 nu s6 h6 => ?_
          o_args
          refine setLast (s6 _ _ hl5) fun H7 s7 h7 => ?_
          have uf : u ≠ f := (ne_of_none r5.1 nu).symm
          have Ti7 : Tups H7 ta ra := (Ti.same s6).ch (Ch.ofX (a := f) (G := [f]) (by simp) s7 h7) fun t ht z => (r5.2.lst_ne r5.1 t (List.mem_append_left _ ht)) (List.mem_singleton.mp z)
          obtain ⟨N1, N2, N3⟩ := Nrm.snoc.mp Ni
          o_args
          refine fin H7 (ta ++ [u]) (ra ++ [(r.1, x + 1)]) _ ((c5.trans (Ch.of s6)).trans (Ch.ofX (by simp) s7 h7)) ⟨by rw [h7, List.map_append]; rfl, Ti7.snoc (r := (r.1, x + 1)) (s7 _ _ uf h6)⟩ (fun t ht => ?_) (by simp) (Nrm.snoc.mpr ⟨N1, by show r.1 < x + 1; omega, N3⟩) fun o => ?_
          · rcases List.mem_append.mp ht with ht | ht
            · exact ni t (List.mem_append_left _ ht)
            · rw [List.mem_singleton.mp ht]; exact new c5 nu
          · rw [Mem.app, Mem.app, Mem.one, Mem.one, or_assoc]
            refine or_congr Iff.rfl ?_
            show r.1 ≤ o ∧ o < x + 1 ↔ _
            omega
        · o_args
          refine ⟨isList r5.1, ?_⟩
          o_args
          refine newTup (by simp) fun u H6 nu s6 h6 => ?_
          o_args
          refine appList (s6 _ _ r5.1) (by have rl2 := rl; simp at rl2 zi ⊢; omega) fun H7 s7 h7 => ?_
          have uf : u ≠ f := (ne_of_none r5.1 nu).symm
          o_args
          refine push H7 u _ ((c5.trans (Ch.of s6)).trans (Ch.ofX (by simp) s7 h7)) (s7 _ _ uf h6) uf (new c5 nu) h7 fun r' hr' => ?_
          have a := Ni.le_last r' hr'
          have b := hi r (by simp)
          omega
    · rintro σ Hi ⟨v, ts, fr, rfl, ci, ri, ni, zi, Ni, mi⟩
      rw [List.length_map, List.take_length] at mi
      rw [List.length_map] at zi
      have ef : fr = rs := Ni.uniq N fun o => by rw [mi o, eme o, mem o]
      subst ef
      have hqi := ci.at (by simpa using qf) hq4
      have rl := ri.len
      o_args
      refine lcG (a := f) (xs := ts.map V.ref) (fun D i vs H' => SameX D Hi H' ∧ ∃ us, vs = us.map V.ref ∧ Tups H' us ((fr.take i).filter fun r : Run => decide (r.1 ≤ S0.la ∧ S0.la < r.2)) ∧ D ∉ us) (fun R h => ⟨_, rfl, h⟩) (SqL.of ri.1) (by rw [List.length_map]; omega) (fun D _ => ⟨SameX.upd, [], rfl, Tups.nil, by simp⟩) (fun D i vs H' hD hP => SqL.of (hP.1 _ _ (ne_of_none ri.1 hD) ri.1)) (fun D i v vs H' hD hv hle h1 hP => ?_) (fun D vs H' hD h1 hle hP => ?_)
      · obtain ⟨s, us, e1, T1, nu⟩ := hP
        have il := getq_lt hv
        rw [List.length_map, ri.len] at il
        obtain ⟨u, _, e2, hu⟩ := ri.at (List.getElem?_eq_getElem il)
        rw [e2] at hv
        cases hv
        have tk' : fr.take (i + 1) = fr.take i ++ [fr[i]] := by rw [List.take_succ, List.getElem?_eq_getElem il]; rfl
        generalize fr[i] = r at tk' hu
        have hu' := s _ _ (ne_of_none hu hD) hu
        have hq' := s _ _ (ne_of_none hqi hD) hqi
        intro Y N' hY hN
        have no : ¬ (r.1 ≤ S0.la ∧ S0.la < r.2) → N' H' := fun cc => hN _ h1 ⟨s, us, e1, by
          rw [tk', List.filter_append, List.filter_cons_of_neg (by rw [decide_eq_true_iff]; exact cc), List.filter_nil, List.append_nil]
          exact T1, nu⟩
        o_args
        refine brD (fun c1 => ?_) (fun c1 => ?_)
        · o_args
          refine ⟨fun c2 => ?_, fun c2 => ?_⟩
          · have c2 := of_decide_eq_true c2
            o_args
            have ud : u ≠ D := ne_of_none hu hD
            refine hY _ H' h1 ⟨s.upd', us ++ [u], by rw [e1, List.map_append]; rfl, ?_, by simp [nu, ud.symm]⟩
            rw [tk', List.filter_append, List.filter_cons_of_pos (by rw [decide_eq_true_iff]; exact ⟨c1, c2⟩), List.filter_nil]
            have sx : SameX D H' (upd H' D (.lst (vs ++ [.ref u]))) := SameX.upd
            exact (T1.ch (Ch.ofX (a := D) (G := [D]) (by simp) sx upd_same) fun t ht z => nu (by rw [← List.mem_singleton.mp z]; exact ht)).snoc (sx _ _ ud hu')
          · exact no fun z => of_decide_eq_false c2 z.2
        · refine ⟨false, rfl, ?_⟩
          rw [if_neg (by simp)]
          exact no fun z => c1 z.1
      · obtain ⟨s, us, e1, T1, nu⟩ := hP
        rw [List.length_map, ri.len, List.take_length] at T1
        subst e1
        have S6 := Same.ofX hD s
        have r6 := ri.same S6
        have w6 : RunsL D us (fr.filter fun r : Run => decide (r.1 ≤ S0.la ∧ S0.la < r.2)) H' := ⟨h1, T1⟩
        o_args
        refine lcG (a := f) (xs := ts.map V.ref) (fun D2 i vs H2 => SameX D2 H' H2 ∧ ∃ us, vs = us.map V.ref ∧ Tups H2 us ((fr.take i).filter fun q => !(fr.filter fun r : Run => decide (r.1 ≤ S0.la ∧ S0.la < r.2)).any fun z => decide (z = q)) ∧ D2 ∉ us) (fun R h => ⟨_, rfl, h⟩) (SqL.of r6.1) (by rw [List.length_map]; omega) (fun D2 _ => ⟨SameX.upd, [], rfl, Tups.nil, by simp⟩) (fun D2 i vs H2 hD2 hP => SqL.of (hP.1 _ _ (ne_of_none r6.1 hD2) r6.1)) (fun D2 i v vs H2 hD2 hv hle h2 hP => ?_) (fun D2 vs H2 hD2 h2 hle hP => ?_)
        · obtain ⟨s', us', e1, T2, nu'⟩ := hP
          have il := getq_lt hv
          rw [List.length_map, ri.len] at il
          obtain ⟨u, _, e2, hu⟩ := r6.at (List.getElem?_eq_getElem il)
          rw [e2] at hv
          cases hv
          have tk' : fr.take (i + 1) = fr.take i ++ [fr[i]] := by rw [List.take_succ, List.getElem?_eq_getElem il]; rfl
          generalize fr[i] = r at tk' hu
          have hu' := s' _ _ (ne_of_none hu hD2) hu
          have w2 : RunsL D us (fr.filter fun r : Run => decide (r.1 ≤ S0.la ∧ S0.la < r.2)) H2 := w6.ch (Ch.ofX (a := D2) (G := [D2]) (by simp) s' h2) (fun z => ne_of_none w6.1 hD2 (List.mem_singleton.mp z)) fun t ht z => by
            obtain ⟨j, hj⟩ := List.mem_iff_getElem?.mp ht
            have jl := getq_lt hj
            have := w6.2.2 j t _ hj (List.getElem?_eq_getElem (by have := w6.len; omega))
            rw [List.mem_singleton.mp z, hD2] at this
            cases this
          intro Y N' hY hN
          o_args
          refine notInRuns hu' w2 ?_
          cases bb : (!(fr.filter fun r : Run => decide (r.1 ≤ S0.la ∧ S0.la < r.2)).any fun z => decide (z = r)) with
          | false =>
            refine ⟨false, rfl, ?_⟩
            rw [if_neg (by simp)]
            refine hN _ h2 ⟨s', us', e1, ?_, nu'⟩
            rw [tk', List.filter_append, List.filter_cons_of_neg (by rw [bb]; simp), List.filter_nil, List.append_nil]
            exact T2
          | true =>
            refine ⟨true, rfl, ?_⟩
            rw [if_pos rfl]
            o_args
            have ud : u ≠ D2 := ne_of_none hu hD2
            refine hY _ H2 h2 ⟨s'.upd', us' ++ [u], by rw [e1, List.map_append]; rfl, ?_, by simp [nu', ud.symm]⟩
            rw [tk', List.filter_append, List.filter_cons_of_pos (p := fun q : Run => !(fr.filter fun r : Run => decide (r.1 ≤ S0.la ∧ S0.la < r.2)).any fun z => decide (z = q)) bb, List.filter_nil]
            have sx : SameX D2 H2 (upd H2 D2 (.lst (vs ++ [.ref u]))) := SameX.upd
            exact (T2.ch (Ch.ofX (a := D2) (G := [D2]) (by simp) sx upd_same) fun t ht z => nu' (by rw [← List.mem_singleton.mp z]; exact ht)).snoc (sx _ _ ud hu')
        · obtain ⟨s', us', e1, T2, nu'⟩ := hP
          rw [List.length_map, ri.len, List.take_length] at T2
          subst e1
          have S7 := Same.ofX hD2 s'
          have w7 := w6.same S7
          have fl1 := List.length_filter_le (fun r : Run => decide (r.1 ≤ S0.la ∧ S0.la < r.2)) fr
          have fl2 := List.length_filter_le (fun q : Run => !(fr.filter fun r : Run => decide (r.1 ≤ S0.la ∧ S0.la < r.2)).any fun z => decide (z = q)) fr
          have l1 := w7.len
          have l2 := T2.1
          refine catList w7.1 h2 (by rw [List.length_map, List.length_map]; omega) fun z H8 nz s8 h8 => ?_
          o_args
          refine slice3 h8 fun y H9 ny s9 h9 => ?_
          have S5 : Same H Hi := Ch.same (((Ch.of (s1.trans S14)).trans ci).drop nf)
          have S9 := ((S6.trans S7).trans s8).trans s9
          refine k y ((us ++ us').take 3) H9 (none_of S5 (none_of ((S6.trans S7).trans s8) ny)) (S5.trans S9) ⟨by rw [h9, ← List.map_append, List.map_take], ?_⟩
          rw [← toldOf_eq Ni]
          have TA : Tups H9 (us ++ us') ((fr.filter fun r : Run => decide (r.1 ≤ S0.la ∧ S0.la < r.2)) ++ fr.filter fun q => !(fr.filter fun r : Run => decide (r.1 ≤ S0.la ∧ S0.la < r.2)).any fun z => decide (z = q)) := by
            have a := w7.2.same (s8.trans s9)
            have b := T2.same (s8.trans s9)
            refine ⟨by rw [List.length_append, List.length_append, a.1, b.1], fun i t r h1 h2 => ?_⟩
            by_cases c : i < us.length
            · rw [List.getElem?_append_left c] at h1
              rw [List.getElem?_append_left (by omega)] at h2
              exact a.2 i t r h1 h2
            · rw [List.getElem?_append_right (by omega)] at h1
              rw [List.getElem?_append_right (by omega), ← l1] at h2
              exact b.2 _ t r h1 h2
          exact TA.take 3
/-! ### what repr can show -/
structure Atom (d : PyData) : Prop where
  sh : d.showable = true
  nd : d.hasDict = false
  dp : d.depth ≤ 10
  ln : d.shown.length ≤ 2000
theorem lg_small {n : Int} (h : n.natAbs < 2 ^ 60) : n.natAbs.log2 < 1920 := by
  by_cases z : n.natAbs = 0
  · rw [z]
    decide
  · exact Nat.lt_trans ((Nat.log2_lt z).2 h) (by decide)
theorem Atom.int {n : Int} (h : n.natAbs < 2 ^ 60) : Atom (.int n) := ⟨by simp only [PyData.showable, lg_small h, decide_true], rfl, by simp only [PyData.depth]; omega, by
  have := PyProof.Rows.int_text_len_1921 (lg_small h)
  simp only [PyData.shown]
  exact Nat.le_trans this (by decide)⟩
theorem Atom.bl (b : Bool) : Atom (.bool b) := by cases b <;> exact ⟨rfl, rfl, by simp only [PyData.depth]; omega, by decide +kernel⟩
theorem Atom.non : Atom .none := ⟨rfl, rfl, by simp only [PyData.depth]; omega, by decide +kernel⟩
/-- x can be shown -/
def Rpr (K : PySem.W.Frag) (H : Hp) (x : V) : Prop := ∃ d, Dp K H x d ∧ d.showable = true ∧ d.hasDict = false ∧ d.depth ≤ 100 ∧ d.shown.length ≤ sizeLine ∧ (∀ i, d = .int i → i.natAbs.log2 < 1920)
theorem Rpr.int {K : PySem.W.Frag} {H : Hp} {n : Int} (h : n.natAbs < 2 ^ 60) : Rpr K H (.int n) := ⟨_, .int n, (Atom.int h).sh, rfl, Nat.le_trans (Atom.int h).dp (by decide), Nat.le_trans (Atom.int h).ln (by decide), fun i e => by cases e; exact lg_small h⟩
theorem atoms_sh : ∀ {ds : List PyData}, (∀ d ∈ ds, Atom d) → PyData.showableAll ds = true ∧ PyData.hasDictAll ds = false ∧ PyData.depthAll ds ≤ 10 ∧ ((PyData.shownAll ds).map (·.length)).sum ≤ 2000 * ds.length ∧ (PyData.shownAll ds).length = ds.length
  | [], _ => ⟨rfl, rfl, by simp only [PyData.depthAll]; omega, by simp [PyData.shownAll], by simp [PyData.shownAll]⟩
  | d :: ds, h => by
    obtain ⟨h1, h2, h3, h4, h5⟩ := atoms_sh (ds := ds) fun e he => h e (List.mem_cons_of_mem _ he)
    have A := h d List.mem_cons_self
    refine ⟨?_, ?_, ?_, ?_, ?_⟩
    · simp only [PyData.showableAll, A.sh, h1, Bool.and_self]
    · simp only [PyData.hasDictAll, A.nd, h2, Bool.or_self]
    · unfold PyData.depthAll
      exact Nat.max_le.mpr ⟨A.dp, h3⟩
    · have := A.ln
      simp only [PyData.shownAll, List.map_cons, List.sum_cons, List.length_cons]
      omega
    · simp only [PyData.shownAll, List.length_cons, h5]
theorem Rpr.tup {K : PySem.W.Frag} {H : Hp} {t : Addr} {xs : List V} {ds : List PyData} (h : H t = some (.tup xs)) (hd : DpAll K H xs ds) (ha : ∀ d ∈ ds, Atom d) (hl : ds.length ≤ 10) : Rpr K H (.ref t) := by
  obtain ⟨h1, h2, h3, h4, h5⟩ := atoms_sh ha
  refine ⟨.tuple ds, .tup (SqT.of h) hd, by simp only [PyData.showable, h1], by simp only [PyData.hasDict, h2], by simp only [PyData.depth]; omega, ?_, fun i e => nomatch e⟩
  simp only [PyData.shown]
  have := tupleText_len_le (PyData.shownAll ds)
  rw [sizeLine_eq]
  omega
/-- repr of one value twice -/
theorem Rpr.ask {K : PySem.W.Frag} {H : Hp} {x : V} (h : Rpr K H x) : ∃ z : Str, ∀ Q : VK, Q (.str z) H → rReprD K [x] H Q := by
  obtain ⟨d, h1, h2, h3, h4, h5, h6⟩ := h
  exact ⟨d.shown, fun Q q => ⟨x, d, rfl, h1, h2, h3, h4, h5, h6, q⟩⟩
/-! ### what is drawn -/
def sp__law_is_whole (K : PySem.W.Frag) : Sp := fun vs H Q _ => ∃ (x : V) (r : Bool), vs = [x] ∧ IntK K H x r ∧ Q (.bl r) H
theorem ok__law_is_whole (T : Txt K mg) : FnOk P w K mg base CX0 1 T.a__law_is_whole T.fd__law_is_whole ["value"] (sp__law_is_whole K) := by
  have S := sc__law_is_whole
  refine T.F__law_is_whole.ok S (fun vs H Q E h => ?_) (fun cdv A outer s H vs Q E hr h => ?_)
  · obtain ⟨x, r, rfl, _⟩ := h
    rfl
  · obtain ⟨x, r, rfl, ⟨t, i, b, ty, hi, hb, rfl⟩, k⟩ := h
    refine ⟨_, (pss_one (ps_ret (pe_and (pe_callB (id := "isinstance") call_isi (by rfl) T.b_isinstance (by decide +kernel) (pa_cons (pv 0) (pa_cons (pe_bltn (v := .ty "int") (u := .type "int") (by rfl) T.b_int (by decide +kernel) rfl) pa_nil))) (pe_one (pe_not (pe_callB (id := "isinstance") call_isi (by rfl) T.b_isinstance (by decide +kernel) (pa_cons (pv 0) (pa_cons (pe_bltn (v := .ty "bool") (u := .type "bool") (by rfl) T.b_bool (by decide +kernel) rfl) pa_nil)))))))), ?_⟩
    refine ⟨_, rfl, _, _, _, _, i, rfl, .ty _, ty, hi, i, rfl, ?_⟩
    cases i with
    | false => exact iteF k
    | true => exact iteT ⟨_, rfl, _, _, _, _, b, rfl, .ty _, ty, hb, b, rfl, k⟩
def sp__law_limit : Sp := fun vs H Q _ => ∃ (a : Addr) (F : List Addr), vs = [.ref a] ∧ Box a F H ∧ ∀ n H', 1 ≤ n → n ≤ 65535 → Box a F H' → Ch [a] H H' → Q (.int n) H'
theorem ok__law_limit (T : Txt K mg) : FnOk P w K mg base CX0 2 T.a__law_limit T.fd__law_limit ["box"] (sp__law_limit) := by
  have S := sc__law_limit
  refine T.F__law_limit.ok S (fun vs H Q E h => ?_) (fun cdv A outer s H vs Q E hr h => ?_)
  · obtain ⟨a, F, rfl, _⟩ := h
    rfl
  · obtain ⟨a, F, rfl, B, k⟩ := h
    refine ⟨_, (pss_cons (ps_if (pt_cmpR op_eq (pe_call (ok__law_draw T) (hr.mono (by decide)) rfl T.g__law_draw T.F__law_draw.kp T.B__law_draw .nil pass0 (pa_cons (pv 0) (pa_cons pe_int pa_nil))) pe_int (nomark _)) (pss_one (ps_ret (pe_op op_add pe_int (pe_call (ok__law_draw T) (hr.mono (by decide)) rfl T.g__law_draw T.F__law_draw.kp T.B__law_draw .nil pass0 (pa_cons (pv 0) (pa_cons pe_int pa_nil)))))) pss_nil)
      (pss_one (ps_ret (pe_op op_add pe_int (pe_call (ok__law_draw T) (hr.mono (by decide)) rfl T.g__law_draw T.F__law_draw.kp T.B__law_draw .nil pass0 (pa_cons (pv 0) (pa_cons pe_int pa_nil))))))), ?_⟩
    refine st__law_limit ?_
    o_args
    refine ⟨a, F, _, rfl, B, by decide, by decide, fun w H1 w0 w1 B1 c1 => ?_⟩
    o_args
    refine brD (fun q => ?_) (fun q => ?_)
    · o_args
      refine ⟨a, F, _, rfl, B1, by decide, by decide, fun n H2 n0 n1 B2 c2 => ?_⟩
      o_args
      exact k _ H2 (by omega) (by omega) B2 (c1.trans c2)
    · o_args
      refine ⟨a, F, _, rfl, B1, by decide, by decide, fun n H2 n0 n1 B2 c2 => ?_⟩
      o_args
      exact k _ H2 (by omega) (by omega) B2 (c1.trans c2)
/-- a list of ints, drawn one by one -/
theorem lcR {ta : TA} {tel : TE} {σ : L2.St} {H : Hp} {Q : VK} {j : Nat} {n : Int} (P : Addr → List Int → Hp → Prop) (hta : ∀ R : List V → Hp → Prop, R [.int n] H → ta σ H R) (n0 : 0 ≤ n) (n1 : n < 100000) (h0 : ∀ D, H D = none → P D [] (upd H D (.lst [])))
    (hs : ∀ D (i : Nat) ns H', H D = none → (i : Int) < n → H' D = some (.lst (ns.map V.int)) → ns.length = i → P D ns H' → ∀ Y : VK, (∀ x H3, H3 D = some (.lst (ns.map V.int)) → P D (ns ++ [x]) (upd H3 D (.lst ((ns ++ [x]).map V.int))) → Y (.int x) H3) → tel ((σ.set j none).set j (some (.int (0 + (i : Int))))) H' Y)
    (hd : ∀ D ns H', H D = none → H' D = some (.lst (ns.map V.int)) → (ns.length : Int) = n → P D ns H' → Q (.ref D) H') : tLc (iRng1 ta) (gName j) tYes tel [j] σ H Q := by
  refine hta _ ⟨n, rfl, by omega, by omega, fun D hD => lc_range (lo := 0) (n := n.toNat) (fun i H' => ∃ ns : List Int, ns.length = i ∧ H' D = some (.lst (ns.map V.int)) ∧ P D ns H') ⟨[], rfl, upd_same, h0 D hD⟩ ?_ ?_⟩
  · rintro i H' hi ⟨ns, hl, h1, hp⟩
    refine ⟨?_, ?_⟩
    · show ((((σ.set j none).set j (some (V.int (0 + (i : Int))))).set j none) = σ.set j none)
      rw [List.set_set, List.set_set]
    dsimp only [tYes]
    rw [if_pos rfl]
    refine hs D i ns H' hD (by omega) h1 hl hp _ fun x H3 e p => ⟨_, e, ?_, ns ++ [x], by rw [List.length_append, hl]; rfl, by rw [List.map_append]; exact upd_same, by rw [List.map_append] at p; exact p⟩
    rw [List.length_map, sizeLine_eq]
    omega
  · rintro H' ⟨ns, hl, h1, hp⟩
    exact hd D ns H' hD h1 (by omega) hp
theorem x_lcR {ta : TA} {tel : TE} {σ : L2.St} {H : Hp} {Q : VK} {j : Nat} (q : ta σ H fun vs H1 => ∃ n, vs = [.int n] ∧ tLc (iRng1 (tCons (tC (.int n)) tNil)) (gName j) tYes tel [j] σ H1 Q) : tLc (iRng1 ta) (gName j) tYes tel [j] σ H Q := by
  refine cast (congrArg (ta σ H) ?_) q
  funext vs H1
  refine propext ⟨?_, ?_⟩
  · rintro ⟨n, rfl, h⟩
    exact h
  · rintro ⟨n, rfl, h⟩
    exact ⟨n, rfl, n, rfl, h⟩
theorem Bytes.nil : Bytes [] := fun _ h => nomatch h
theorem Bytes.snoc {ns : List Int} {x : Int} (h : Bytes ns) (h0 : 0 ≤ x) (h1 : x ≤ 255) : Bytes (ns ++ [x]) := fun n hn => by
  rcases List.mem_append.mp hn with hn | hn
  · exact h n hn
  · rw [List.mem_singleton.mp hn]
    exact ⟨h0, h1⟩
theorem Bytes.take {ns : List Int} {k : Nat} (h : Bytes ns) : Bytes (ns.take k) := fun n hn => h n (List.mem_of_mem_take hn)
theorem Bytes.app {ns ms : List Int} (h : Bytes ns) (g : Bytes ms) : Bytes (ns ++ ms) := fun n hn => (List.mem_append.mp hn).elim (h n) (g n)
theorem Box.off {a l : Addr} {F : List Addr} {H : Hp} (B : Box a F H) (hl : H l = none) : l ≠ a := fun e => by
  obtain ⟨o, h⟩ := B.al
  rw [e, h] at hl
  cases hl
/-- bytes drawn behind one another into a new list -/
def Dn (a : Addr) (F : List Addr) (H : Hp) (D : Addr) (ns : List Int) (H' : Hp) : Prop := Bytes ns ∧ Box a (D :: F) H' ∧ Ch [D, a] H H'
theorem Dn.new {a D : Addr} {F : List Addr} {H : Hp} (B : Box a F H) (h : H D = none) : Dn a F H D [] (upd H D (.lst [])) := ⟨Bytes.nil, B.own h (Same.new h), Ch.of (Same.new h)⟩
theorem Dn.upd {a D : Addr} {F : List Addr} {H H' : Hp} {ns : List Int} {x : Int} {o : HO} {xs : List V} (h : Dn a F H D ns H') (h0 : 0 ≤ x) (h1 : x ≤ 255) (hd : H' D = some o) : Dn a F H D (ns ++ [x]) (upd H' D (.lst xs)) :=
  have c : Ch [D] H' (L2.upd H' D (.lst xs)) := Ch.ofX (by simp) SameX.upd upd_same
  ⟨h.1.snoc h0 h1, h.2.1.ch c (by simp), h.2.2.trans (c.more (by simp))⟩
theorem Dn.fin {a D : Addr} {F : List Addr} {H H' : Hp} {ns : List Int} (h : Dn a F H D ns H') (hD : H D = none) : Bytes ns ∧ Box a F H' ∧ Ch [a] H H' := ⟨h.1, h.2.1.less (fun b q => List.mem_cons_of_mem _ q), h.2.2.drop hD⟩
def sp__law_bytes : Sp := fun vs H Q _ => ∃ (a : Addr) (F : List Addr) (most : Nat), vs = [.ref a, .int most] ∧ 6 ≤ most ∧ most ≤ 1000 ∧ Box a F H ∧ ∀ d ns H', H d = none → H' d = some (.lst (ns.map V.int)) → Bytes ns → ns.length ≤ most → Box a (d :: F) H' → Ch [a] H H' → Q (.ref d) H'
theorem ok__law_bytes (T : Txt K mg) : FnOk P w K mg base CX0 2 T.a__law_bytes T.fd__law_bytes ["box", "most"] (sp__law_bytes) := by
  have S := sc__law_bytes
  refine T.F__law_bytes.ok S (fun vs H Q E h => ?_) (fun cdv A outer s H vs Q E hr h => ?_)
  · obtain ⟨a, F, most, rfl, _⟩ := h
    rfl
  · obtain ⟨a, F, most, rfl, z0, z1, B, k⟩ := h
    refine ⟨_, (pss_cons (ps_set (i := 2) S.nd rfl (Or.inl rfl) (pe_call (ok__law_draw T) (hr.mono (by decide)) rfl T.g__law_draw T.F__law_draw.kp T.B__law_draw .nil pass0 (pa_cons (pv 0) (pa_cons pe_int pa_nil))))
      (C8.pss_cut (ps_if (pt_cmpR op_eq (pe_call (ok__law_draw T) (hr.mono (by decide)) rfl T.g__law_draw T.F__law_draw.kp T.B__law_draw .nil pass0 (pa_cons (pv 0) (pa_cons pe_int pa_nil))) pe_int (nomark _)) (pss_one (ps_set (i := 2) S.nd rfl (Or.inl rfl) (pe_call (ok__law_draw T) (hr.mono (by decide)) rfl T.g__law_draw T.F__law_draw.kp T.B__law_draw .nil pass0 (pa_cons (pv 0) (pa_cons (pe_op op_add (pv 1) pe_int) pa_nil))))) pss_nil)
      (pss_cons (ps_if (pt_cmpR op_eq (pe_call (ok__law_draw T) (hr.mono (by decide)) rfl T.g__law_draw T.F__law_draw.kp T.B__law_draw .nil pass0 (pa_cons (pv 0) (pa_cons pe_int pa_nil))) pe_int (nomark _)) (pss_one (ps_ret (pe_lc (own := [("k", 5)]) (g := gName 5) (tt := tYes) rfl S.nd (pi_range1 (by rfl) T.b_range (pa_cons (pv 2) pa_nil)) (blkOk_by (N := ["box", "most", "many", "base", "step", "k"]) (sc := defScope s__law_bytes) (by decide +kernel)) (fun _ _ _ _ _ => pg_name (i := 5) S.nd rfl (Or.inl rfl)) (fun _ _ _ _ _ => pts_nil) (fun _ _ _ _ _ => (pe_call (ok__law_draw T) (hr.mono (by decide)) rfl T.g__law_draw T.F__law_draw.kp T.B__law_draw .nil pass0 (pa_cons (pv 0) (pa_cons pe_int pa_nil))))))) pss_nil)
      (pss_cons (ps_set (i := 3) S.nd rfl (Or.inr rfl) (pe_call (ok__law_draw T) (hr.mono (by decide)) rfl T.g__law_draw T.F__law_draw.kp T.B__law_draw .nil pass0 (pa_cons (pv 0) (pa_cons pe_int pa_nil))))
      (pss_cons (ps_set (i := 4) S.nd rfl (Or.inr rfl) (pe_call (ok__law_draw T) (hr.mono (by decide)) rfl T.g__law_draw T.F__law_draw.kp T.B__law_draw .nil pass0 (pa_cons (pv 0) (pa_cons pe_int pa_nil))))
      (pss_one (ps_ret (pe_lc (own := [("k", 5)]) (g := gName 5) (tt := tYes) rfl S.nd (pi_range1 (by rfl) T.b_range (pa_cons (pv 2) pa_nil)) (blkOk_by (N := ["box", "most", "many", "base", "step", "k"]) (sc := defScope s__law_bytes) (by decide +kernel)) (fun _ _ _ _ _ => pg_name (i := 5) S.nd rfl (Or.inl rfl)) (fun _ _ _ _ _ => pts_nil) (fun _ _ _ _ _ => (pe_op op_mod (pe_callTy (T := "int") call_int1 (by rfl) T.b_int (by decide +kernel) (pa_cons (pe_op op_add (pv 3) (pe_op op_mul (pv 5) (pv 4))) pa_nil)) pe_int)))))))))), ?_⟩
    refine st__law_bytes ?_
    o_args
    refine ⟨a, F, _, rfl, B, by decide, by decide, fun m H1 m0 m1 B1 c1 => ?_⟩
    o_args
    refine ⟨fun σ H' => ∃ m : Int, σ = [some (.ref a), some (.int most), some (.int m), none, none, none] ∧ 0 ≤ m ∧ m ≤ most ∧ Box a F H' ∧ Ch [a] H H', ?_, ?_⟩
    · o_args
      refine ⟨a, F, _, rfl, B1, by decide, by decide, fun w H2 w0 w1 B2 c2 => ?_⟩
      o_args
      refine brD (fun q => ?_) (fun q => ?_)
      · o_args
        refine ⟨a, F, _, rfl, B2, by omega, by omega, fun m' H3 m0' m1' B3 c3 => ?_⟩
        o_args
        exact ⟨_, rfl, m0', by omega, B3, (c1.trans c2).trans c3⟩
      · o_args
        exact ⟨_, rfl, m0, by omega, B2, c1.trans c2⟩
    rintro σ H3 ⟨m', rfl, m0', m1', B3, c3⟩
    o_args
    refine ⟨a, F, _, rfl, B3, by decide, by decide, fun w' H4 w0' w1' B4 c4 => ?_⟩
    have c4 := c3.trans c4
    o_args
    refine brD (fun q => ?_) (fun q => ?_)
    · o_args
      refine lcR (n := m') (Dn a F H4) (fun R q => ⟨_, rfl, q⟩) m0' (by omega) (fun D hD => Dn.new B4 hD) (fun D i ns H' hD hi hd hl hp Y hY => ?_) (fun D ns H' hD hd hl hp => ?_)
      · o_args
        refine ⟨a, D :: F, _, rfl, hp.2.1, by decide, by decide, fun x H5 x0 x1 B5 c5 => ?_⟩
        have hd5 := c5.at (by simp [B4.off hD]) hd
        exact hY x H5 hd5 (Dn.upd ⟨hp.1, B5, hp.2.2.trans (c5.more (by simp))⟩ x0 (by omega) hd5)
      · obtain ⟨b, B5, c5⟩ := hp.fin hD
        exact k D ns H' (c4.none hD) hd b (by omega) hp.2.1 (c4.trans c5)
    o_args
    refine ⟨a, F, _, rfl, B4, by decide, by decide, fun b H5 b0 b1 B5 c5 => ?_⟩
    o_args
    refine ⟨a, F, _, rfl, B5, by decide, by decide, fun st H6 s0 s1 B6 c6 => ?_⟩
    have c6 := (c4.trans c5).trans c6
    o_args
    refine lcR (n := m') (Dn a F H6) (fun R q => ⟨_, rfl, q⟩) m0' (by omega) (fun D hD => Dn.new B6 hD) (fun D i ns H' hD hi hd hl hp Y hY => ?_) (fun D ns H' hD hd hl hp => ?_)
    · o_args
      refine x_mulL ⟨by omega, by omega⟩ ?_
      o_args
      exact hY _ H' hd (Dn.upd hp (Int.emod_nonneg _ (by decide)) (by have := Int.emod_lt_of_pos (b + (0 + (i : Int)) * st) (show (0 : Int) < 256 by decide); omega) hd)
    · obtain ⟨b, B5, c5⟩ := hp.fin hD
      exact k D ns H' (c6.none hD) hd b (by omega) hp.2.1 (c6.trans c5)
/-! ### what is refused -/
theorem Rpr.atom {K : PySem.W.Frag} {H : Hp} {x : V} {d : PyData} (h : Dp K H x d) (A : Atom d) (hi : ∀ i, d = .int i → i.natAbs.log2 < 1920) : Rpr K H x := ⟨d, h, A.sh, A.nd, Nat.le_trans A.dp (by decide), Nat.le_trans A.ln (by decide), hi⟩
/-- whatever happens to G: x is out of the bounds and can be shown -/
def BadV (K : PySem.W.Frag) (G : List Addr) (H : Hp) (x : V) (lo hi : Int) : Prop := ∀ H', Ch G H H' → Out K H' x lo hi ∧ Rpr K H' x
section
variable {K : PySem.W.Frag} {G : List Addr} {H H' : Hp} {x : V} {lo hi : Int} {t : Addr}
theorem BadV.ch (h : BadV K G H x lo hi) (c : Ch G H H') : BadV K G H' x lo hi := fun H2 c2 => h H2 (c.trans c2)
theorem BadV.int {n : Int} (h : n < lo ∨ hi < n) (z : n.natAbs < 2 ^ 60) : BadV K G H (.int n) lo hi := fun _ _ => ⟨Out.int h, Rpr.int z⟩
theorem BadV.bl (b : Bool) : BadV K G H (.bl b) lo hi := fun _ _ => ⟨Out.odd (intK_no (.base (.bl b)) (i := true) (b := true) (by decide +kernel) (by decide +kernel) rfl), Rpr.atom (.bl b) (.bl b) (fun _ e => nomatch e)⟩
theorem BadV.non : BadV K G H .non lo hi := fun _ _ => ⟨Out.odd (intK_no (.base .non) (i := false) (b := false) (by decide +kernel) (by decide +kernel) rfl), Rpr.atom .non .non (fun _ e => nomatch e)⟩
theorem BadV.str {s : Str} (h : (PyData.str s).shown.length ≤ 2000) : BadV K G H (.str s) lo hi := fun _ _ => ⟨Out.odd (intK_no (.base (.str _)) (i := false) (b := false) (by decide +kernel) (by decide +kernel) rfl), Rpr.atom (.str s) ⟨rfl, rfl, by simp only [PyData.depth]; omega, h⟩ (fun _ e => nomatch e)⟩
theorem BadV.tup1 (h : H t = some (.tup [.int 1])) (n : t ∉ G) : BadV K G H (.ref t) lo hi := fun _ c => by
  have h := c.at n h
  exact ⟨Out.odd (intK_no (.base (.tup h)) (i := false) (b := false) (by decide +kernel) (by decide +kernel) rfl), Rpr.atom (d := .tuple [.int 1]) (.tup (SqT.of h) (.cons (.int 1) .nil)) ⟨by decide +kernel, by decide +kernel, by decide +kernel, by decide +kernel⟩ (fun _ e => nomatch e)⟩
theorem BadV.lst1 (h : H t = some (.lst [.int 1])) (n : t ∉ G) : BadV K G H (.ref t) lo hi := fun _ c => by
  have h := c.at n h
  exact ⟨Out.odd (intK_no (.base (.lst h)) (i := false) (b := false) (by decide +kernel) (by decide +kernel) rfl), Rpr.atom (d := .list [.int 1]) (.lst (SqL.of h) (.cons (.int 1) .nil)) ⟨by decide +kernel, by decide +kernel, by decide +kernel, by decide +kernel⟩ (fun _ e => nomatch e)⟩
end
/-! ### what is looked at -/
def sp__law_tuple_is (K : PySem.W.Frag) : Sp := fun vs H Q _ => ∃ (t d : Addr) (ns : List Int), vs = [.ref t, .ref d] ∧ H t = some (.tup (ns.map V.int)) ∧ H d = some (.lst (ns.map V.int)) ∧ ns.length ≤ 60000 ∧ Q (.bl true) H
theorem ok__law_tuple_is (T : Txt K mg) : FnOk P w K mg base CX0 2 T.a__law_tuple_is T.fd__law_tuple_is ["told", "due"] (sp__law_tuple_is K) := by
  have S := sc__law_tuple_is
  refine T.F__law_tuple_is.ok S (fun vs H Q E h => ?_) (fun cdv A outer s H vs Q E hr h => ?_)
  · obtain ⟨t, d, ns, rfl, _⟩ := h
    rfl
  · obtain ⟨t, d, ns, rfl, ht, hd, hz, k⟩ := h
    refine ⟨_, (pss_cons (ps_if (PW.pt (pw_or (pt_not (pt_val (pe_callB (id := "isinstance") call_isi (by rfl) T.b_isinstance (by decide +kernel) (pa_cons (pv 0) (pa_cons (pe_bltn (v := .ty "tuple") (u := .type "tuple") (by rfl) T.b_tuple (by decide +kernel) rfl) pa_nil))))) (pw_or1 (pt_cmpR op_ne (pe_callB (id := "len") (call_lenK (K := K) rfl) (by rfl) T.b_len (by decide +kernel) (pa_cons (pv 0) pa_nil)) (pe_callB (id := "len") (call_lenK (K := K) rfl) (by rfl) T.b_len (by decide +kernel) (pa_cons (pv 1) pa_nil)) (nomark _))))) (pss_one (ps_ret pe_bl)) pss_nil)
      (pss_cons (ps_for PassesOwn.never rfl (pi_range1 (by rfl) T.b_range (pa_cons (pe_callB (id := "len") (call_lenK (K := K) rfl) (by rfl) T.b_len (by decide +kernel) (pa_cons (pv 1) pa_nil)) pa_nil)) (pg_name (i := 2) S.nd rfl (Or.inl rfl)) (pss_one (ps_if (PW.pt (pw_or (pt_not (pt_val (pe_call (ok__law_is_whole T) (hr.mono (by decide)) rfl T.g__law_is_whole T.F__law_is_whole.kp T.B__law_is_whole .nil pass0 (pa_cons (pe_ix ix_tup (pv 0) (pv 2) (fun _ _ => rfl)) pa_nil)))) (pw_or1 (pt_cmpR op_ne (pe_ix ix_tup (pv 0) (pv 2) (fun _ _ => rfl)) (pe_ix ix_list (pv 1) (pv 2) (fun _ _ => rfl)) (nomark _))))) (pss_one (ps_ret pe_bl)) pss_nil)))
      (pss_one (ps_ret pe_bl)))), ?_⟩
    refine st__law_tuple_is ?_
    o_args
    refine ⟨_, _, _, _, true, rfl, .ty _, .base (.tup ht), kit_ty (by decide +kernel), ?_⟩
    o_args
    refine lenA (.inr (SqT.of ht)) ?_
    o_args
    refine lenA (.inl (SqL.of hd)) ?_
    o_args
    refine brDT rfl ?_
    o_args
    refine lenA (.inl (SqL.of hd)) ?_
    o_args
    rw [List.length_map]
    refine rngF (by omega) (by omega) ?_
    refine for_rangeK (fun i σ H' => (∃ z, σ = [some (.ref t), some (.ref d), z]) ∧ H' = H) ⟨⟨none, rfl⟩, rfl⟩ (fun i σ H' hi h => ?_) (fun σ H' h => ?_)
    · obtain ⟨⟨z, rfl⟩, rfl⟩ := h
      have il : i < ns.length := by omega
      have gi : (ns.map V.int)[i]? = some (.int ns[i]) := by rw [List.getElem?_map, List.getElem?_eq_getElem il]; rfl
      generalize ns[i] = x at gi
      o_args
      rw [show (0 : Int) + (i : Int) = (i : Int) by omega]
      refine ixT (SqT.of ht) gi ?_
      o_args
      refine ⟨_, true, rfl, intK_int x, ?_⟩
      o_args
      refine ixT (SqT.of ht) gi ?_
      o_args
      refine ixL hd gi ?_
      o_args
      refine brDT rfl ?_
      o_args
      exact ⟨⟨_, rfl⟩, rfl⟩
    · obtain ⟨⟨z, rfl⟩, rfl⟩ := h
      o_args
      exact k
/-! ### lists of pairs -/
def sp__law_pairs_are (K : PySem.W.Frag) : Sp := fun vs H Q _ => ∃ (l m : Addr) (ts us : List Addr) (rs : List Run), vs = [.ref l, .ref m] ∧ RunsL l ts rs H ∧ RunsL m us rs H ∧ rs.length < 50000 ∧ Q (.bl true) H
theorem ok__law_pairs_are (T : Txt K mg) : FnOk P w K mg base CX0 2 T.a__law_pairs_are T.fd__law_pairs_are ["told", "due"] (sp__law_pairs_are K) := by
  have S := sc__law_pairs_are
  refine T.F__law_pairs_are.ok S (fun vs H Q E h => ?_) (fun cdv A outer s H vs Q E hr h => ?_)
  · obtain ⟨l, m, ts, us, rs, rfl, _⟩ := h
    rfl
  · obtain ⟨l, m, ts, us, rs, rfl, hL, hM, hz, k⟩ := h
    have el := hL.len
    have em := hM.len
    refine ⟨_, (pss_cons (ps_if (PW.pt (pw_or (pt_not (pt_val (pe_callB (id := "isinstance") call_isi (by rfl) T.b_isinstance (by decide +kernel) (pa_cons (pv 0) (pa_cons (pe_bltn (v := .ty "list") (u := .type "list") (by rfl) T.b_list (by decide +kernel) rfl) pa_nil))))) (pw_or1 (pt_cmpR op_ne (pe_callB (id := "len") (call_lenK (K := K) rfl) (by rfl) T.b_len (by decide +kernel) (pa_cons (pv 0) pa_nil)) (pe_callB (id := "len") (call_lenK (K := K) rfl) (by rfl) T.b_len (by decide +kernel) (pa_cons (pv 1) pa_nil)) (nomark _))))) (pss_one (ps_ret pe_bl)) pss_nil)
      (pss_cons (ps_for PassesOwn.never rfl (pi_range1 (by rfl) T.b_range (pa_cons (pe_callB (id := "len") (call_lenK (K := K) rfl) (by rfl) T.b_len (by decide +kernel) (pa_cons (pv 1) pa_nil)) pa_nil)) (pg_name (i := 2) S.nd rfl (Or.inl rfl)) (pss_cons (ps_if (PW.pt (pw_or (pt_not (pt_val (pe_callB (id := "isinstance") call_isi (by rfl) T.b_isinstance (by decide +kernel) (pa_cons (pe_ix ix_list (pv 0) (pv 2) (fun _ _ => rfl)) (pa_cons (pe_bltn (v := .ty "tuple") (u := .type "tuple") (by rfl) T.b_tuple (by decide +kernel) rfl) pa_nil))))) (pw_or1 (pt_cmpR op_ne (pe_callB (id := "len") (call_lenK (K := K) rfl) (by rfl) T.b_len (by decide +kernel) (pa_cons (pe_ix ix_list (pv 0) (pv 2) (fun _ _ => rfl)) pa_nil)) pe_int (nomark _))))) (pss_one (ps_ret pe_bl)) pss_nil)
      (pss_cons (ps_if (PW.pt (pw_or (pt_not (pt_val (pe_call (ok__law_is_whole T) (hr.mono (by decide)) rfl T.g__law_is_whole T.F__law_is_whole.kp T.B__law_is_whole .nil pass0 (pa_cons (pe_ix ix_tup (pe_ix ix_list (pv 0) (pv 2) (fun _ _ => rfl)) pe_int (fun _ _ => rfl)) pa_nil)))) (pw_or1 (pt_not (pt_val (pe_call (ok__law_is_whole T) (hr.mono (by decide)) rfl T.g__law_is_whole T.F__law_is_whole.kp T.B__law_is_whole .nil pass0 (pa_cons (pe_ix ix_tup (pe_ix ix_list (pv 0) (pv 2) (fun _ _ => rfl)) pe_int (fun _ _ => rfl)) pa_nil))))))) (pss_one (ps_ret pe_bl)) pss_nil)
      (pss_one (ps_if (PW.pt (pw_or (pt_cmpR op_ne (pe_ix ix_tup (pe_ix ix_list (pv 0) (pv 2) (fun _ _ => rfl)) pe_int (fun _ _ => rfl)) (pe_ix ix_tup (pe_ix ix_list (pv 1) (pv 2) (fun _ _ => rfl)) pe_int (fun _ _ => rfl)) (nomark _)) (pw_or1 (pt_cmpR op_ne (pe_ix ix_tup (pe_ix ix_list (pv 0) (pv 2) (fun _ _ => rfl)) pe_int (fun _ _ => rfl)) (pe_ix ix_tup (pe_ix ix_list (pv 1) (pv 2) (fun _ _ => rfl)) pe_int (fun _ _ => rfl)) (nomark _))))) (pss_one (ps_ret pe_bl)) pss_nil)))))
      (pss_one (ps_ret pe_bl)))), ?_⟩
    refine st__law_pairs_are ?_
    o_args
    refine ⟨_, _, _, _, true, rfl, .ty _, .base (.lst hL.1), kit_ty (by decide +kernel), ?_⟩
    o_args
    refine lenA (SeqA.lst hL.1) ?_
    o_args
    refine lenA (SeqA.lst hM.1) ?_
    o_args
    rw [List.length_map, List.length_map, el, em]
    rw [decide_eq_true rfl]
    o_args
    refine lenA (SeqA.lst hM.1) ?_
    o_args
    rw [List.length_map, em]
    refine rngF (n := rs.length) (by omega) (by omega) (for_rangeK (lo := 0) (n := (rs.length : Int).toNat) (fun i σ H' => ∃ v, σ = [some (.ref l), some (.ref m), v] ∧ H' = H) ⟨none, rfl, rfl⟩ ?_ ?_)
    · rintro i σ H' hi ⟨v, rfl, rfl⟩
      have il : i < rs.length := by omega
      obtain ⟨t, _, e1, ht⟩ := hL.at (List.getElem?_eq_getElem il)
      obtain ⟨u, _, e2, hu⟩ := hM.at (List.getElem?_eq_getElem il)
      generalize rs[i] = r at ht hu
      have ix1 : ∀ {Q : VK}, Q (.ref t) H' → rIxL K (.ref l) (.int (0 + (i : Int))) H' Q := fun q => by rw [show (0 : Int) + (i : Int) = (i : Int) by omega]; exact ixL hL.1 e1 q
      have ix2 : ∀ {Q : VK}, Q (.ref u) H' → rIxL K (.ref m) (.int (0 + (i : Int))) H' Q := fun q => by rw [show (0 : Int) + (i : Int) = (i : Int) by omega]; exact ixL hM.1 e2 q
      o_args
      refine ix1 ?_
      o_args
      refine ⟨_, _, _, _, true, rfl, .ty _, .base (.tup ht), kit_ty (by decide +kernel), ?_⟩
      o_args
      refine ix1 ?_
      o_args
      refine lenA (SeqA.tup ht) ?_
      o_args
      refine brDT rfl ?_
      o_args
      refine ix1 ?_
      o_args
      refine ⟨_, true, rfl, intK_int _, ?_⟩
      o_args
      refine ix1 ?_
      o_args
      refine ⟨_, true, rfl, intK_int _, ?_⟩
      o_args
      refine ix1 ?_
      o_args
      refine ix2 ?_
      o_args
      rw [decide_eq_true rfl]
      o_args
      refine ix1 ?_
      o_args
      refine ix2 ?_
      o_args
      rw [decide_eq_true rfl]
      o_args
      exact ⟨_, rfl, rfl⟩
    · rintro σ H' ⟨v, rfl, rfl⟩
      o_args
      exact k
/-! ### told, offset, reads, state -/
theorem newDict {H : Hp} {Q : VK} {σ : L2.St} (q : ∀ d H', H d = none → Same H H' → H' d = some (.dK []) → Q (.ref d) H') : tDNewK σ H Q := fun d hd => q d _ hd (Same.new hd) upd_same
theorem told_is (B : Ib) : B.told = toldOf B.ah B.la := rfl
def sp__law_new_state : Sp := fun vs H Q _ => ∃ (n : Int), vs = [.int n] ∧ ∀ q c H', H q = none → H c = none → Same H H' → StAt H' q c ⟨n, 1, 1, 0, none, 0, [], fun _ => none⟩ → Q (.ref q) H'
theorem ok__law_new_state (T : Txt K mg) : FnOk P w K mg base CX0 1 T.a__law_new_state T.fd__law_new_state ["most"] (sp__law_new_state) := by
  have S := sc__law_new_state
  refine T.F__law_new_state.ok S (fun vs H Q E h => ?_) (fun cdv A outer s H vs Q E hr h => ?_)
  · obtain ⟨n, rfl, _⟩ := h
    rfl
  · obtain ⟨n, rfl, k⟩ := h
    refine ⟨_, (pss_one (ps_ret (pe_disp (pps_cons pe_str (pv 0) (pps_cons pe_str pe_dnewK (pps_cons pe_str pe_int (pps_cons pe_str pe_int (pps_cons pe_str pe_int (pps_cons pe_str pe_non (pps_cons pe_str pe_int pps_nil))))))) rfl rfl (by simp) (by decide)))), ?_⟩
    refine st__law_new_state ?_
    o_args
    intro q nq
    have s1 := Same.new (o := .dK []) nq
    have h1 : upd H q (.dK []) q = some (.dK []) := upd_same
    generalize upd H q (.dK []) = H1 at s1 h1
    o_args
    refine newDict fun c H2 nc s2 h2 => ?_
    o_args
    have nc' := none_of s1 nc
    have ne : q ≠ c := fun z => by rw [← z, h1] at nc; cases nc
    refine ⟨s2 _ _ h1, (⟨n, 1, 1, 0, none, 0, [], fun _ => none⟩ : Sx).kvs c, rfl, Nat.le_of_ble_eq_true rfl, ?_⟩
    rw [show mergeK [] ((⟨n, 1, 1, 0, none, 0, [], fun _ => none⟩ : Sx).kvs c) = (⟨n, 1, 1, 0, none, 0, [], fun _ => none⟩ : Sx).kvs c by with_unfolding_all rfl]
    have s3 : SameX q H2 (upd H2 q (.dK ((⟨n, 1, 1, 0, none, 0, [], fun _ => none⟩ : Sx).kvs c))) := SameX.upd
    exact k q c _ nq nc' (Ch.same (((Ch.of (s1.trans s2)).trans (Ch.ofX (a := q) (G := [q]) (by simp) s3 upd_same)).drop nq)) ⟨upd_same, ⟨[], s3 _ _ ne.symm h2, rfl, List.nodup_nil, Tells.nil⟩, ne⟩
/-- the inbox and its account, at p, d, e and q, c; F: what is apart from the runs' own -/
structure Iw (C Cs p d e q c : Addr) (F : List Addr) (m : Nat) (B : Ib) (S : Sx) (H : Hp) : Prop where
  i : InAt C Cs p d e F m B H
  s : StAt H q c S
  r : Rel B S
  z : S.ks.length ≤ m
  ap : q ∈ F ∧ c ∈ F
  ne : d ≠ q ∧ d ≠ c
  m5 : m ≤ 5000
theorem Iw.nx {C Cs p d e q c : Addr} {F : List Addr} {m : Nat} {B : Ib} {S : Sx} {H : Hp} (w : Iw C Cs p d e q c F m B S H) : 1 ≤ S.nx ∧ S.nx ≤ m + 1 := by
  have g1 := w.r.g.r1
  have g2 := w.r.g.rn
  have e := w.r.nx
  obtain ⟨tk, hc, hkk, nd, ht⟩ := id w.s.sc
  have := nodup_le (l := (List.range (S.nx - 1).toNat).map fun i : Nat => 1 + (i : Int)) (m := S.ks) (by
    rw [List.Nodup, List.pairwise_map]
    exact (List.nodup_range).imp fun {a b} ab e => ab (by omega)) fun o ho => by
    obtain ⟨i, hi, rfl⟩ := List.mem_map.mp ho
    have hi := List.mem_range.mp hi
    exact (tells_keys hkk ht _).mpr (w.r.fu _ (by omega) (by omega))
  rw [List.length_map, List.length_range] at this
  have := w.z
  omega
theorem Iw.ahl {C Cs p d e q c : Addr} {F : List Addr} {m : Nat} {B : Ib} {S : Sx} {H : Hp} (w : Iw C Cs p d e q c F m B S H) : B.ah.length ≤ m := by
  obtain ⟨kvs, hd, ht, hk⟩ := w.i.dd
  exact Nat.le_trans (runs_le ht w.i.ee.offs.nrm fun o c => ((w.r.g.ha o).mp c).1) hk
theorem Iw.mem {C Cs p d e q c : Addr} {F : List Addr} {m : Nat} {B : Ib} {S : Sx} {H : Hp} (w : Iw C Cs p d e q c F m B S H) (o : Int) : Mem o B.ah ↔ S.T o ≠ none ∧ S.nx < o := by
  rw [w.r.mem o]
  constructor
  · rintro ⟨h1, h2⟩
    refine ⟨h1, ?_⟩
    by_cases e : o = S.nx
    · exfalso
      have := w.r.st o (by have := w.r.g.rn; have := w.r.nx; omega)
      rw [e, ← w.r.nx, w.r.g.nn, w.r.nx] at this
      rw [e] at h1
      exact h1 this.symm
    · omega
  · exact fun z => ⟨z.1, by omega⟩
theorem Iw.same {C Cs p d e q c : Addr} {F : List Addr} {m : Nat} {B : Ib} {S : Sx} {H H' : Hp} (w : Iw C Cs p d e q c F m B S H) (s : Same H H') : Iw C Cs p d e q c F m B S H' := ⟨w.i.same s, w.s.same s, w.r, w.z, w.ap, w.ne, w.m5⟩
def sp__law_told (K : PySem.W.Frag) (C Cs : Addr) : Sp := fun vs H Q _ => ∃ (p d e q c : Addr) (F : List Addr) (m : Nat) (B : Ib) (S : Sx), vs = [.ref p, .ref q] ∧ Iw C Cs p d e q c F m B S H ∧ ∀ H', Same H H' → Q (.bl true) H'
theorem ok__law_told (T : Txt K mg) : FnOk P w K mg base CX0 4 T.a__law_told T.fd__law_told ["inbox", "state"] (sp__law_told K T.c_Inbox T.c_Spans) := by
  have S := sc__law_told
  refine T.F__law_told.ok S (fun vs H Q E h => ?_) (fun cdv A outer s H vs Q E hr h => ?_)
  · obtain ⟨p, d, e, q, c, F, m, B, S, rfl, _⟩ := h
    rfl
  · obtain ⟨p, d, e, q, c, F, m, B, S', rfl, w, k⟩ := h
    have hm := w.m5
    have hz := w.z
    have ha := w.ahl
    refine ⟨_, (pss_cons (ps_set (i := 2) S.nd rfl (Or.inl rfl) (pe_call (ok__law_runs T) (hr.mono (by decide)) rfl T.g__law_runs T.F__law_runs.kp T.B__law_runs .nil pass0 (pa_cons (pv 1) pa_nil)))
      (pss_cons (ps_set (i := 3) S.nd rfl (Or.inl rfl) (pe_meth0 (pv 0) T.cl_Inbox T.m_Inbox_told_runs (ok_Inbox_told_runs T) (hr.mono (by decide)) T.B_Inbox_told_runs .nil pass0))
      (pss_cons (ps_if (pt_not (pt_val (pe_call (ok__law_pairs_are T) (hr.mono (by decide)) rfl T.g__law_pairs_are T.F__law_pairs_are.kp T.B__law_pairs_are .nil pass0 (pa_cons (pv 3) (pa_cons (pv 2) pa_nil))))) (pss_one (ps_ret pe_bl)) pss_nil)
      (pss_cons (ps_expr (pe_bm PySem.F.plainAttrs_list PySem.F.slot_list_append PySem.F.type_list_append mt_append (pv 3) (pa_cons (pe_tup (pa_cons pe_int (pa_cons pe_int pa_nil))) pa_nil)))
      (pss_one (ps_ret (pe_call (ok__law_pairs_are T) (hr.mono (by decide)) rfl T.g__law_pairs_are T.F__law_pairs_are.kp T.B__law_pairs_are .nil pass0 (pa_cons (pe_meth0 (pv 0) T.cl_Inbox T.m_Inbox_told_runs (ok_Inbox_told_runs T) (hr.mono (by decide)) T.B_Inbox_told_runs .nil pass0) (pa_cons (pv 2) pa_nil))))))))), ?_⟩
    refine st__law_told ?_
    o_args
    refine ⟨q, c, S', B.ah, rfl, w.s, by omega, w.i.ee.offs.nrm, w.mem, fun l ts H1 nl s1 r1 => ?_⟩
    have w1 := w.same s1
    obtain ⟨dx, hp⟩ := w1.i.oo
    o_args
    refine ⟨p, dx, _, rfl, hp, rfl, ?_⟩
    o_args
    refine ⟨p, d, e, F, m, B, rfl, w1.i, by omega, fun l2 ts2 H2 nl2 s2 r2 => ?_⟩
    rw [told_is, w.r.la] at r2
    have w2 := w1.same s2
    have tl : (toldOf B.ah S'.la).length ≤ 3 := by unfold toldOf; rw [List.length_take]; omega
    o_args
    refine ⟨l2, l, ts2, ts, toldOf B.ah S'.la, rfl, r2, r1.same s2, by omega, ?_⟩
    o_args
    refine ⟨isList r2.1, ?_⟩
    o_args
    refine newTup (by simp) fun u H3 nu s3 h3 => ?_
    o_args
    have l2n := r2.len
    refine appList (s3 _ _ r2.1) (by rw [List.length_map]; omega) fun H4 s4 h4 => ?_
    have S4 : Same H1 H4 := Ch.same (((Ch.of (s2.trans s3)).trans (Ch.ofX (a := l2) (G := [l2]) (by simp) s4 h4)).drop nl2)
    have w4 := w1.same S4
    o_args
    refine ⟨p, dx, _, rfl, S4 _ _ hp, rfl, ?_⟩
    o_args
    refine ⟨p, d, e, F, m, B, rfl, w4.i, by omega, fun l5 ts5 H5 nl5 s5 r5 => ?_⟩
    rw [told_is, w.r.la] at r5
    o_args
    refine ⟨l5, l, ts5, ts, toldOf B.ah S'.la, rfl, r5, (r1.same S4).same s5, by omega, ?_⟩
    o_args
    exact k _ ((s1.trans S4).trans s5)
def sp__law_offset : Sp := fun vs H Q _ => ∃ (a q c : Addr) (F : List Addr) (S : Sx), vs = [.ref a, .ref q] ∧ Box a F H ∧ StAt H q c S ∧ q ≠ a ∧ c ≠ a ∧ 1 ≤ S.nx ∧ S.nx ≤ 10000 ∧ ∀ n H', 0 ≤ n → n ≤ 2 ^ 60 → Box a F H' → Ch [a] H H' → Q (.int n) H'
set_option maxHeartbeats 0 in
theorem ok__law_offset (T : Txt K mg) : FnOk P w K mg base CX0 2 T.a__law_offset T.fd__law_offset ["box", "state"] (sp__law_offset) := by
  have S := sc__law_offset
  refine T.F__law_offset.ok S (fun vs H Q E h => ?_) (fun cdv A outer s H vs Q E hr h => ?_)
  · obtain ⟨a, q, c, F, S, rfl, _⟩ := h
    rfl
  · obtain ⟨a, q, c, F, S', rfl, B, h, qa, ca, n1, n2, k⟩ := h
    have hq := h.sq
    unfold Sx.kvs at hq
    refine ⟨_, (pss_cons (ps_set (i := 2) S.nd rfl (Or.inl rfl) (pe_call (ok__law_draw T) (hr.mono (by decide)) rfl T.g__law_draw T.F__law_draw.kp T.B__law_draw .nil pass0 (pa_cons (pv 0) (pa_cons pe_int pa_nil))))
      (pss_cons (ps_if (pt_cmpR op_eq (pv 2) pe_int (nomark _)) (pss_one (ps_ret (pe_dget (room_u1 hr) (pv 1) pe_str (fun _ _ => rfl)))) pss_nil)
      (pss_cons (ps_if (pt_cmpR op_eq (pv 2) pe_int (nomark _)) (pss_one (ps_ret (pe_callB (id := "max") (call_max2K rfl) (by rfl) T.b_max (by decide +kernel) (pa_cons pe_int (pa_cons (pe_op op_sub (pe_dget (room_u1 hr) (pv 1) pe_str (fun _ _ => rfl)) (pe_call (ok__law_draw T) (hr.mono (by decide)) rfl T.g__law_draw T.F__law_draw.kp T.B__law_draw .nil pass0 (pa_cons (pv 0) (pa_cons pe_int pa_nil)))) pa_nil))))) pss_nil)
      (pss_cons (ps_if (pt_cmpR op_eq (pv 2) pe_int (nomark _)) (pss_one (ps_ret (pe_op op_add (pe_dget (room_u1 hr) (pv 1) pe_str (fun _ _ => rfl)) (pe_call (ok__law_draw T) (hr.mono (by decide)) rfl T.g__law_draw T.F__law_draw.kp T.B__law_draw .nil pass0 (pa_cons (pv 0) (pa_cons pe_int pa_nil)))))) pss_nil)
      (pss_cons (ps_if (PW.pt (pw_and (pt_cmpR op_eq (pv 2) pe_int (nomark _)) (pw_and1 (pt_cmpR op_eq (pe_call (ok__law_draw T) (hr.mono (by decide)) rfl T.g__law_draw T.F__law_draw.kp T.B__law_draw .nil pass0 (pa_cons (pv 0) (pa_cons pe_int pa_nil))) pe_int (nomark _))))) (pss_cons (ps_set (i := 3) S.nd rfl (Or.inl rfl) (pe_call (ok__law_draw T) (hr.mono (by decide)) rfl T.g__law_draw T.F__law_draw.kp T.B__law_draw .nil pass0 (pa_cons (pv 0) (pa_cons pe_int pa_nil))))
      (pss_one (ps_ret (pe_callB (id := "min") (call_min2K rfl) (by rfl) T.b_min (by decide +kernel) (pa_cons (pe_op op_add (pe_op op_mul (pv 3) pe_int) (pe_call (ok__law_draw T) (hr.mono (by decide)) rfl T.g__law_draw T.F__law_draw.kp T.B__law_draw .nil pass0 (pa_cons (pv 0) (pa_cons pe_int pa_nil)))) (pa_cons pe_int pa_nil)))))) pss_nil)
      (pss_one (ps_ret (pe_call (ok__law_draw T) (hr.mono (by decide)) rfl T.g__law_draw T.F__law_draw.kp T.B__law_draw .nil pass0 (pa_cons (pv 0) (pa_cons pe_int pa_nil)))))))))), ?_⟩
    refine st__law_offset ?_
    o_args
    refine ⟨a, F, _, rfl, B, by decide, by decide, fun w H1 w0 w1 B1 c1 => ?_⟩
    have hq1 := c1.at (by simpa using qa) hq
    o_args
    have d64 : ∀ {H1 : Hp}, Box a F H1 → Ch [a] H H1 → sp__law_draw [.ref a, .int 64] H1 Q E0 := fun B1 c1 => ⟨a, F, _, rfl, B1, by decide, by decide, fun n H2 m0 m1 B2 c2 => k n H2 m0 (by omega) B2 (c1.trans c2)⟩
    refine brD (fun c => ?_) (fun c => ?_)
    · o_args
      exact k _ H1 (by omega) (by omega) B1 c1
    · o_args
      refine brD (fun c => ?_) (fun c => ?_)
      · o_args
        refine ⟨a, F, _, rfl, B1, by decide, by decide, fun n H2 m0 m1 B2 c2 => ?_⟩
        o_args
        exact k _ H2 (by omega) (by omega) B2 (c1.trans c2)
      · o_args
        refine brD (fun c => ?_) (fun c => ?_)
        · o_args
          refine ⟨a, F, _, rfl, B1, by decide, by decide, fun n H2 m0 m1 B2 c2 => ?_⟩
          o_args
          exact k _ H2 (by omega) (by omega) B2 (c1.trans c2)
        · o_args
          refine brD (fun c => ?_) (fun c => ?_)
          · o_args
            refine ⟨a, F, _, rfl, B1, by decide, by decide, fun n H2 m0 m1 B2 c2 => ?_⟩
            o_args
            refine brD (fun c => ?_) (fun c => ?_)
            · o_args
              refine ⟨a, F, _, rfl, B2, by decide, by decide, fun n2 H3 m2 m3 B3 c3 => ?_⟩
              o_args
              refine ⟨a, F, _, rfl, B3, by decide, by decide, fun n3 H4 m4 m5 B4 c4 => ?_⟩
              o_args
              exact k _ H4 (by omega) (by omega) B4 (((c1.trans c2).trans c3).trans c4)
            · o_args
              exact d64 B2 (c1.trans c2)
          · o_args
            exact d64 B1 c1
/-! ### reads, state -/
def Sx.read (S : Sx) (k : Int) : Sx := { S with rd := S.rd + k }
theorem Rel.read {B : Ib} {S : Sx} {k : Int} (R : Rel B S) (h0 : 0 ≤ k) (h1 : k ≤ B.nx - B.rd) : Rel (B.read k) (S.read k) := by
  refine ⟨R.g.read h0 h1, R.li, R.nx, by show B.rd + k = S.rd + k; rw [R.rd], R.la, R.fi, R.ur, fun o h => ?_, R.fu, R.hi, R.lm⟩
  have h : B.rd + k ≤ o := h
  show (if _ then none else B.st o) = S.T o
  rw [if_neg (by omega), R.st o (by omega)]
theorem Iw.readTo {C Cs p d e q c : Addr} {F : List Addr} {m : Nat} {B : Ib} {S : Sx} {H H' : Hp} {k : Int} (w : Iw C Cs p d e q c F m B S H) (i : InAt C Cs p d e F m (B.read k) H') (s : StAt H' q c (S.read k)) (h0 : 0 ≤ k) (h1 : k ≤ B.nx - B.rd) : Iw C Cs p d e q c F m (B.read k) (S.read k) H' := ⟨i, s, w.r.read h0 h1, w.z, w.ap, w.ne, w.m5⟩
/-- where the account lies apart from the inbox -/
theorem Iw.apart {C Cs p d e q c : Addr} {F : List Addr} {m : Nat} {B : Ib} {S : Sx} {H : Hp} (w : Iw C Cs p d e q c F m B S H) : q ∉ [p, d, e] ∧ c ∉ [p, d, e] ∧ p ∉ [q, c] ∧ d ∉ [q, c] ∧ e ∉ [q, c] := by
  obtain ⟨dx, hp⟩ := w.i.oo
  obtain ⟨dxe, l, ts, he, _⟩ := id w.i.ee
  have hq := w.s.sq
  obtain ⟨tk, hc, _⟩ := id w.s.sc
  have n1 : q ≠ p := fun z => by rw [z, hp] at hq; cases hq
  have n2 : c ≠ p := fun z => by rw [z, hp] at hc; cases hc
  have n3 : q ≠ e := fun z => by rw [z, he] at hq; cases hq
  have n4 : c ≠ e := fun z => by rw [z, he] at hc; cases hc
  have n5 := w.ne.1
  have n6 := w.ne.2
  simp only [List.mem_cons, List.not_mem_nil, or_false, not_or]
  exact ⟨⟨n1, n5.symm, n3⟩, ⟨n2, n6.symm, n4⟩, ⟨n1.symm, n2.symm⟩, ⟨n5, n6⟩, ⟨n3.symm, n4.symm⟩⟩
def sp__law_reads (K : PySem.W.Frag) (C Cs : Addr) : Sp := fun vs H Q _ => ∃ (p d e q c : Addr) (F : List Addr) (m : Nat) (B : Ib) (S : Sx) (n : Int), vs = [.ref p, .ref q, .int n] ∧ Iw C Cs p d e q c F m B S H ∧ Al F H ∧ 0 ≤ n ∧
  ∀ H' B' S', Iw C Cs p d e q c F m B' S' H' → Ch [p, d, e, q, c] H H' → Q (.bl true) H'
theorem ok__law_reads (T : Txt K mg) : FnOk P w K mg base CX0 4 T.a__law_reads T.fd__law_reads ["inbox", "state", "count"] (sp__law_reads K T.c_Inbox T.c_Spans) := by
  have S := sc__law_reads
  refine T.F__law_reads.ok S (fun vs H Q E h => ?_) (fun cdv A outer s H vs Q E hr h => ?_)
  · obtain ⟨p, d, e, q, c, F, m, B, S, n, rfl, _⟩ := h
    rfl
  · obtain ⟨p, d, e, q, c, F, m, B, S0, n, rfl, w, A, n0, k⟩ := h
    have hq := w.s.sq
    unfold Sx.kvs at hq
    obtain ⟨tk, hc, hkk, nd, ht⟩ := id w.s.sc
    have nx := w.nx
    have hm := w.m5
    have g := w.r.g
    have g1 := g.r1
    have g2 := g.rn
    have e1 := w.r.nx
    have e2 := w.r.rd
    obtain ⟨ap1, ap2, ap3, ap4, ap5⟩ := w.apart
    refine ⟨_, (pss_cons (ps_set (i := 3) S.nd rfl (Or.inl rfl) (pe_callB (id := "min") (call_min2K rfl) (by rfl) T.b_min (by decide +kernel) (pa_cons (pv 2) (pa_cons (pe_op op_sub (pe_dget (room_u1 hr) (pv 1) pe_str (fun _ _ => rfl)) (pe_dget (room_u1 hr) (pv 1) pe_str (fun _ _ => rfl))) pa_nil))))
      (pss_cons (ps_setLc (i := 4) (own := [("k", 6)]) (g := gName 6) (tt := tYes) rfl S.nd rfl rfl (sw_true rfl rfl rfl (by decide +kernel)) (pi_range1 (by rfl) T.b_range (pa_cons (pv 3) pa_nil)) (blkOk_by (N := ["inbox", "state", "count", "many", "due", "told", "k"]) (sc := defScope s__law_reads) (by decide +kernel)) (fun _ _ _ _ _ => pg_name (i := 6) S.nd rfl (Or.inl rfl)) (fun _ _ _ _ _ => pts_nil) (fun _ _ _ _ _ => (pe_dget (room_u1 hr) (pe_dget (room_u1 hr) (pv 1) pe_str (fun _ _ => rfl)) (pe_op op_add (pe_dget (room_u1 hr) (pv 1) pe_str (fun _ _ => rfl)) (pv 6)) (fun _ _ => rfl))))
      (pss_cons (ps_set (i := 5) S.nd rfl (Or.inl rfl) (pe_meth (pv 0) T.cl_Inbox T.m_Inbox_read (ok_Inbox_read T) (hr.mono (by decide)) T.B_Inbox_read .nil passL (pa_cons (pv 2) pa_nil)))
      (pss_cons (ps_dput (room_u1 hr) (pv 1) pe_str (pe_op op_add (pe_dget (room_u1 hr) (pv 1) pe_str (fun _ _ => rfl)) (pv 3)) rfl)
      (pss_one (ps_ret (pe_call (ok__law_tuple_is T) (hr.mono (by decide)) rfl T.g__law_tuple_is T.F__law_tuple_is.kp T.B__law_tuple_is .nil pass0 (pa_cons (pv 5) (pa_cons (pv 4) pa_nil))))))))), ?_⟩
    refine st__law_reads ?_
    o_args
    generalize hk : min n (S0.nx - S0.rd) = kk
    refine x_lcR ?_
    o_args
    have k0 : 0 ≤ kk := by omega
    have k1 : kk ≤ B.nx - B.rd := by omega
    refine lcR (n := kk) (fun D ns H' => SameX D H H' ∧ ns = (List.range ns.length).map fun i : Nat => (B.st (B.rd + (i : Int))).getD 0) (fun R q => q) k0 (by omega) (fun D hD => ⟨SameX.upd, rfl⟩) (fun D i ns H' hD hi hd hl hp Y hY => ?_) (fun D ns H' hD hd hl hp => ?_)
    · obtain ⟨s, e3⟩ := hp
      have hq' := s _ _ (ne_of_none hq hD) hq
      have hc' := s _ _ (ne_of_none hc hD) hc
      have st1 := w.r.st (B.rd + (i : Int)) (by omega)
      obtain ⟨x, hx⟩ : ∃ x, B.st (B.rd + (i : Int)) = some x := by
        cases e : B.st (B.rd + (i : Int)) with
        | none => exact absurd e (g.fu _ (by omega) (by omega))
        | some x => exact ⟨x, rfl⟩
      o_args
      refine dgetI hc' (k := S0.rd + (0 + (i : Int))) (v := .int x) (by
        rw [ht, ← e2, Int.zero_add, ← st1, hx]; rfl) ?_
      refine hY x H' hd ⟨s.upd', ?_⟩
      rw [List.length_append, List.length_singleton, List.range_succ, List.map_append, ← e3, hl, List.map_singleton, hx]
      rfl
    · obtain ⟨s, e3⟩ := hp
      have S1 := Same.ofX hD s
      have w1 := w.same S1
      obtain ⟨dx, hp1⟩ := w1.i.oo
      have eg : ns = B.got kk := by
        rw [e3, show ns.length = kk.toNat by omega]
        rfl
      have nD : ∀ {b o}, H b = some o → D ≠ b := fun h z => by rw [z, h] at hD; cases hD
      o_args
      refine ⟨p, dx, _, rfl, hp1, rfl, ?_⟩
      o_args
      refine ⟨p, d, e, F, m, B, _, rfl, w1.i, A.same S1, g, by omega, .inl ⟨n, rfl, n0, fun t H2 h2 I2 c2 => ?_⟩⟩
      rw [show min n (B.nx - B.rd) = kk by omega] at h2 I2
      have hq2 := c2.at ap1 (S1 _ _ hq)
      have s2 := w1.s.ch c2 ap1 ap2
      have hd2 := c2.at (fun z => by
        obtain ⟨_, hp⟩ := w.i.oo
        obtain ⟨_, hdd, _⟩ := id w.i.dd
        obtain ⟨_, _, _, he, _⟩ := id w.i.ee
        simp only [List.mem_cons, List.not_mem_nil, or_false] at z
        rcases z with z | z | z
        · exact nD hp z
        · exact nD hdd z
        · exact nD he z) hd
      o_args
      refine dput (k := "read") (v := .int (S0.rd + kk)) (kvs' := Sx.kvs (S0.read kk) c) hq2 (Nat.le_of_ble_eq_true rfl) (by with_unfolding_all rfl) fun H3 s3 h3 => ?_
      have c3 : Ch [q] H2 H3 := Ch.ofX (by simp) s3 h3
      have tq : t ≠ q := fun z => by rw [z, hq2] at h2; cases h2
      have hD3 := s3 _ _ (nD hq) hd2
      have ht3 := s3 _ _ tq h2
      rw [eg] at hD3
      o_args
      refine ⟨t, D, B.got kk, rfl, ht3, hD3, by unfold Ib.got; rw [List.length_map, List.length_range]; omega, ?_⟩
      o_args
      refine k H3 _ _ (w.readTo (k := kk) ?_ ⟨h3, s2.sc.ch c3 (fun z => w.s.ne (List.mem_singleton.mp z).symm), w.s.ne⟩ k0 k1) (((Ch.of S1).trans (c2.more (by simp))).trans (c3.more (by simp)))
      exact I2.ch c3 (fun b hb => by rw [List.mem_singleton.mp hb]; exact w.ap.1) (fun z => ap3 (by rw [List.mem_singleton.mp z]; simp)) (fun z => ap4 (by rw [List.mem_singleton.mp z]; simp))
/-! ### the state -/
def Sx.fed (S : Sx) : Bool := decide (S.fin = some S.nx)
theorem Rel.fed {B : Ib} {S : Sx} (R : Rel B S) : B.fed = S.fed := by unfold Ib.fed Sx.fed; rw [R.fi, R.nx]
def sp__law_state (K : PySem.W.Frag) (C Cs : Addr) : Sp := fun vs H Q _ => ∃ (p d e q c : Addr) (F : List Addr) (m : Nat) (B : Ib) (S : Sx), vs = [.ref p, .ref q] ∧ Iw C Cs p d e q c F m B S H ∧ ∀ H', Same H H' → Q (.bl true) H'
set_option maxHeartbeats 0 in
theorem ok__law_state (T : Txt K mg) : FnOk P w K mg base CX0 6 T.a__law_state T.fd__law_state ["inbox", "state"] (sp__law_state K T.c_Inbox T.c_Spans) := by
  have S := sc__law_state
  refine T.F__law_state.ok S (fun vs H Q E h => ?_) (fun cdv A outer s H vs Q E hr h => ?_)
  · obtain ⟨p, d, e, q, c, F, m, B, S, rfl, _⟩ := h
    rfl
  · obtain ⟨p, d, e, q, c, F, m, B, S0, rfl, w, k⟩ := h
    have hq := w.s.sq
    unfold Sx.kvs at hq
    obtain ⟨dx, hp⟩ := w.i.oo
    refine ⟨_, (C8.pss_cut (ps_set (i := 2) S.nd rfl (Or.inl rfl) (pe_and (pe_cmpR op_notN (pe_dget (room_u1 hr) (pv 1) pe_str (fun _ _ => rfl)) pe_non (nomark _)) (pe_one (pe_cmpR op_eq (pe_dget (room_u1 hr) (pv 1) pe_str (fun _ _ => rfl)) (pe_dget (room_u1 hr) (pv 1) pe_str (fun _ _ => rfl)) (nomark _)))))
      (pss_cons (ps_set (i := 3) S.nd rfl (Or.inl rfl) (pe_lst (pa_cons (pe_tup (pa_cons (pe_fld (pv 0) rfl) (pa_cons (pe_dget (room_u1 hr) (pv 1) pe_str (fun _ _ => rfl)) pa_nil))) (pa_cons (pe_tup (pa_cons (pe_fld (pv 0) rfl) (pa_cons (pe_dget (room_u1 hr) (pv 1) pe_str (fun _ _ => rfl)) pa_nil))) (pa_cons (pe_tup (pa_cons (pe_prop (pv 0) T.cl_Inbox T.PR_Inbox_limit (ok_Inbox_limit T) (hr.mono (by decide)) T.B_Inbox_limit .nil pass0 rfl) (pa_cons (pe_dget (room_u1 hr) (pv 1) pe_str (fun _ _ => rfl)) pa_nil))) pa_nil)))))
      (pss_cons (ps_set (i := 3) S.nd rfl (Or.inl rfl) (pe_op op_cat (pv 3) (pe_lst (pa_cons (pe_tup (pa_cons (pe_prop (pv 0) T.cl_Inbox T.PR_Inbox_edge (ok_Inbox_edge T) (hr.mono (by decide)) T.B_Inbox_edge .nil pass0 rfl) (pa_cons (pe_call (ok__law_edge T) (hr.mono (by decide)) rfl T.g__law_edge T.F__law_edge.kp T.B__law_edge .nil pass0 (pa_cons (pv 1) pa_nil)) pa_nil))) (pa_cons (pe_tup (pa_cons (pe_prop (pv 0) T.cl_Inbox T.PR_Inbox_room (ok_Inbox_room T) (hr.mono (by decide)) T.B_Inbox_room .nil pass0 rfl) (pa_cons (pe_op op_sub (pe_call (ok__law_edge T) (hr.mono (by decide)) rfl T.g__law_edge T.F__law_edge.kp T.B__law_edge .nil pass0 (pa_cons (pv 1) pa_nil)) (pe_dget (room_u1 hr) (pv 1) pe_str (fun _ _ => rfl))) pa_nil))) pa_nil)))))
      (pss_cons (ps_set (i := 3) S.nd rfl (Or.inl rfl) (pe_op op_cat (pv 3) (pe_lst (pa_cons (pe_tup (pa_cons (pe_prop (pv 0) T.cl_Inbox T.PR_Inbox_ready (ok_Inbox_ready T) (hr.mono (by decide)) T.B_Inbox_ready .nil pass0 rfl) (pa_cons (pe_op op_sub (pe_dget (room_u1 hr) (pv 1) pe_str (fun _ _ => rfl)) (pe_dget (room_u1 hr) (pv 1) pe_str (fun _ _ => rfl))) pa_nil))) (pa_cons (pe_tup (pa_cons (pe_prop (pv 0) T.cl_Inbox T.PR_Inbox_expected (ok_Inbox_expected T) (hr.mono (by decide)) T.B_Inbox_expected .nil pass0 rfl) (pa_cons (pe_op op_add (pe_dget (room_u1 hr) (pv 1) pe_str (fun _ _ => rfl)) (pe_callTy (T := "int") call_int1 (by rfl) T.b_int (by decide +kernel) (pa_cons (pv 2) pa_nil))) pa_nil))) pa_nil)))))
      (pss_cons (ps_set (i := 3) S.nd rfl (Or.inl rfl) (pe_op op_cat (pv 3) (pe_lst (pa_cons (pe_tup (pa_cons (pe_fld (pv 0) rfl) (pa_cons (pe_dget (room_u1 hr) (pv 1) pe_str (fun _ _ => rfl)) pa_nil))) pa_nil))))
      (pss_cons (ps_set (i := 3) S.nd rfl (Or.inl rfl) (pe_op op_cat (pv 3) (pe_lst (pa_cons (pe_tup (pa_cons (pe_prop (pv 0) T.cl_Inbox T.PR_Inbox_urgent_count (ok_Inbox_urgent_count T) (hr.mono (by decide)) T.B_Inbox_urgent_count .nil pass0 rfl) (pa_cons (pe_callB (id := "max") (call_max2K rfl) (by rfl) T.b_max (by decide +kernel) (pa_cons pe_int (pa_cons (pe_op op_sub (pe_dget (room_u1 hr) (pv 1) pe_str (fun _ _ => rfl)) (pe_dget (room_u1 hr) (pv 1) pe_str (fun _ _ => rfl))) pa_nil))) pa_nil))) pa_nil))))
      (C8.pss_cut (ps_if (pt_cmpR op_notN (pe_dget (room_u1 hr) (pv 1) pe_str (fun _ _ => rfl)) pe_non (nomark _)) (pss_one (ps_expr (pe_bm PySem.F.plainAttrs_list PySem.F.slot_list_append PySem.F.type_list_append mt_append (pv 3) (pa_cons (pe_tup (pa_cons (pe_fld (pv 0) rfl) (pa_cons (pe_dget (room_u1 hr) (pv 1) pe_str (fun _ _ => rfl)) pa_nil))) pa_nil)))) (pss_one (ps_if (pt_cmpR op_notN (pe_fld (pv 0) rfl) pe_non (nomark _)) (pss_one (ps_ret pe_bl)) pss_nil)))
      (pss_cons (ps_for PassesOwn.never rfl (pi_list (pv 3)) (pg_name (i := 4) S.nd rfl (Or.inl rfl)) (pss_one (ps_if (PW.pt (pw_or (pt_not (pt_val (pe_call (ok__law_is_whole T) (hr.mono (by decide)) rfl T.g__law_is_whole T.F__law_is_whole.kp T.B__law_is_whole .nil pass0 (pa_cons (pe_ix ix_tup (pv 4) pe_int (fun _ _ => rfl)) pa_nil)))) (pw_or1 (pt_cmpR op_ne (pe_ix ix_tup (pv 4) pe_int (fun _ _ => rfl)) (pe_ix ix_tup (pv 4) pe_int (fun _ _ => rfl)) (nomark _))))) (pss_one (ps_ret pe_bl)) pss_nil)))
      (pss_cons (ps_if (PW.pt (pw_or (PW.pt (pw_and (pt_val (pv 2)) (pw_and1 (pt_cmpR op_isnot_bl (pe_prop (pv 0) T.cl_Inbox T.PR_Inbox_ended (ok_Inbox_ended T) (hr.mono (by decide)) T.B_Inbox_ended .nil pass0 rfl) pe_bl (nomark _))))) (pw_or1 (PW.pt (pw_and (pt_not (pt_val (pv 2))) (pw_and1 (pt_cmpR op_isnot_bl (pe_prop (pv 0) T.cl_Inbox T.PR_Inbox_ended (ok_Inbox_ended T) (hr.mono (by decide)) T.B_Inbox_ended .nil pass0 rfl) pe_bl (nomark _)))))))) (pss_one (ps_ret pe_bl)) pss_nil)
      (pss_one (ps_ret (pe_call (ok__law_told T) (hr.mono (by decide)) rfl T.g__law_told T.F__law_told.kp T.B__law_told .nil pass0 (pa_cons (pv 0) (pa_cons (pv 1) pa_nil)))))))))))))), ?_⟩
    refine st__law_state ?_
    o_args
    have e1 := w.r.nx
    have e2 := w.r.rd
    have e3 := w.r.li
    have e4 : B.edge = S0.edge := by unfold Ib.edge Sx.edge; rw [e1, e2, e3]
    have e5 := w.r.fed
    have e6 := w.r.ur
    have e7 := w.r.fi
    refine ⟨fun σ H' => σ = [some (.ref p), some (.ref q), some (.bl S0.fed), none, none] ∧ H = H', ?_, ?_⟩
    · unfold Sx.fed
      o_args
      cases hf : S0.fin with
      | none =>
        rw [hf] at hq
        simp only [finV] at hq
        refine brT (by rfl) ?_
        o_args
        exact ⟨by rw [show decide (none = some S0.nx) = false by simp], rfl⟩
      | some f =>
        rw [hf] at hq
        simp only [finV] at hq
        refine brF (by rfl) ?_
        o_args
        exact ⟨by rw [show decide (some f = some S0.nx) = decide (f = S0.nx) by simp], rfl⟩
    rintro σ H0 ⟨rfl, rfl⟩
    o_args
    refine fget hp T.cl_Inbox T.n_Inbox_next_offset rfl ?_
    o_args
    refine newTup (by simp) fun t1 H1 n1 s1 h1 => ?_
    have hp1 := s1 _ _ hp
    have hq1 := s1 _ _ hq
    o_args
    refine fget hp1 T.cl_Inbox T.n_Inbox_read_offset rfl ?_
    o_args
    refine newTup (by simp) fun t2 H2 n2 s2 h2 => ?_
    have S2 := s1.trans s2
    have hp2 := S2 _ _ hp
    have hq2 := S2 _ _ hq
    o_args
    refine ⟨p, dx, _, rfl, hp2, p, d, e, F, m, B, rfl, w.i.same S2, ?_⟩
    o_args
    refine newTup (by simp) fun t3 H3 n3 s3 h3 => ?_
    o_args
    refine newList (by simp) fun l1 H4 n4 s4 h4 => ?_
    have S4 := (S2.trans s3).trans s4
    have hp4 := S4 _ _ hp
    have hq4 := S4 _ _ hq
    have w4 := w.same S4
    clear hp1 hq1 hp2 hq2
    o_args
    refine ⟨p, dx, _, rfl, hp4, p, d, e, F, m, B, rfl, w4.i, ?_⟩
    o_args
    refine ⟨q, c, S0, rfl, w4.s, ?_⟩
    o_args
    refine newTup (by simp) fun t4 H5 n5 s5 h5 => ?_
    have S5 := S4.trans s5
    have hp5 := S5 _ _ hp
    have hq5 := S5 _ _ hq
    have w5 := w.same S5
    o_args
    refine ⟨p, dx, _, rfl, hp5, p, d, e, F, m, B, rfl, w5.i, ?_⟩
    o_args
    refine ⟨q, c, S0, rfl, w5.s, ?_⟩
    o_args
    refine newTup (by simp) fun t5 H6 n6 s6 h6 => ?_
    o_args
    refine newList (by simp) fun l2 H7 n7 s7 h7 => ?_
    o_args
    refine catList ((s5.trans (s6.trans s7)) _ _ h4) h7 (by simp) fun l3 H8 n8 s8 h8 => ?_
    have S8 := ((S5.trans s6).trans s7).trans s8
    have hp8 := S8 _ _ hp
    have hq8 := S8 _ _ hq
    have w8 := w.same S8
    clear hp4 hq4 hp5 hq5 w4 w5
    o_args
    refine ⟨p, dx, _, rfl, hp8, p, d, e, F, m, B, rfl, w8.i, ?_⟩
    o_args
    refine newTup (by simp) fun t6 H9 n9 s9 h9 => ?_
    have S9 := S8.trans s9
    have hp9 := S9 _ _ hp
    have hq9 := S9 _ _ hq
    have w9 := w.same S9
    o_args
    refine ⟨p, dx, _, rfl, hp9, p, d, e, F, m, B, rfl, w9.i, ?_⟩
    o_args
    refine .inr ⟨S0.fed, rfl, ?_⟩
    o_args
    refine newTup (by simp) fun t7 HA nA sA hA => ?_
    o_args
    refine newList (by simp) fun l4 HB nB sB hB => ?_
    o_args
    refine catList ((s9.trans (sA.trans sB)) _ _ h8) hB (by simp) fun l5 HC nC sC hC => ?_
    have SC := ((S9.trans sA).trans sB).trans sC
    have hpC := SC _ _ hp
    have hqC := SC _ _ hq
    have wC := w.same SC
    clear hp8 hq8 hp9 hq9 w8 w9
    o_args
    refine fget hpC T.cl_Inbox T.n_Inbox_urgent_end rfl ?_
    o_args
    refine newTup (by simp) fun t8 HD nD sD hD => ?_
    o_args
    refine newList (by simp) fun l6 HE nE sE hE => ?_
    o_args
    refine catList ((sD.trans sE) _ _ hC) hE (by simp) fun l7 HF nF sF hF => ?_
    have SF := ((SC.trans sD).trans sE).trans sF
    have hpF := SF _ _ hp
    have hqF := SF _ _ hq
    have wF := w.same SF
    clear hpC hqC wC
    o_args
    refine ⟨p, dx, _, rfl, hpF, p, d, e, F, m, B, rfl, wF.i, ?_⟩
    o_args
    refine newTup (by simp) fun t9 HG nG sG hG => ?_
    o_args
    refine newList (by simp) fun l8 HI nI sI hI => ?_
    o_args
    refine catList ((sG.trans sI) _ _ hF) hI (by simp) fun l9 HJ nJ sJ hJ => ?_
    have SJ := ((SF.trans sG).trans sI).trans sJ
    have hpJ := SJ _ _ hp
    have hqJ := SJ _ _ hq
    have wJ := w.same SJ
    clear hpF hqF wF
    have all : ∀ x ∈ [V.ref t1, V.ref t2, V.ref t3] ++ [V.ref t4, V.ref t5] ++ [V.ref t6, V.ref t7] ++ [V.ref t8] ++ [V.ref t9], ∃ t y, x = .ref t ∧ HJ t = some (.tup [.int y, .int y]) := by
      have zG := sG.trans (sI.trans sJ)
      have zC := sC.trans (sD.trans (sE.trans (sF.trans zG)))
      have z9 := s9.trans (sA.trans (sB.trans zC))
      have z5 := s6.trans (s7.trans (s8.trans z9))
      have z3 := s4.trans (s5.trans z5)
      intro x hx
      simp only [List.cons_append, List.nil_append, List.mem_cons, List.not_mem_nil, or_false] at hx
      rcases hx with rfl | rfl | rfl | rfl | rfl | rfl | rfl | rfl | rfl
      · exact ⟨t1, S0.nx, rfl, by rw [(s2.trans (s3.trans z3)) _ _ h1, e1]⟩
      · exact ⟨t2, S0.rd, rfl, by rw [(s3.trans z3) _ _ h2, e2]⟩
      · exact ⟨t3, S0.lim, rfl, by rw [z3 _ _ h3, e3]⟩
      · exact ⟨t4, S0.edge, rfl, by rw [z5 _ _ h5, e4]⟩
      · exact ⟨t5, S0.edge - S0.nx, rfl, by rw [(s7.trans (s8.trans z9)) _ _ h6, e4, e1]⟩
      · exact ⟨t6, S0.nx - S0.rd, rfl, by rw [(sA.trans (sB.trans zC)) _ _ h9, e1, e2]⟩
      · exact ⟨t7, S0.nx + (if S0.fed = true then 1 else 0), rfl, by
          rw [(sB.trans zC) _ _ hA]
          unfold Ib.exp
          rw [e5, e1]
          cases S0.fed <;> simp⟩
      · exact ⟨t8, S0.urg, rfl, by rw [(sE.trans (sF.trans zG)) _ _ hD, e6]⟩
      · exact ⟨t9, max 0 (S0.urg - S0.rd), rfl, by rw [(sI.trans sJ) _ _ hG, e6, e2]⟩
    have len : ([V.ref t1, V.ref t2, V.ref t3] ++ [V.ref t4, V.ref t5] ++ [V.ref t6, V.ref t7] ++ [V.ref t8] ++ [V.ref t9]).length = 9 := rfl
    generalize [V.ref t1, V.ref t2, V.ref t3] ++ [V.ref t4, V.ref t5] ++ [V.ref t6, V.ref t7] ++ [V.ref t8] ++ [V.ref t9] = xs at hJ all len
    have l9n : H l9 = none := none_of ((SF.trans sG).trans sI) nJ
    o_args
    refine ⟨fun σ H' => σ = [some (.ref p), some (.ref q), some (.bl S0.fed), some (.ref l9), none] ∧ Same H H' ∧ ∃ ys, H' l9 = some (.lst ys) ∧ ∀ x ∈ ys, ∃ t y, x = .ref t ∧ H' t = some (.tup [.int y, .int y]), ?_, ?_⟩
    · o_args
      cases hf : S0.fin with
      | none =>
        rw [hf] at hqJ e7
        simp only [finV] at hqJ
        refine brT (by rfl) ?_
        o_args
        refine fget hpJ T.cl_Inbox T.n_Inbox_final rfl ?_
        rw [e7]
        refine ⟨rfl, false, by rfl, ?_⟩
        rw [if_neg (by simp)]
        o_args
        exact ⟨rfl, SJ, xs, hJ, all⟩
      | some f =>
        rw [hf] at hqJ e7
        simp only [finV] at hqJ
        refine brF (by rfl) ?_
        o_args
        refine ⟨isList hJ, ?_⟩
        o_args
        refine fget hpJ T.cl_Inbox T.n_Inbox_final rfl ?_
        o_args
        refine newTup (by simp) fun tA HK nK sK hK => ?_
        o_args
        have hK' : HK tA = some (.tup [.int f, .int f]) := by rw [hK, e7]; rfl
        refine appList (sK _ _ hJ) (by omega) fun HL sL hL => ?_
        have ne : ∀ {t : Addr} {ys}, HK t = some (.tup ys) → t ≠ l9 := fun h z => by
          have := sK _ _ hJ
          rw [z, this] at h
          cases h
        o_args
        refine ⟨rfl, Ch.same (((Ch.of (SJ.trans sK)).trans (Ch.ofX (a := l9) (G := [l9]) (by simp) sL hL)).drop l9n), _, hL, fun x hx => ?_⟩
        rcases List.mem_append.mp hx with hx | hx
        · obtain ⟨t, y, rfl, ht⟩ := all x hx
          exact ⟨t, y, rfl, sL _ _ (ne (sK _ _ ht)) (sK _ _ ht)⟩
        · rw [List.mem_singleton.mp hx]
          exact ⟨tA, f, rfl, sL _ _ (ne hK') hK'⟩
    rintro σ HB' ⟨rfl, SB, ys, hB', all⟩
    have wB := w.same SB
    have hpB := SB _ _ hp
    clear hpJ hqJ wJ
    o_args
    refine overL (SqL.of hB') (for_list (K := K) (a := l9) (xs := ys) (fun i σ H' => (∃ v, σ = [some (.ref p), some (.ref q), some (.bl S0.fed), some (.ref l9), v]) ∧ H' = HB') ⟨⟨none, rfl⟩, rfl⟩ (fun i σ H' _ h => by rw [h.2]; exact SqL.of hB') ?_ ?_)
    · rintro i x σ H' hx ⟨⟨v, rfl⟩, rfl⟩
      obtain ⟨t, y, rfl, ht⟩ := all x (List.mem_of_getElem? hx)
      o_args
      refine ⟨_, true, rfl, intK_int _, ?_⟩
      o_args
      refine brT (decide_eq_true rfl) ?_
      o_args
      exact ⟨⟨_, rfl⟩, rfl⟩
    · rintro σ H' ⟨⟨v, rfl⟩, rfl⟩
      have tail : ∀ {D : VK}, (∀ HC, Same H' HC → D (.bl true) HC) → sp__law_told K T.c_Inbox T.c_Spans [.ref p, .ref q] H' D E0 := fun kk => ⟨p, d, e, q, c, F, m, B, S0, rfl, wB, kk⟩
      o_args
      cases hb : S0.fed with
      | true =>
        rw [hb] at e5
        refine brT (by rfl) ?_
        o_args
        refine ⟨p, dx, _, rfl, hpB, p, d, e, F, m, B, rfl, wB.i, ?_⟩
        o_args
        rw [e5]
        refine ⟨true, true, rfl, rfl, false, rfl, ?_⟩
        rw [if_neg (by simp)]
        o_args
        refine tail fun HC sC => ?_
        o_args
        exact k HC (SB.trans sC)
      | false =>
        rw [hb] at e5
        refine brF (by rfl) ?_
        o_args
        refine ⟨p, dx, _, rfl, hpB, p, d, e, F, m, B, rfl, wB.i, ?_⟩
        o_args
        rw [e5]
        refine ⟨false, false, rfl, rfl, false, rfl, ?_⟩
        rw [if_neg (by simp)]
        o_args
        refine tail fun HC sC => ?_
        o_args
        exact k HC (SB.trans sC)
/-! ### the law's takes -/
/-- the draws' box, the inbox and its account -/
structure Bw (C Cs a p d e q c : Addr) (FB F : List Addr) (m : Nat) (B : Ib) (S : Sx) (H : Hp) : Prop where
  b : Box a FB H
  w : Iw C Cs p d e q c F m B S H
  al : Al F H
  fb : p ∈ FB ∧ d ∈ FB ∧ e ∈ FB ∧ q ∈ FB ∧ c ∈ FB
  fa : a ∈ F
  alb : Al FB H
section
variable {C Cs a p d e q c x : Addr} {FB F : List Addr} {m : Nat} {B : Ib} {S : Sx} {H H' : Hp}
theorem Iw.ch {G : List Addr} (w : Iw C Cs p d e q c F m B S H) (x : Ch G H H') (h : ∀ b ∈ G, b ∈ F) (n : ∀ b ∈ [p, d, q, c], b ∉ G) : Iw C Cs p d e q c F m B S H' := ⟨w.i.ch x h (n p (by simp)) (n d (by simp)), w.s.ch x (n q (by simp)) (n c (by simp)), w.r, w.z, w.ap, w.ne, w.m5⟩
theorem Iw.own (w : Iw C Cs p d e q c F m B S H) (hx : H x = none) (s : Same H H') : Iw C Cs p d e q c (x :: F) m B S H' := ⟨w.i.own hx s, w.s.same s, w.r, w.z, ⟨List.mem_cons_of_mem _ w.ap.1, List.mem_cons_of_mem _ w.ap.2⟩, w.ne, w.m5⟩
theorem Iw.less (w : Iw C Cs p d e q c (x :: F) m B S H) (h1 : p ∈ F) (h2 : d ∈ F) (h3 : q ∈ F) (h4 : c ∈ F) : Iw C Cs p d e q c F m B S H := ⟨w.i.less (fun b hb => List.mem_cons_of_mem _ hb) h1 h2, w.s, w.r, w.z, ⟨h3, h4⟩, w.ne, w.m5⟩
theorem Bw.draw (w : Bw C Cs a p d e q c FB F m B S H) (x : Ch [a] H H') (b : Box a FB H') : Bw C Cs a p d e q c FB F m B S H' := ⟨b, w.w.ch x (fun y hy => by rw [List.mem_singleton.mp hy]; exact w.fa) (fun y hy z => by
  rw [List.mem_singleton.mp z] at hy
  have n := w.b.nin
  simp only [List.mem_cons, List.not_mem_nil, or_false] at hy
  rcases hy with rfl | rfl | rfl | rfl
  · exact n w.fb.1
  · exact n w.fb.2.1
  · exact n w.fb.2.2.2.1
  · exact n w.fb.2.2.2.2), w.al.ch x, w.fb, w.fa, w.alb.ch x⟩
theorem Bw.same (w : Bw C Cs a p d e q c FB F m B S H) (s : Same H H') : Bw C Cs a p d e q c FB F m B S H' := ⟨w.b.same s, w.w.same s, w.al.same s, w.fb, w.fa, w.alb.same s⟩
theorem Bw.qa (w : Bw C Cs a p d e q c FB F m B S H) : q ≠ a ∧ c ≠ a := ⟨fun z => w.b.nin (z ▸ w.fb.2.2.2.1), fun z => w.b.nin (z ▸ w.fb.2.2.2.2)⟩
/-- one who takes, and the account -/
theorem Iw.took {B' : Ib} {S' : Sx} {off r r' : Int} {ns : List Int} {H1 H2 : Hp} (w : Iw C Cs p d e q c F m B S H) (hm : m + ns.length ≤ 5000) (t : Took B B' off ns r) (i : InAt C Cs p d e F (m + ns.length) B' H1) (u : Stored S S' off ns r') (s : StAt H2 q c S') (x : Ch [q, c] H1 H2) : r = r' ∧ Iw C Cs p d e q c F (m + ns.length) B' S' H2 := by
  obtain ⟨er, R⟩ := w.r.took t u
  obtain ⟨_, _, n3, n4, _⟩ := w.apart
  refine ⟨er, i.ch x (fun b hb => ?_) n3 n4, s, R, by have := u.kz; have := w.z; omega, w.ap, w.ne, hm⟩
  simp only [List.mem_cons, List.not_mem_nil, or_false] at hb
  rcases hb with rfl | rfl
  · exact w.ap.1
  · exact w.ap.2
end
/-- bytes in a list or in a tuple -/
def DatW (H : Hp) (d : Addr) (ns : List Int) : Prop := H d = some (.lst (ns.map V.int)) ∨ H d = some (.tup (ns.map V.int))
theorem DatW.seq {K : PySem.W.Frag} {H : Hp} {d : Addr} {ns : List Int} (h : DatW H d ns) : SeqA K H d (ns.map V.int) := h.elim .lst .tup
theorem DatW.same {H H' : Hp} {d : Addr} {ns : List Int} (h : DatW H d ns) (s : Same H H') : DatW H' d ns := h.elim (fun h => .inl (s _ _ h)) fun h => .inr (s _ _ h)
theorem DatW.ch {H H' : Hp} {d : Addr} {ns : List Int} {G : List Addr} (h : DatW H d ns) (s : Ch G H H') (n : d ∉ G) : DatW H' d ns := h.elim (fun h => .inl (s.at n h)) fun h => .inr (s.at n h)
theorem DatW.some {H : Hp} {d : Addr} {ns : List Int} (h : DatW H d ns) : H d ≠ none := fun z => by rcases h with h | h <;> rw [z] at h <;> cases h
/-- a list or a tuple is none of the inbox's three nor the account -/
theorem Iw.off {C Cs p d e q c x : Addr} {F : List Addr} {m : Nat} {B : Ib} {S : Sx} {H : Hp} {ns : List Int} (w : Iw C Cs p d e q c F m B S H) (h : DatW H x ns) : x ∉ [p, d, e, q, c] := fun z => by
  obtain ⟨dx, hp⟩ := w.i.oo
  obtain ⟨kvs, hd, _⟩ := id w.i.dd
  obtain ⟨dxe, l, ts, he, _⟩ := id w.i.ee
  have hq := w.s.sq
  obtain ⟨tk, hc, _⟩ := id w.s.sc
  simp only [List.mem_cons, List.not_mem_nil, or_false] at z
  rcases z with rfl | rfl | rfl | rfl | rfl <;> rcases h with h | h
  · rw [hp] at h; cases h
  · rw [hp] at h; cases h
  · rw [hd] at h; cases h
  · rw [hd] at h; cases h
  · rw [he] at h; cases h
  · rw [he] at h; cases h
  · rw [hq] at h; cases h
  · rw [hq] at h; cases h
  · rw [hc] at h; cases h
  · rw [hc] at h; cases h
def sp__law_takes (K : PySem.W.Frag) (C Cs : Addr) : Sp := fun vs H Q _ => ∃ (a p d e q c : Addr) (FB F : List Addr) (m : Nat) (B : Ib) (S : Sx), vs = [.ref a, .ref p, .ref q] ∧ Bw C Cs a p d e q c FB F m B S H ∧ m ≤ 4900 ∧
  ∀ H' m' B' S', Bw C Cs a p d e q c FB F m' B' S' H' → m' ≤ m + 40 → Ch [a, p, d, e, q, c] H H' → Q (.bl true) H'
set_option maxHeartbeats 0 in
theorem ok__law_takes (T : Txt K mg) : FnOk P w K mg base CX0 9 T.a__law_takes T.fd__law_takes ["box", "inbox", "state"] (sp__law_takes K T.c_Inbox T.c_Spans) := by
  have S := sc__law_takes
  refine T.F__law_takes.ok S (fun vs H Q E h => ?_) (fun cdv A outer s H vs Q E hr h => ?_)
  · obtain ⟨a, p, d, e, q, c, FB, F, m, B, S, rfl, _⟩ := h
    rfl
  · obtain ⟨a, p, d, e, q, c, FB, F, m, B, S0, rfl, w, hm, k⟩ := h
    have nx := w.w.nx
    have qa := w.qa
    refine ⟨_, (pss_cons (ps_set (i := 3) S.nd rfl (Or.inl rfl) (pe_call (ok__law_offset T) (hr.mono (by decide)) rfl T.g__law_offset T.F__law_offset.kp T.B__law_offset .nil pass0 (pa_cons (pv 0) (pa_cons (pv 2) pa_nil))))
      (pss_cons (ps_set (i := 4) S.nd rfl (Or.inl rfl) (pe_call (ok__law_bytes T) (hr.mono (by decide)) rfl T.g__law_bytes T.F__law_bytes.kp T.B__law_bytes .nil pass0 (pa_cons (pv 0) (pa_cons pe_int pa_nil))))
      (pss_cons (ps_set (i := 5) S.nd rfl (Or.inl rfl) (pe_callTy (T := "list") (call_listK (K := K) rfl) (by rfl) T.b_list (by decide +kernel) (pa_cons (pv 4) pa_nil)))
      (C8.pss_cut (ps_if (pt_cmpR op_eq (pe_call (ok__law_draw T) (hr.mono (by decide)) rfl T.g__law_draw T.F__law_draw.kp T.B__law_draw .nil pass0 (pa_cons (pv 0) (pa_cons pe_int pa_nil))) pe_int (nomark _)) (pss_one (ps_set (i := 4) S.nd rfl (Or.inl rfl) (pe_callTy (T := "tuple") (call_tupK (K := K) rfl) (by rfl) T.b_tuple (by decide +kernel) (pa_cons (pv 4) pa_nil)))) pss_nil)
      (pss_cons (ps_set (i := 6) S.nd rfl (Or.inl rfl) (pe_meth (pv 1) T.cl_Inbox T.m_Inbox_take (ok_Inbox_take T) (hr.mono (by decide)) T.B_Inbox_take .nil passL (pa_cons (pv 3) (pa_cons (pv 4) pa_nil))))
      (pss_cons (ps_if (PW.pt (pw_or (pt_cmpR (op_neD hr.units) (pe_callTy (T := "list") (call_listK (K := K) rfl) (by rfl) T.b_list (by decide +kernel) (pa_cons (pv 4) pa_nil)) (pv 5) (nomark _)) (pw_or1 (pt_not (pt_val (pe_call (ok__law_is_whole T) (hr.mono (by decide)) rfl T.g__law_is_whole T.F__law_is_whole.kp T.B__law_is_whole .nil pass0 (pa_cons (pv 6) pa_nil))))))) (pss_one (ps_ret pe_bl)) pss_nil)
      (C8.pss_cut (ps_if (pt_val (pe_callB (id := "isinstance") call_isi (by rfl) T.b_isinstance (by decide +kernel) (pa_cons (pv 4) (pa_cons (pe_bltn (v := .ty "list") (u := .type "list") (by rfl) T.b_list (by decide +kernel) rfl) pa_nil)))) (pss_cons (ps_expr (pe_bm PySem.F.plainAttrs_list PySem.F.slot_list_append PySem.F.type_list_append mt_append (pv 4) (pa_cons pe_int pa_nil)))
      (pss_one (ps_asg pe_int (pg_sub (pv 4) pe_int set_list)))) pss_nil)
      (pss_one (ps_ret (pe_cmpR op_eq (pv 6) (pe_call (ok__law_stores T) (hr.mono (by decide)) rfl T.g__law_stores T.F__law_stores.kp T.B__law_stores .nil pass0 (pa_cons (pv 2) (pa_cons (pv 3) (pa_cons (pv 5) pa_nil)))) (nomark _))))))))))), ?_⟩
    refine st__law_takes ?_
    o_args
    refine ⟨a, q, c, FB, S0, rfl, w.b, w.w.s, qa.1, qa.2, nx.1, by omega, fun off H1 o0 o1 B1 c1 => ?_⟩
    have w1 := w.draw c1 B1
    o_args
    refine ⟨a, FB, 40, rfl, by decide, by decide, B1, fun D ns H2 nD hD hb hl B2 c2 => ?_⟩
    have wD := (w1.w.own nD (Same.refl _)).ch c2 (fun b hb => by rw [List.mem_singleton.mp hb]; exact List.mem_cons_of_mem _ w.fa) (fun y hy z => by
      rw [List.mem_singleton.mp z] at hy
      have n := w.b.nin
      simp only [List.mem_cons, List.not_mem_nil, or_false] at hy
      rcases hy with rfl | rfl | rfl | rfl
      · exact n w.fb.1
      · exact n w.fb.2.1
      · exact n w.fb.2.2.2.1
      · exact n w.fb.2.2.2.2)
    have Da : D ≠ a := fun z => B2.nin (z ▸ List.mem_cons_self)
    o_args
    refine listOf (SeqA.lst hD) fun kp H3 n3 s3 h3 => ?_
    have B3 := B2.same s3
    have w3 := wD.same s3
    have hD3 := s3 _ _ hD
    have ka : kp ≠ a := B2.off n3
    have kD : kp ≠ D := fun z => by rw [z, hD] at n3; cases n3
    have kF : H kp = none := (c1.trans c2).none n3
    o_args
    refine ⟨fun σ H' => ∃ dd, σ = [some (.ref a), some (.ref p), some (.ref q), some (.int off), some (.ref dd), some (.ref kp), none] ∧ DatW H' dd ns ∧ dd ≠ kp ∧ Box a (dd :: FB) H' ∧ Iw T.c_Inbox T.c_Spans p d e q c (dd :: F) m B S0 H' ∧ H' kp = some (.lst (ns.map V.int)) ∧ Ch [a] H H' ∧ H dd = none, ?_, ?_⟩
    · o_args
      refine ⟨a, D :: FB, _, rfl, B3, by decide, by decide, fun n H4 m0 m1 B4 c4 => ?_⟩
      have w4 := w3.ch c4 (fun b hb => by rw [List.mem_singleton.mp hb]; exact List.mem_cons_of_mem _ w.fa) (fun y hy z => by
        rw [List.mem_singleton.mp z] at hy
        have n := w.b.nin
        simp only [List.mem_cons, List.not_mem_nil, or_false] at hy
        rcases hy with rfl | rfl | rfl | rfl
        · exact n w.fb.1
        · exact n w.fb.2.1
        · exact n w.fb.2.2.2.1
        · exact n w.fb.2.2.2.2)
      have hD4 := c4.at (by simp [Da]) hD3
      have hk4 := c4.at (by simp [ka]) h3
      have C4 : Ch [a] H H4 := ((c1.trans c2).trans (Ch.of s3)).trans c4
      o_args
      refine brD (fun cc => ?_) (fun cc => ?_)
      · o_args
        refine ⟨D, _, rfl, .inl ⟨SqL.of hD4, fun t nt => ?_⟩⟩
        have s5 := Same.new (o := .tup (ns.map V.int)) nt
        have h5 : upd H4 t (.tup (ns.map V.int)) t = some (.tup (ns.map V.int)) := upd_same
        generalize upd H4 t (.tup (ns.map V.int)) = H5 at s5 h5
        have w5 := (w4.less w.w.i.ff.1 w.w.i.ff.2 w.w.ap.1 w.w.ap.2).own nt s5
        have B5 := (B4.less (G := FB) fun b hb => List.mem_cons_of_mem _ hb).own nt s5
        o_args
        exact ⟨t, rfl, .inr h5, (fun z => by rw [z, hk4] at nt; cases nt), B5, w5, s5 _ _ hk4, C4.trans (Ch.of s5), C4.none nt⟩
      · o_args
        exact ⟨D, rfl, .inl hD4, kD.symm, B4, w4, hk4, C4, c1.none nD⟩
    · rintro σ H5 ⟨dd, rfl, hdd, dk, B5, w5, hk5, c5, ndd⟩
      obtain ⟨dx, hp5⟩ := w5.i.oo
      have hoff := w5.off hdd
      have koff := w5.off (x := kp) (.inl hk5)
      have A5 : Al (dd :: F) H5 := fun b hb => (List.mem_cons.mp hb).elim (fun z => z ▸ hdd.some) (w.al.ch c5 b)
      o_args
      refine ⟨p, dx, _, rfl, hp5, rfl, ?_⟩
      o_args
      refine ⟨p, d, e, dd :: F, m, B, _, _, rfl, w5.i, A5, w5.r.g, by omega, by have := w5.r.nx; omega, .inl ⟨off, rfl, o0, .inl ⟨dd, ns, rfl, hdd.seq, hb, by omega, fun B' r H6 tk i6 c6 => ?_⟩⟩⟩
      have p3 : ∀ {x}, x ∉ [p, d, e, q, c] → x ∉ [p, d, e] := fun n z => n (by simp only [List.mem_cons, List.not_mem_nil, or_false] at z ⊢; rcases z with z | z | z <;> simp [z])
      have q3 : ∀ {x}, x ∉ [p, d, e, q, c] → x ∉ [q, c] := fun n z => n (by simp only [List.mem_cons, List.not_mem_nil, or_false] at z ⊢; rcases z with z | z <;> simp [z])
      have hdd6 := hdd.ch c6 (p3 hoff)
      have hk6 := c6.at (p3 koff) hk5
      obtain ⟨ap1, ap2, ap3, ap4, ap5⟩ := w5.apart
      have st6 := w5.s.ch c6 ap1 ap2
      have B6 := B5.ch c6 (fun b hb => by
        simp only [List.mem_cons, List.not_mem_nil, or_false] at hb
        rcases hb with rfl | rfl | rfl
        · exact List.mem_cons_of_mem _ w.fb.1
        · exact List.mem_cons_of_mem _ w.fb.2.1
        · exact List.mem_cons_of_mem _ w.fb.2.2.1)
      o_args
      refine listOf hdd6.seq fun m2 H7 n7 s7 h7 => ?_
      have hdd7 := hdd6.same s7
      have hk7 := s7 _ _ hk6
      have i7 := i6.same s7
      have st7 := st6.same s7
      have B7 := B6.same s7
      o_args
      refine neLL (xs := ns) (ys := ns) (SqL.of h7) (SqL.of hk7) ?_
      o_args
      refine brDT rfl ?_
      o_args
      refine ⟨_, true, rfl, intK_int _, ?_⟩
      o_args
      refine ⟨fun σ H' => σ = [some (.ref a), some (.ref p), some (.ref q), some (.int off), some (.ref dd), some (.ref kp), some (.int r)] ∧ Ch [dd] H7 H', ?_, ?_⟩
      · rcases id hdd7 with D3 | D3
        · o_args
          refine ⟨_, _, _, _, true, rfl, .ty _, .base (.lst D3), kit_ty (by decide +kernel), ?_⟩
          o_args
          refine ⟨isList D3, ?_⟩
          o_args
          refine appList D3 (by rw [List.length_map]; omega) fun H4 s4 h4 => ?_
          o_args
          refine setL (i := 0) h4 (by simp) fun H5 s5 h5 => ?_
          o_args
          exact ⟨rfl, (Ch.ofX (by simp) s4 h4).trans (Ch.ofX (by simp) s5 h5)⟩
        · o_args
          refine ⟨_, _, _, _, false, rfl, .ty _, .base (.tup D3), kit_ty (by decide +kernel), ?_⟩
          o_args
          exact ⟨rfl, Ch.refl⟩
      · rintro σ H8 ⟨rfl, c8⟩
        have no : ∀ {x}, x ∈ [p, d, e, q, c] → x ∉ [dd] := fun hx z => hoff (List.mem_singleton.mp z ▸ hx)
        have i8 := i7.ch c8 (fun b hb => by rw [List.mem_singleton.mp hb]; exact List.mem_cons_self) (no (by simp)) (no (by simp))
        have st8 := st7.ch c8 (no (by simp)) (no (by simp))
        have hk8 := c8.at (by simpa using dk.symm) hk7
        have B8 := B7.ch c8 (fun b hb => by rw [List.mem_singleton.mp hb]; exact List.mem_cons_self)
        o_args
        refine ⟨q, c, kp, S0, off, ns, rfl, st8, SeqA.lst hk8, by omega, by have := w5.z; omega, fun S' r' H9 sd st9 c9 => ?_⟩
        obtain ⟨er, w9⟩ := w5.took (by omega) tk i8 sd st9 c9
        subst er
        have B9 := (B8.less (G := FB) fun b hb => List.mem_cons_of_mem _ hb).ch c9 (fun b hb => by
          simp only [List.mem_cons, List.not_mem_nil, or_false] at hb
          rcases hb with rfl | rfl
          · exact w.fb.2.2.2.1
          · exact w.fb.2.2.2.2)
        o_args
        have C9 : Ch [a, p, d, e, q, c] H H9 := by
          have c8' : Ch [dd, a, p, d, e, q, c] H H8 := ((c5.more (by simp)).trans (((c6.more (by simp)).trans (Ch.of s7)).trans (c8.more (by simp))))
          exact (c8'.drop ndd).trans (c9.more (by simp))
        rw [decide_eq_true rfl]
        exact k H9 _ B' S' ⟨B9, w9.less w.w.i.ff.1 w.w.i.ff.2 w.w.ap.1 w.w.ap.2, w.al.ch C9, w.fb, w.fa, w.alb.ch C9⟩ (by omega) C9
/-! ### the end and the urgent bytes, in the inbox and in its account -/
/-- the highest place that is stored, or the last one before the next -/
structure IsMost (S : Sx) (mo : Int) : Prop where
  ge : S.nx - 1 ≤ mo
  up : ∀ o, S.T o ≠ none → o ≤ mo
  at_ : mo = S.nx - 1 ∨ S.T mo ≠ none
theorem Rel.least {B : Ib} {S : Sx} {mo : Int} (R : Rel B S) (N : Nrm B.ah) (h : IsMost S mo) : B.least = mo + 1 := by
  have e := R.nx
  have ge := h.ge
  unfold Ib.least
  rcases snoc_or B.ah with e0 | ⟨ra, r, e0⟩
  · rw [e0]
    show B.nx = _
    rcases h.at_ with c | c
    · omega
    · by_cases d : S.nx ≤ mo
      · have := (R.mem mo).mpr ⟨c, d⟩
        rw [e0] at this
        exact absurd this Mem.nil
      · omega
  · rw [e0, List.getLast?_append, List.getLast?_singleton]
    show r.2 = _
    have rm : r ∈ B.ah := by rw [e0]; simp
    have pos := N.1 r rm
    have m1 := (R.mem (r.2 - 1)).mp ⟨r, rm, by omega, by omega⟩
    have u1 := h.up _ m1.1
    have m2 : S.T mo ≠ none := by
      rcases h.at_ with c | c
      · have := m1.2; omega
      · exact c
    obtain ⟨x, hx, c1, c2⟩ := (R.mem mo).mpr ⟨m2, by have := m1.2; omega⟩
    rw [e0] at hx N
    have := N.le_last x hx
    omega
theorem IsMost.lt {B : Ib} {S : Sx} {mo : Int} (R : Rel B S) (h : IsMost S mo) : mo < S.nx + 65535 := by
  rcases h.at_ with c | c
  · omega
  · exact R.hi _ c
theorem Rel.setFin {B : Ib} {S : Sx} (R : Rel B S) (f : Option Int) : Rel { B with fin := f } { S with fin := f } := ⟨⟨R.g.r1, R.g.rn, R.g.ha, R.g.nn, R.g.lo, R.g.fu⟩, R.li, R.nx, R.rd, R.la, rfl, R.ur, R.st, R.fu, R.hi, R.lm⟩
theorem Rel.setUrg {B : Ib} {S : Sx} (R : Rel B S) (u : Int) : Rel { B with urg := u } { S with urg := u } := ⟨⟨R.g.r1, R.g.rn, R.g.ha, R.g.nn, R.g.lo, R.g.fu⟩, R.li, R.nx, R.rd, R.la, R.fi, rfl, R.st, R.fu, R.hi, R.lm⟩
theorem Rel.setLim {B : Ib} {S : Sx} (R : Rel B S) {n : Int} (h : n ≤ 65535) : Rel { B with lim := n } { S with lim := n } := ⟨⟨R.g.r1, R.g.rn, R.g.ha, R.g.nn, R.g.lo, R.g.fu⟩, rfl, R.nx, R.rd, R.la, R.fi, R.ur, R.st, R.fu, R.hi, h⟩
section
variable {C Cs a p d e q c x : Addr} {FB F : List Addr} {m : Nat} {B B' : Ib} {S S' : Sx} {H H' H1 : Hp}
theorem Bw.put (w : Bw C Cs a p d e q c FB F m B S H) (i : InAt C Cs p d e F m B' H') (s : StAt H' q c S') (r : Rel B' S') (z : S'.ks.length ≤ m) (x : Ch [p, d, e, q, c] H H') : Bw C Cs a p d e q c FB F m B' S' H' :=
  ⟨w.b.ch x fun b hb => by
    simp only [List.mem_cons, List.not_mem_nil, or_false] at hb
    obtain ⟨f1, f2, f3, f4, f5⟩ := w.fb
    rcases hb with rfl | rfl | rfl | rfl | rfl <;> assumption, ⟨i, s, r, z, w.w.ap, w.w.ne, w.w.m5⟩, w.al.ch x, w.fb, w.fa, w.alb.ch x⟩
theorem Bw.st (w : Bw C Cs a p d e q c FB F m B S H) (s1 : SameX q H H1) (h1 : H1 q = some (.dK (S'.kvs c))) (ek : S'.ks = S.ks) (eT : S'.T = S.T) : InAt C Cs p d e F m B H1 ∧ StAt H1 q c S' ∧ Ch [q] H H1 := by
  obtain ⟨ap1, ap2, ap3, ap4, ap5⟩ := w.w.apart
  have c1 : Ch [q] H H1 := Ch.ofX (by simp) s1 h1
  refine ⟨w.w.i.ch c1 (fun b hb => by rw [List.mem_singleton.mp hb]; exact w.w.ap.1) (fun z => ap3 (by rw [List.mem_singleton.mp z]; simp)) (fun z => ap4 (by rw [List.mem_singleton.mp z]; simp)), ⟨h1, ?_, w.w.s.ne⟩, c1⟩
  rw [ek, eT]
  exact w.w.s.sc.ch c1 (fun z => w.w.s.ne (List.mem_singleton.mp z).symm)
end
def sp__law_most : Sp := fun vs H Q _ => ∃ (q c : Addr) (S : Sx), vs = [.ref q] ∧ StAt H q c S ∧ S.ks.length ≤ 10000 ∧ ∀ mo H', Same H H' → IsMost S mo → Q (.int mo) H'
theorem ok__law_most (T : Txt K mg) : FnOk P w K mg base CX0 1 T.a__law_most T.fd__law_most ["state"] (sp__law_most) := by
  have S := sc__law_most
  refine T.F__law_most.ok S (fun vs H Q E h => ?_) (fun cdv A outer s H vs Q E hr h => ?_)
  · obtain ⟨q, c, S, rfl, _⟩ := h
    rfl
  · obtain ⟨q, c, S0, rfl, h, hz, k⟩ := h
    have hq := h.sq
    unfold Sx.kvs at hq
    obtain ⟨tk, hc, hkk, nd, ht⟩ := id h.sc
    refine ⟨_, (pss_cons (ps_set (i := 1) S.nd rfl (Or.inl rfl) (pe_op op_sub (pe_dget (room_u1 hr) (pv 0) pe_str (fun _ _ => rfl)) pe_int))
      (pss_cons (ps_for PassesOwn.never rfl (pi_list (pe_callTy (T := "list") (call_list_dK rfl) (by rfl) T.b_list (by decide +kernel) (pa_cons (pe_dget (room_u1 hr) (pv 0) pe_str (fun _ _ => rfl)) pa_nil))) (pg_name (i := 2) S.nd rfl (Or.inl rfl)) (pss_one (ps_set (i := 1) S.nd rfl (Or.inl rfl) (pe_callB (id := "max") (call_max2K rfl) (by rfl) T.b_max (by decide +kernel) (pa_cons (pv 1) (pa_cons (pv 2) pa_nil))))))
      (pss_one (ps_ret (pv 1))))), ?_⟩
    refine st__law_most ?_
    o_args
    refine ⟨c, tk, rfl, hc, fun l0 nl0 => ?_⟩
    have s2 := Same.new (o := .lst (tk.map fun kv => kV kv.1)) nl0
    have e0 : (tk.map fun kv => kV kv.1) = S0.ks.map V.int := by
      have := congrArg (List.map kV) hkk
      rw [List.map_map, List.map_map] at this
      exact this
    rw [e0] at s2 ⊢
    have h2 : upd H l0 (.lst (S0.ks.map V.int)) l0 = some (.lst (S0.ks.map V.int)) := upd_same
    generalize upd H l0 (.lst (S0.ks.map V.int)) = H2 at s2 h2
    o_args
    refine overL (SqL.of h2) (for_list (K := K) (a := l0) (xs := S0.ks.map V.int) (fun i σ H' => ∃ mo v, σ = [some (.ref q), some (.int mo), v] ∧ H' = H2 ∧ S0.nx - 1 ≤ mo ∧ (∀ o ∈ S0.ks.take i, o ≤ mo) ∧ (mo = S0.nx - 1 ∨ mo ∈ S0.ks.take i)) ⟨_, none, rfl, rfl, Int.le_refl _, (fun _ h => nomatch h), .inl rfl⟩ (fun i σ H' _ ⟨_, _, _, e, _⟩ => by rw [e]; exact SqL.of h2) ?_ ?_)
    · rintro i x σ Hi hx ⟨mo, v, rfl, rfl, m0, m1, m2⟩
      have il := getq_lt hx
      rw [List.length_map] at il
      rw [List.getElem?_map, List.getElem?_eq_getElem il] at hx
      cases hx
      have tk' : S0.ks.take (i + 1) = S0.ks.take i ++ [S0.ks[i]] := by rw [List.take_succ, List.getElem?_eq_getElem il]; rfl
      generalize S0.ks[i] = o at tk'
      o_args
      refine ⟨_, _, rfl, rfl, by omega, fun y hy => ?_, ?_⟩
      · rw [tk'] at hy
        rcases List.mem_append.mp hy with hy | hy
        · have := m1 y hy; omega
        · rw [List.mem_singleton.mp hy]; omega
      · rw [tk', List.mem_append, List.mem_singleton]
        by_cases g : mo ≤ o
        · exact .inr (.inr (by omega))
        · rcases m2 with z | z
          · exact .inl (by omega)
          · exact .inr (.inl (by rw [show max mo o = mo by omega]; exact z))
    · rintro σ Hi ⟨mo, v, rfl, rfl, m0, m1, m2⟩
      rw [List.length_map, List.take_length] at m1 m2
      o_args
      exact k mo _ s2 ⟨m0, fun o z => m1 o ((tells_keys hkk ht o).mpr z), m2.imp id fun z => (tells_keys hkk ht mo).mp z⟩
def sp__law_finishes (K : PySem.W.Frag) (C Cs : Addr) : Sp := fun vs H Q _ => ∃ (a p d e q c : Addr) (FB F : List Addr) (m : Nat) (B : Ib) (S : Sx), vs = [.ref a, .ref p, .ref q] ∧ Bw C Cs a p d e q c FB F m B S H ∧
  ∀ H' B' S', Bw C Cs a p d e q c FB F m B' S' H' → Ch [a, p, d, e, q, c] H H' → Q (.bl true) H'
set_option maxHeartbeats 0 in
theorem ok__law_finishes (T : Txt K mg) : FnOk P w K mg base CX0 6 T.a__law_finishes T.fd__law_finishes ["box", "inbox", "state"] (sp__law_finishes K T.c_Inbox T.c_Spans) := by
  have S := sc__law_finishes
  refine T.F__law_finishes.ok S (fun vs H Q E h => ?_) (fun cdv A outer s H vs Q E hr h => ?_)
  · obtain ⟨a, p, d, e, q, c, FB, F, m, B, S, rfl, _⟩ := h
    rfl
  · obtain ⟨a, p, d, e, q, c, FB, F, m, B, S0, rfl, w, k⟩ := h
    have hz := w.w.z
    have hm := w.w.m5
    refine ⟨_, (pss_cons (ps_set (i := 3) S.nd rfl (Or.inl rfl) (pe_op op_add (pe_op op_add (pe_call (ok__law_most T) (hr.mono (by decide)) rfl T.g__law_most T.F__law_most.kp T.B__law_most .nil pass0 (pa_cons (pv 2) pa_nil)) pe_int) (pe_call (ok__law_draw T) (hr.mono (by decide)) rfl T.g__law_draw T.F__law_draw.kp T.B__law_draw .nil pass0 (pa_cons (pv 0) (pa_cons pe_int pa_nil)))))
      (C8.pss_cut (ps_if (pt_cmpR op_eq (pe_call (ok__law_draw T) (hr.mono (by decide)) rfl T.g__law_draw T.F__law_draw.kp T.B__law_draw .nil pass0 (pa_cons (pv 0) (pa_cons pe_int pa_nil))) pe_int (nomark _)) (pss_cons (ps_set (i := 4) S.nd rfl (Or.inl rfl) (pe_call (ok__law_draw T) (hr.mono (by decide)) rfl T.g__law_draw T.F__law_draw.kp T.B__law_draw .nil pass0 (pa_cons (pv 0) (pa_cons pe_int pa_nil))))
      (pss_one (ps_set (i := 3) S.nd rfl (Or.inl rfl) (pe_callB (id := "max") (call_max2K rfl) (by rfl) T.b_max (by decide +kernel) (pa_cons (pv 3) (pa_cons (pe_callB (id := "min") (call_min2K rfl) (by rfl) T.b_min (by decide +kernel) (pa_cons (pe_op op_add (pe_op op_mul (pv 4) pe_int) (pe_call (ok__law_draw T) (hr.mono (by decide)) rfl T.g__law_draw T.F__law_draw.kp T.B__law_draw .nil pass0 (pa_cons (pv 0) (pa_cons pe_int pa_nil)))) (pa_cons pe_int pa_nil))) pa_nil)))))) pss_nil)
      (C8.pss_cut (ps_if (pt_cmpR op_isN (pe_dget (room_u1 hr) (pv 2) pe_str (fun _ _ => rfl)) pe_non (nomark _)) (pss_one (ps_dput (room_u1 hr) (pv 2) pe_str (pv 3) rfl)) pss_nil)
      (pss_one (ps_ret (pe_cmpR op_isN (pe_meth (pv 1) T.cl_Inbox T.m_Inbox_finish (ok_Inbox_finish T) (hr.mono (by decide)) T.B_Inbox_finish .nil passL (pa_cons (pv 3) pa_nil)) pe_non (nomark _))))))), ?_⟩
    refine st__law_finishes ?_
    o_args
    refine ⟨q, c, S0, rfl, w.w.s, by omega, fun mo H1 s1 im => ?_⟩
    have w1 := w.same s1
    o_args
    refine ⟨a, FB, _, rfl, w1.b, by decide, by decide, fun n H2 n0 n1 B2 c2 => ?_⟩
    have w2 := w1.draw c2 B2
    have nx := w.w.nx
    have lt := im.lt w.w.r
    have ge := im.ge
    o_args
    refine ⟨fun σ H' => ∃ off v, σ = [some (.ref a), some (.ref p), some (.ref q), some (.int off), v] ∧ mo + 1 ≤ off ∧ Bw T.c_Inbox T.c_Spans a p d e q c FB F m B S0 H' ∧ Ch [a, p, d, e, q, c] H H', ?_, ?_⟩
    · o_args
      refine ⟨a, FB, _, rfl, w2.b, by decide, by decide, fun g H3 g0 g1 B3 c3 => ?_⟩
      have w3 := w2.draw c3 B3
      have C3 := ((Ch.of s1).trans c2).trans c3
      o_args
      refine brD (fun cc => ?_) (fun cc => ?_)
      · o_args
        refine ⟨a, FB, _, rfl, B3, by decide, by decide, fun u H4 u0 u1 B4 c4 => ?_⟩
        have w4 := w3.draw c4 B4
        o_args
        refine ⟨a, FB, _, rfl, B4, by decide, by decide, fun v H5 v0 v1 B5 c5 => ?_⟩
        o_args
        exact ⟨_, _, rfl, by omega, w4.draw c5 B5, ((C3.trans c4).trans c5).more (by simp)⟩
      · o_args
        exact ⟨_, _, rfl, by omega, w3, C3.more (by simp)⟩
    · rintro σ H3 ⟨off, v, rfl, lo, w3, c3⟩
      have hq3 := w3.w.s.sq
      unfold Sx.kvs at hq3
      have ef := w3.w.r.fi
      o_args
      refine ⟨fun σ H' => σ = [some (.ref a), some (.ref p), some (.ref q), some (.int off), v] ∧ InAt T.c_Inbox T.c_Spans p d e F m B H' ∧ StAt H' q c { S0 with fin := some (S0.fin.getD off) } ∧ Ch [q] H3 H', ?_, ?_⟩
      · o_args
        cases hf : S0.fin with
        | none =>
          rw [hf] at hq3
          simp only [finV] at hq3
          refine brT (by rfl) ?_
          o_args
          refine dput (P := fun H' => ([some (.ref a), some (.ref p), some (.ref q), some (.int off), v] : L2.St) = [some (.ref a), some (.ref p), some (.ref q), some (.int off), v] ∧ InAt T.c_Inbox T.c_Spans p d e F m B H' ∧ StAt H' q c { S0 with fin := some off } ∧ Ch [q] H3 H') (k := "final") (v := .int off) (kvs' := Sx.kvs { S0 with fin := some off } c) hq3 (Nat.le_of_ble_eq_true rfl) (by with_unfolding_all rfl) fun H4 s4 h4 => ?_
          obtain ⟨i4, st4, c4⟩ := w3.st (S' := { S0 with fin := some off }) s4 h4 rfl rfl
          exact ⟨rfl, i4, st4, c4⟩
        | some f =>
          rw [hf] at hq3
          simp only [finV] at hq3
          refine brF (by rfl) ?_
          o_args
          refine ⟨rfl, w3.w.i, ?_, Ch.refl⟩
          have st := w3.w.s
          rw [show S0 = { S0 with fin := some f } by rw [← hf]] at st
          exact st
      · rintro σ H4 ⟨rfl, i4, st4, c4⟩
        obtain ⟨ap1, ap2, ap3, ap4, ap5⟩ := w3.w.apart
        obtain ⟨dx4, hp4⟩ := i4.oo
        have least := w3.w.r.least w3.w.i.ee.offs.nrm im
        have z3 := w3.w.z
        o_args
        refine ⟨p, dx4, _, rfl, hp4, rfl, ?_⟩
        o_args
        refine ⟨p, d, e, F, m, B, _, rfl, i4, ?_⟩
        cases hf : S0.fin with
        | none =>
          rw [hf] at st4 ef
          refine .inr ⟨ef, .inl ⟨off, rfl, by omega, fun H5 c5 i5 => ?_⟩⟩
          o_args
          have x5 : Ch [p, d, e, q, c] H3 H5 := (c4.more (by simp)).trans (c5.more (by simp))
          exact k H5 _ _ (w3.put i5 (st4.ch c5 (fun z => ap1 (by rw [List.mem_singleton.mp z]; simp)) (fun z => ap2 (by rw [List.mem_singleton.mp z]; simp))) (w3.w.r.setFin (some off)) z3 x5) (c3.trans (x5.more (by simp)))
        | some f =>
          rw [hf] at st4 ef
          refine .inl ⟨by rw [ef]; exact nofun, ?_⟩
          o_args
          have x4 : Ch [p, d, e, q, c] H3 H4 := c4.more (by simp)
          have r := w3.w.r
          rw [show S0 = { S0 with fin := some f } by rw [← hf]] at r
          exact k H4 B _ (w3.put i4 st4 r z3 x4) (c3.trans (x4.more (by simp)))
def sp__law_marks (K : PySem.W.Frag) (C Cs : Addr) : Sp := fun vs H Q _ => ∃ (a p d e q c : Addr) (FB F : List Addr) (m : Nat) (B : Ib) (S : Sx), vs = [.ref a, .ref p, .ref q] ∧ Bw C Cs a p d e q c FB F m B S H ∧
  ∀ H' B' S', Bw C Cs a p d e q c FB F m B' S' H' → Ch [a, p, d, e, q, c] H H' → Q (.bl true) H'
set_option maxHeartbeats 0 in
theorem ok__law_marks (T : Txt K mg) : FnOk P w K mg base CX0 3 T.a__law_marks T.fd__law_marks ["box", "inbox", "state"] (sp__law_marks K T.c_Inbox T.c_Spans) := by
  have S := sc__law_marks
  refine T.F__law_marks.ok S (fun vs H Q E h => ?_) (fun cdv A outer s H vs Q E hr h => ?_)
  · obtain ⟨a, p, d, e, q, c, FB, F, m, B, S, rfl, _⟩ := h
    rfl
  · obtain ⟨a, p, d, e, q, c, FB, F, m, B, S0, rfl, w, k⟩ := h
    have nx := w.w.nx
    have qa := w.qa
    have hm := w.w.m5
    refine ⟨_, (pss_cons (ps_set (i := 3) S.nd rfl (Or.inl rfl) (pe_call (ok__law_offset T) (hr.mono (by decide)) rfl T.g__law_offset T.F__law_offset.kp T.B__law_offset .nil pass0 (pa_cons (pv 0) (pa_cons (pv 2) pa_nil))))
      (pss_cons (ps_dput (room_u1 hr) (pv 2) pe_str (pe_callB (id := "max") (call_max2K rfl) (by rfl) T.b_max (by decide +kernel) (pa_cons (pe_dget (room_u1 hr) (pv 2) pe_str (fun _ _ => rfl)) (pa_cons (pv 3) pa_nil))) rfl)
      (pss_one (ps_ret (pe_cmpR op_isN (pe_meth (pv 1) T.cl_Inbox T.m_Inbox_mark_urgent (ok_Inbox_mark_urgent T) (hr.mono (by decide)) T.B_Inbox_mark_urgent .nil pass0 (pa_cons (pv 3) pa_nil)) pe_non (nomark _)))))), ?_⟩
    refine st__law_marks ?_
    o_args
    refine ⟨a, q, c, FB, S0, rfl, w.b, w.w.s, qa.1, qa.2, nx.1, by omega, fun off H1 o0 o1 B1 c1 => ?_⟩
    have w1 := w.draw c1 B1
    have hq1 := w1.w.s.sq
    unfold Sx.kvs at hq1
    o_args
    refine dput (k := "urgent") (v := .int (max S0.urg off)) (kvs' := Sx.kvs { S0 with urg := max S0.urg off } c) hq1 (Nat.le_of_ble_eq_true rfl) (by with_unfolding_all rfl) fun H2 s2 h2 => ?_
    obtain ⟨i2, st2, c2⟩ := w1.st (S' := { S0 with urg := max S0.urg off }) s2 h2 rfl rfl
    obtain ⟨ap1, ap2, ap3, ap4, ap5⟩ := w1.w.apart
    obtain ⟨dx2, hp2⟩ := i2.oo
    have z1 := w1.w.z
    have eu := w1.w.r.ur
    o_args
    refine ⟨p, dx2, _, rfl, hp2, rfl, ?_⟩
    o_args
    refine ⟨p, d, e, F, m, B, off, rfl, i2, fun H5 c5 i5 => ?_⟩
    o_args
    have x5 : Ch [p, d, e, q, c] H1 H5 := (c2.more (by simp)).trans (c5.more (by simp))
    have r5 := w1.w.r.setUrg (max S0.urg off)
    rw [eu] at i5
    exact k H5 _ _ (w1.put i5 (st2.ch c5 (fun z => ap1 (by rw [List.mem_singleton.mp z]; simp)) (fun z => ap2 (by rw [List.mem_singleton.mp z]; simp))) r5 z1 x5) ((c1.more (by simp)).trans (x5.more (by simp)))
/-! ### what is refused -/
/-- whatever happens to G: x is no integer from n on and can be shown -/
def LessW (K : PySem.W.Frag) (n : Int) (G : List Addr) (H : Hp) (x : V) : Prop := ∀ H', Ch G H H' → Less K H' x n ∧ Rpr K H' x
section
variable {K : PySem.W.Frag} {G : List Addr} {H H' : Hp} {x y : V} {t : Addr} {n : Int}
theorem LessW.ch (h : LessW K n G H x) (c : Ch G H H') : LessW K n G H' x := fun H2 c2 => h H2 (c.trans c2)
theorem LessW.int {k : Int} (h : k < n) (z : k.natAbs < 2 ^ 60) : LessW K n G H (.int k) := fun _ _ => ⟨.inl ⟨k, rfl, h⟩, Rpr.int z⟩
theorem BadV.lessW (h : BadV K G H x 0 0) (nn : ∀ n, x ≠ .int n) : LessW K n G H x := fun H' c => ⟨by
  obtain ⟨o, ho, _⟩ := (h H' c).1
  cases o with
  | some m => exact absurd ho (nn m)
  | none => exact .inr ho, (h H' c).2⟩
theorem BadV.lst0 (h : H t = some (.lst [.int 0])) (n : t ∉ G) : BadV K G H (.ref t) 0 0 := fun _ c => by
  have h := c.at n h
  exact ⟨Out.odd (intK_no (.base (.lst h)) (i := false) (b := false) (by decide +kernel) (by decide +kernel) rfl), Rpr.atom (d := .list [.int 0]) (.lst (SqL.of h) (.cons (.int 0) .nil)) ⟨by decide +kernel, by decide +kernel, by decide +kernel, by decide +kernel⟩ (fun _ e => nomatch e)⟩
theorem BadV.tup3 (h : H t = some (.tup [.int 3])) (n : t ∉ G) : BadV K G H (.ref t) 0 0 := fun _ c => by
  have h := c.at n h
  exact ⟨Out.odd (intK_no (.base (.tup h)) (i := false) (b := false) (by decide +kernel) (by decide +kernel) rfl), Rpr.atom (d := .tuple [.int 3]) (.tup (SqT.of h) (.cons (.int 3) .nil)) ⟨by decide +kernel, by decide +kernel, by decide +kernel, by decide +kernel⟩ (fun _ e => nomatch e)⟩
end
def sp__law_read_refused (K : PySem.W.Frag) (C Cs : Addr) : Sp := fun vs H Q _ => ∃ (a p d e q c : Addr) (FB F : List Addr) (m : Nat) (B : Ib) (S : Sx), vs = [.ref a, .ref p] ∧ Bw C Cs a p d e q c FB F m B S H ∧ ∀ H', Bw C Cs a p d e q c FB F m B S H' → Ch [a, p, d, e, q, c] H H' → Q (.bl true) H'
set_option maxHeartbeats 0 in
theorem ok__law_read_refused (T : Txt K mg) : FnStill P w K mg base 5 T.a__law_read_refused T.fd__law_read_refused ["box", "inbox"] (sp__law_read_refused K T.c_Inbox T.c_Spans) := by
  have S := sc__law_read_refused
  refine still_fn T.F__law_read_refused S (fun vs H Q E h => ?_) (fun cdv A outer s H vs Q E hg hr h => ?_)
  · obtain ⟨a, p, d, e, q, c, FB, F, m, B, S, rfl, _⟩ := h
    rfl
  · obtain ⟨a, p, d, e, q, c, FB, F, m, B, S0, rfl, w, k⟩ := h
    have hu := room_un hr
    have nx := w.w.nx
    have hm := w.w.m5
    have enx := w.w.r.nx
    refine ⟨_, (pss_cons (ps_set (i := 2) S.nd rfl (Or.inl rfl) (pe_ix ix_list (pe_lst (pa_cons (pe_op op_sub (pe_op op_sub pe_int pe_int) (pe_call (ok__law_draw T) (hr.mono (by decide)) rfl T.g__law_draw T.F__law_draw.kp T.B__law_draw .nil pass0 (pa_cons (pv 0) (pa_cons pe_int pa_nil)))) (pa_cons pe_non (pa_cons pe_bl (pa_cons pe_bl (pa_cons pe_str (pa_cons (pe_tup (pa_cons pe_int pa_nil)) (pa_cons (pe_lst (pa_cons pe_int pa_nil)) pa_nil)))))))) (pe_call (ok__law_draw T) (hr.mono (by decide)) rfl T.g__law_draw T.F__law_draw.kp T.B__law_draw .nil pass0 (pa_cons (pv 0) (pa_cons pe_int pa_nil))) (fun _ _ => rfl)))
      (pss_cons (ps_try_cl rfl rfl takes0 (fun W pn xe tk po => (pss_one (ps_expr (pe_methX (pv 1) T.cl_Inbox T.m_Inbox_read (ok_Inbox_read T) (hr.mono (by decide)) T.B_Inbox_read (fun σ => passAt tk σ) (pa_cons (pv 2) pa_nil)))))
      (ClOk.named (i := 3) S.nd rfl rfl ⟨rfl, by decide, .inl T.X_InvalidNumber.g⟩ (fun a oe cls d pn hz hf => (pss_cons (ps_if (PW.pt (pw_or (pt_not (pt_val (pe_callB (id := "isinstance") (call_isX hz hf) (by rfl) T.b_isinstance (by decide +kernel) (pa_cons (pv 3) (pa_cons (pe_glob (v := .ref T.c_LossError) rfl T.X_LossError.g rfl) pa_nil))))) (pw_or1 (pt_val (pe_callB (id := "isinstance") (call_isX hz hf) (by rfl) T.b_isinstance (by decide +kernel) (pa_cons (pv 3) (pa_cons (pe_glob (v := .ref T.c_InvalidSetting) rfl T.X_InvalidSetting.g rfl) pa_nil))))))) (pss_one (ps_ret pe_bl)) pss_nil)
      (pss_one (ps_ret (pe_cmpR op_eq (pe_callB (id := "repr") (show CallR _ (.builtin "repr") (rReprD K) from call_reprD hg hu) (by rfl) T.b_repr (by decide +kernel) (pa_cons (pe_xg hz hf (pv 3)) pa_nil)) (pe_callB (id := "repr") (show CallR _ (.builtin "repr") (rReprD K) from call_reprD hg hu) (by rfl) T.b_repr (by decide +kernel) (pa_cons (pv 2) pa_nil)) (nomark _))))))
      ClOk.nil))
      (pss_one (ps_ret pe_bl)))), ?_⟩
    refine st__law_read_refused ?_
    o_args
    refine ⟨a, FB, _, rfl, w.b, by decide, by decide, fun g H3 g0 g1 B3 c3 => ?_⟩
    o_args
    refine newTup (by simp) fun t H4 nt s4 h4 => ?_
    o_args
    refine newList (by simp) fun l H5 nl s5 h5 => ?_
    o_args
    refine newList (by simp) fun L H6 nL s6 h6 => ?_
    have w3 := w.draw c3 B3
    have S6 := (s4.trans s5).trans s6
    have w6 := w3.same S6
    have ta : t ≠ a := B3.off nt
    have la : l ≠ a := (B3.same s4).off nl
    have La : L ≠ a := (B3.same (s4.trans s5)).off nL
    have all : ∀ x ∈ [V.int (0 - 1 - g), .non, .bl true, .bl false, .str "1", .ref t, .ref l], LessW K 0 [a] H6 x := by
      intro x hx
      simp only [List.mem_cons, List.not_mem_nil, or_false] at hx
      rcases hx with rfl | rfl | rfl | rfl | rfl | rfl | rfl
      · exact LessW.int (by omega) (by omega)
      · exact BadV.non.lessW (fun _ => nofun)
      · exact (BadV.bl true).lessW (fun _ => nofun)
      · exact (BadV.bl false).lessW (fun _ => nofun)
      · exact (BadV.str (by decide +kernel)).lessW (fun _ => nofun)
      · exact (BadV.tup1 ((s5.trans s6) _ _ h4) (by simpa using ta)).lessW (fun _ => nofun)
      · exact (BadV.lst0 (s6 _ _ h5) (by simpa using la)).lessW (fun _ => nofun)
    have len : [V.int (0 - 1 - g), .non, .bl true, .bl false, .str "1", .ref t, .ref l].length = 7 := rfl
    generalize [V.int (0 - 1 - g), .non, .bl true, .bl false, .str "1", .ref t, .ref l] = xs at h6 all len
    o_args
    refine ⟨a, FB, _, rfl, w6.b, by decide, by decide, fun j H7 j0 j1 B7 c7 => ?_⟩
    obtain ⟨jn, rfl⟩ : ∃ jn : Nat, j = jn := ⟨j.toNat, by omega⟩
    have w7 := w6.draw c7 B7
    have h7 := c7.at (by simpa using La) h6
    obtain ⟨v, hv⟩ : ∃ v, xs[jn]? = some v := ⟨_, List.getElem?_eq_getElem (by omega)⟩
    have lv := (all v (List.mem_of_getElem? hv)).ch c7
    have C7 : Ch [a, p, d, e, q, c] H H7 := ((c3.trans (Ch.of S6)).trans c7).more (by simp)
    refine ixL (i := jn) h7 hv ?_
    o_args
    obtain ⟨dx, hp⟩ := w7.w.i.oo
    refine ⟨p, dx, _, rfl, hp, rfl, ?_⟩
    o_args
    refine ⟨p, d, e, F, m, B, _, rfl, w7.w.i, w7.al, w7.w.r.g, by omega, .inr ⟨(lv H7 Ch.refl).1, fun dd H8 s8 hx => ?_⟩⟩
    have hR := (lv H8 (Ch.of s8)).2
    refine ⟨true, T.Me_InvalidNumber_InvalidNumber, fun _ _ _ => ?_, fun z => nomatch z⟩
    obtain ⟨z, sh⟩ := hR.ask
    o_args
    refine errX (fun u r => r) T.X_InvalidNumber.e hx T.Kt_InvalidNumber_LossError ?_
    o_args
    refine errX (fun u r => r) T.X_InvalidNumber.e hx T.Kt_InvalidNumber_InvalidSetting ?_
    o_args
    refine errF T.X_InvalidNumber.x T.nX_InvalidNumber hx rfl ?_
    o_args
    refine sh _ ?_
    o_args
    refine sh _ ?_
    refine x_eqS ?_
    rw [decide_eq_true rfl]
    exact k H8 (w7.same s8) (C7.trans (Ch.of s8))
def sp__law_finish_refused (K : PySem.W.Frag) (C Cs : Addr) : Sp := fun vs H Q _ => ∃ (a p d e q c : Addr) (FB F : List Addr) (m : Nat) (B : Ib) (S : Sx), vs = [.ref a, .ref p, .ref q] ∧ Bw C Cs a p d e q c FB F m B S H ∧ ∀ H', Bw C Cs a p d e q c FB F m B S H' → Ch [a, p, d, e, q, c] H H' → Q (.bl true) H'
set_option maxHeartbeats 0 in
theorem ok__law_finish_refused (T : Txt K mg) : FnStill P w K mg base 7 T.a__law_finish_refused T.fd__law_finish_refused ["box", "inbox", "state"] (sp__law_finish_refused K T.c_Inbox T.c_Spans) := by
  have S := sc__law_finish_refused
  refine still_fn T.F__law_finish_refused S (fun vs H Q E h => ?_) (fun cdv A outer s H vs Q E hg hr h => ?_)
  · obtain ⟨a, p, d, e, q, c, FB, F, m, B, S, rfl, _⟩ := h
    rfl
  · obtain ⟨a, p, d, e, q, c, FB, F, m, B, S0, rfl, w, k⟩ := h
    have hu := room_un hr
    have nx := w.w.nx
    have hm := w.w.m5
    have hz := w.w.z
    refine ⟨_, (pss_cons (ps_set (i := 3) S.nd rfl (Or.inl rfl) (pe_call (ok__law_most T) (hr.mono (by decide)) rfl T.g__law_most T.F__law_most.kp T.B__law_most .nil pass0 (pa_cons (pv 2) pa_nil)))
      (pss_cons (ps_set (i := 4) S.nd rfl (Or.inl rfl) (pe_op op_sub (pe_op op_sub (pe_dget (room_u1 hr) (pv 2) pe_str (fun _ _ => rfl)) pe_int) (pe_call (ok__law_draw T) (hr.mono (by decide)) rfl T.g__law_draw T.F__law_draw.kp T.B__law_draw .nil pass0 (pa_cons (pv 0) (pa_cons pe_int pa_nil)))))
      (pss_cons (ps_set (i := 5) S.nd rfl (Or.inl rfl) (pe_op op_sub (pv 3) (pe_call (ok__law_draw T) (hr.mono (by decide)) rfl T.g__law_draw T.F__law_draw.kp T.B__law_draw .nil pass0 (pa_cons (pv 0) (pa_cons (pe_op op_add (pe_op op_sub (pv 3) (pe_dget (room_u1 hr) (pv 2) pe_str (fun _ _ => rfl))) pe_int) pa_nil)))))
      (pss_cons (ps_set (i := 6) S.nd rfl (Or.inl rfl) (pe_ix ix_list (pe_lst (pa_cons (pv 4) (pa_cons (pv 5) (pa_cons (pv 5) (pa_cons (pv 5) (pa_cons pe_non (pa_cons pe_bl (pa_cons pe_str (pa_cons (pe_tup (pa_cons pe_int pa_nil)) pa_nil))))))))) (pe_call (ok__law_draw T) (hr.mono (by decide)) rfl T.g__law_draw T.F__law_draw.kp T.B__law_draw .nil pass0 (pa_cons (pv 0) (pa_cons pe_int pa_nil))) (fun _ _ => rfl)))
      (pss_cons (ps_try_cl rfl rfl takes0 (fun W pn xe tk po => (pss_one (ps_expr (pe_methX (pv 1) T.cl_Inbox T.m_Inbox_finish (ok_Inbox_finish T) (hr.mono (by decide)) T.B_Inbox_finish (fun σ => passAt tk σ) (pa_cons (pv 6) pa_nil)))))
      (ClOk.named (i := 7) S.nd rfl rfl ⟨rfl, by decide, .inl T.X_InvalidNumber.g⟩ (fun a oe cls d pn hz hf => (pss_cons (ps_if (PW.pt (pw_or (pt_not (pt_val (pe_callB (id := "isinstance") (call_isX hz hf) (by rfl) T.b_isinstance (by decide +kernel) (pa_cons (pv 7) (pa_cons (pe_glob (v := .ref T.c_LossError) rfl T.X_LossError.g rfl) pa_nil))))) (pw_or (pt_not (pt_val (pe_callB (id := "isinstance") (call_isX hz hf) (by rfl) T.b_isinstance (by decide +kernel) (pa_cons (pv 7) (pa_cons (pe_bltn (v := .ty "ValueError") (u := .type "ValueError") (by rfl) T.b_ValueError (by decide +kernel) rfl) pa_nil))))) (pw_or1 (pt_val (pe_callB (id := "isinstance") (call_isX hz hf) (by rfl) T.b_isinstance (by decide +kernel) (pa_cons (pv 7) (pa_cons (pe_glob (v := .ref T.c_InvalidSetting) rfl T.X_InvalidSetting.g rfl) pa_nil)))))))) (pss_one (ps_ret pe_bl)) pss_nil)
      (pss_one (ps_ret (pe_and (pe_cmpR op_isN (pe_dget (room_u1 hr) (pv 2) pe_str (fun _ _ => rfl)) pe_non (nomark _)) (pe_one (pe_cmpR op_eq (pe_callB (id := "repr") (show CallR _ (.builtin "repr") (rReprD K) from call_reprD hg hu) (by rfl) T.b_repr (by decide +kernel) (pa_cons (pe_xg hz hf (pv 7)) pa_nil)) (pe_callB (id := "repr") (show CallR _ (.builtin "repr") (rReprD K) from call_reprD hg hu) (by rfl) T.b_repr (by decide +kernel) (pa_cons (pv 6) pa_nil)) (nomark _))))))))
      ClOk.nil))
      (pss_one (ps_ret (pe_cmpR op_notN (pe_dget (room_u1 hr) (pv 2) pe_str (fun _ _ => rfl)) pe_non (nomark _))))))))), ?_⟩
    refine st__law_finish_refused ?_
    o_args
    refine ⟨q, c, S0, rfl, w.w.s, by omega, fun mo H1 s1 im => ?_⟩
    have w1 := w.same s1
    have lt := im.lt w.w.r
    have ge := im.ge
    have hq1 := w1.w.s.sq
    unfold Sx.kvs at hq1
    o_args
    refine ⟨a, FB, _, rfl, w1.b, by decide, by decide, fun n1 H2 n10 n11 B2 c2 => ?_⟩
    have w2 := w1.draw c2 B2
    have hq2 := w2.w.s.sq
    unfold Sx.kvs at hq2
    o_args
    refine ⟨a, FB, _, rfl, B2, by omega, by omega, fun n2 H3 n20 n21 B3 c3 => ?_⟩
    have w3 := w2.draw c3 B3
    o_args
    refine newTup (by simp) fun t H4 nt s4 h4 => ?_
    o_args
    refine newList (by simp) fun L H6 nL s6 h6 => ?_
    have S6 := s4.trans s6
    have w6 := w3.same S6
    have ta : t ≠ a := B3.off nt
    have La : L ≠ a := (B3.same s4).off nL
    have least := w.w.r.least w.w.i.ee.offs.nrm im
    have all : ∀ x ∈ [V.int (S0.nx - 1 - n1), .int (mo - n2), .int (mo - n2), .int (mo - n2), .non, .bl true, .str "3", .ref t], LessW K B.least [a] H6 x := by
      intro x hx
      simp only [List.mem_cons, List.not_mem_nil, or_false] at hx
      rcases hx with rfl | rfl | rfl | rfl | rfl | rfl | rfl | rfl
      · exact LessW.int (by omega) (by omega)
      · exact LessW.int (by omega) (by omega)
      · exact LessW.int (by omega) (by omega)
      · exact LessW.int (by omega) (by omega)
      · exact BadV.non.lessW (fun _ => nofun)
      · exact (BadV.bl true).lessW (fun _ => nofun)
      · exact (BadV.str (by decide +kernel)).lessW (fun _ => nofun)
      · exact (BadV.tup3 (s6 _ _ h4) (by simpa using ta)).lessW (fun _ => nofun)
    have len : [V.int (S0.nx - 1 - n1), .int (mo - n2), .int (mo - n2), .int (mo - n2), .non, .bl true, .str "3", .ref t].length = 8 := rfl
    generalize [V.int (S0.nx - 1 - n1), .int (mo - n2), .int (mo - n2), .int (mo - n2), .non, .bl true, .str "3", .ref t] = xs at h6 all len
    o_args
    refine ⟨a, FB, _, rfl, w6.b, by decide, by decide, fun j H7 j0 j1 B7 c7 => ?_⟩
    obtain ⟨jn, rfl⟩ : ∃ jn : Nat, j = jn := ⟨j.toNat, by omega⟩
    have w7 := w6.draw c7 B7
    have h7 := c7.at (by simpa using La) h6
    obtain ⟨v, hv⟩ : ∃ v, xs[jn]? = some v := ⟨_, List.getElem?_eq_getElem (by omega)⟩
    have lv := (all v (List.mem_of_getElem? hv)).ch c7
    have C7 : Ch [a, p, d, e, q, c] H H7 := (((((Ch.of s1).trans c2).trans c3).trans (Ch.of S6)).trans c7).more (by simp)
    refine ixL (i := jn) h7 hv ?_
    o_args
    obtain ⟨dx, hp⟩ := w7.w.i.oo
    have hq7 := w7.w.s.sq
    unfold Sx.kvs at hq7
    have ef := w7.w.r.fi
    refine ⟨p, dx, _, rfl, hp, rfl, ?_⟩
    o_args
    refine ⟨p, d, e, F, m, B, _, rfl, w7.w.i, ?_⟩
    cases hf : S0.fin with
    | none =>
      rw [hf] at hq7 ef
      simp only [finV] at hq7
      refine .inr ⟨ef, .inr ⟨(lv H7 Ch.refl).1, fun dd H8 s8 hx => ?_⟩⟩
      have hR := (lv H8 (Ch.of s8)).2
      have hq8 := s8 _ _ hq7
      refine ⟨true, T.Me_InvalidNumber_InvalidNumber, fun _ _ _ => ?_, fun z => nomatch z⟩
      obtain ⟨z, sh⟩ := hR.ask
      o_args
      refine errX (fun u r => r) T.X_InvalidNumber.e hx T.Kt_InvalidNumber_LossError ?_
      o_args
      refine errX (fun u r => r) T.X_InvalidNumber.e hx T.Kv_InvalidNumber ?_
      o_args
      refine errX (fun u r => r) T.X_InvalidNumber.e hx T.Kt_InvalidNumber_InvalidSetting ?_
      o_args
      refine errF T.X_InvalidNumber.x T.nX_InvalidNumber hx rfl ?_
      o_args
      refine sh _ ?_
      o_args
      refine sh _ ?_
      refine x_eqS ?_
      rw [decide_eq_true rfl]
      exact k H8 (w7.same s8) (C7.trans (Ch.of s8))
    | some f =>
      rw [hf] at hq7 ef
      simp only [finV] at hq7
      refine .inl ⟨by rw [ef]; exact nofun, ?_⟩
      o_args
      rw [show (!decide (V.int f = V.non)) = true by rfl]
      exact k H7 w7 C7
def sp__law_limit_refused (K : PySem.W.Frag) (C Cs : Addr) : Sp := fun vs H Q _ => ∃ (a p d e q c : Addr) (FB F : List Addr) (m : Nat) (B : Ib) (S : Sx), vs = [.ref a, .ref p] ∧ Bw C Cs a p d e q c FB F m B S H ∧ ∀ H', Bw C Cs a p d e q c FB F m B S H' → Ch [a, p, d, e, q, c] H H' → Q (.bl true) H'
theorem len6 {α : Type} {l : List α} (h : l.length = 6) : ∃ a b c d e f, l = [a, b, c, d, e, f] := by
  match l, h with
  | [a, b, c, d, e, f], _ => exact ⟨a, b, c, d, e, f, rfl⟩
set_option maxHeartbeats 0 in
theorem ok__law_limit_refused (T : Txt K mg) : FnStill P w K mg base 10 T.a__law_limit_refused T.fd__law_limit_refused ["box", "inbox"] (sp__law_limit_refused K T.c_Inbox T.c_Spans) := by
  have S := sc__law_limit_refused
  refine still_fn T.F__law_limit_refused S (fun vs H Q E h => ?_) (fun cdv A outer s H vs Q E hg hr h => ?_)
  · obtain ⟨a, p, d, e, q, c, FB, F, m, B, S, rfl, _⟩ := h
    rfl
  · obtain ⟨a, p, d, e, q, c, FB, F, m, B, S0, rfl, w, k⟩ := h
    refine ⟨_, (pss_cons (ps_set (i := 2) S.nd rfl (Or.inl rfl) (pe_lst (pa_cons pe_int (pa_cons (pe_op op_sub (pe_op op_sub pe_int pe_int) (pe_call (ok__law_draw T) (hr.mono (by decide)) rfl T.g__law_draw T.F__law_draw.kp T.B__law_draw .nil pass0 (pa_cons (pv 0) (pa_cons pe_int pa_nil)))) (pa_cons pe_int (pa_cons (pe_op op_add pe_int (pe_call (ok__law_draw T) (hr.mono (by decide)) rfl T.g__law_draw T.F__law_draw.kp T.B__law_draw .nil pass0 (pa_cons (pv 0) (pa_cons pe_int pa_nil)))) (pa_cons pe_bl (pa_cons pe_bl (pa_cons pe_non (pa_cons pe_str (pa_cons (pe_tup (pa_cons pe_int pa_nil)) (pa_cons (pe_lst (pa_cons pe_int pa_nil)) pa_nil))))))))))))
      (pss_cons (ps_set (i := 3) S.nd rfl (Or.inl rfl) (pe_ix ix_list (pv 2) (pe_call (ok__law_draw T) (hr.mono (by decide)) rfl T.g__law_draw T.F__law_draw.kp T.B__law_draw .nil pass0 (pa_cons (pv 0) (pa_cons pe_int pa_nil))) (fun _ _ => rfl)))
      (pss_cons (ps_set (i := 4) S.nd rfl (Or.inl rfl) (pe_cmpR op_eq (pe_call (ok__law_draw T) (hr.mono (by decide)) rfl T.g__law_draw T.F__law_draw.kp T.B__law_draw .nil pass0 (pa_cons (pv 0) (pa_cons pe_int pa_nil))) pe_int (nomark _)))
      (pss_cons (ps_try_cl rfl rfl takes0 (fun W pn xe tk po => (pss_one (ps_if (pt_val (pv 4)) (pss_one (ps_expr (pe_make T.M_Inbox (ok_Inbox_init_ T) (hr.mono (by decide)) rfl T.g_Inbox T.B_Inbox_init_ .nil (passes_any 6 tk) (pa_cons (pv 3) pa_nil)))) (pss_one (ps_expr (pe_methX (pv 1) T.cl_Inbox T.m_Inbox_resize (ok_Inbox_resize T) (hr.mono (by decide)) T.B_Inbox_resize (fun σ => passAt tk σ) (pa_cons (pv 3) pa_nil)))))))
      (ClOk.named (i := 5) S.nd rfl rfl ⟨rfl, by decide, .inl T.X_InvalidSetting.g⟩ (fun a oe cls d pn hz hf => (pss_one (ps_ret (pe_and (pe_cmpR op_eq (pe_xg hz hf (pv 5)) pe_str (nomark _)) (pe_and (pe_callB (id := "isinstance") (call_isX hz hf) (by rfl) T.b_isinstance (by decide +kernel) (pa_cons (pv 5) (pa_cons (pe_glob (v := .ref T.c_LossError) rfl T.X_LossError.g rfl) pa_nil))) (pe_one (pe_not (pe_callB (id := "isinstance") (call_isX hz hf) (by rfl) T.b_isinstance (by decide +kernel) (pa_cons (pv 5) (pa_cons (pe_glob (v := .ref T.c_InvalidNumber) rfl T.X_InvalidNumber.g rfl) pa_nil))))))))))
      ClOk.nil))
      (pss_one (ps_ret pe_bl)))))), ?_⟩
    refine st__law_limit_refused ?_
    o_args
    refine ⟨a, FB, _, rfl, w.b, by decide, by decide, fun d1 H1 d10 d11 B1 c1 => ?_⟩
    o_args
    refine ⟨a, FB, _, rfl, B1, by decide, by decide, fun d2 H2 d20 d21 B2 c2 => ?_⟩
    o_args
    refine newTup (by simp) fun t H4 nt s4 h4 => ?_
    o_args
    refine newList (by simp) fun l1 H5 nl s5 h5 => ?_
    o_args
    refine newList (by simp) fun mn H6 nm s6 h6 => ?_
    have ta : t ≠ a := B2.off nt
    have l1a : l1 ≠ a := (B2.same s4).off nl
    have ma : mn ≠ a := (B2.same (s4.trans s5)).off nm
    have S6 := (s4.trans s5).trans s6
    have w6 := ((w.draw c1 B1).draw c2 B2).same S6
    have C6 := (c1.trans c2).trans (Ch.of S6)
    o_args
    refine ⟨a, FB, _, rfl, w6.b, by decide, by decide, fun j H7 j0 j1 B7 c7 => ?_⟩
    have w7 := w6.draw c7 B7
    obtain ⟨jn, rfl⟩ : ∃ i : Nat, j = i := ⟨j.toNat, by omega⟩
    have jl : jn < 10 := by omega
    have t7 := c7.at (by simpa using ta) (s6 _ _ (s5 _ _ h4))
    have l7 := c7.at (by simpa using l1a) (s6 _ _ h5)
    obtain ⟨x, ex⟩ : ∃ x, [V.int 0, .int (0 - 1 - d1), .int 65536, .int (65536 + d2), .bl true, .bl false, .non, .str "8", .ref t, .ref l1][jn]? = some x := ⟨_, List.getElem?_eq_getElem jl⟩
    have bx : ∀ G, Ch [a] H7 G → Out K G x 1 65535 := fun G c => by
      match jn, jl with
      | 0, _ => cases ex; exact .int (by omega)
      | 1, _ => cases ex; exact .int (by omega)
      | 2, _ => cases ex; exact .int (by omega)
      | 3, _ => cases ex; exact .int (by omega)
      | 4, _ => cases ex; exact (BadV.bl (K := K) (G := []) (H := G) true G Ch.refl).1
      | 5, _ => cases ex; exact (BadV.bl (K := K) (G := []) (H := G) false G Ch.refl).1
      | 6, _ => cases ex; exact (BadV.non (K := K) (G := []) (H := G) G Ch.refl).1
      | 7, _ => cases ex; exact (BadV.str (K := K) (G := []) (H := G) (s := "8") (by decide +kernel) G Ch.refl).1
      | 8, _ => cases ex; exact Out.odd (intK_no (.base (.tup (c.at (by simpa using ta) t7))) (i := false) (b := false) (by decide +kernel) (by decide +kernel) rfl)
      | 9, _ => cases ex; exact Out.odd (intK_no (.base (.lst (c.at (by simpa using l1a) l7))) (i := false) (b := false) (by decide +kernel) (by decide +kernel) rfl)
    o_args
    refine ixL (c7.at (by simpa using ma) h6) ex ?_
    o_args
    refine ⟨a, FB, _, rfl, B7, by decide, by decide, fun an H8 a0 a1 B8 c8 => ?_⟩
    have w8 := w7.draw c8 B8
    have C8 : Ch [a, p, d, e, q, c] H H8 := ((C6.trans c7).trans c8).more (by simp)
    have b8 := bx H8 c8
    obtain ⟨dx, hp⟩ := w8.w.i.oo
    o_args
    refine brD (fun e => ?_) (fun e => ?_)
    · o_args
      intro y dy hy hdy nd
      have s0 : Same H8 (upd (upd H8 dy (.own y)) y (.ins T.c_Inbox dy [])) := fun b o hb => by rw [upd_ne (ne_of_none hb hy), upd_ne (ne_of_none hb hdy)]; exact hb
      refine ⟨y, dy, _, rfl, upd_same, .inr ⟨b8.same s0, fun dd H9 s9 hx => fun σ hσ => ?_⟩⟩
      obtain ⟨v1, v2, v3, v4, v5, v6, rfl⟩ := len6 hσ
      refine ⟨true, T.Me_InvalidSetting_InvalidSetting, fun _ _ _ => ?_, fun z => nomatch z⟩
      o_args
      refine errF T.X_InvalidSetting.x T.nX_InvalidSetting hx rfl ?_
      o_args
      refine errX (fun u r => r) T.X_InvalidSetting.e hx T.Kt_InvalidSetting_LossError ?_
      o_args
      refine errX (fun u r => r) T.X_InvalidSetting.e hx T.Kt_InvalidSetting_InvalidNumber ?_
      o_args
      exact k H9 (w8.same (s0.trans s9)) (C8.trans (Ch.of (s0.trans s9)))
    · o_args
      refine ⟨p, _, _, rfl, hp, rfl, ?_⟩
      o_args
      refine ⟨p, d, _, F, m, B, _, rfl, w8.w.i, .inr ⟨b8, fun dd H9 s9 hx => ?_⟩⟩
      refine ⟨true, T.Me_InvalidSetting_InvalidSetting, fun _ _ _ => ?_, fun z => nomatch z⟩
      o_args
      refine errF T.X_InvalidSetting.x T.nX_InvalidSetting hx rfl ?_
      o_args
      refine errX (fun u r => r) T.X_InvalidSetting.e hx T.Kt_InvalidSetting_LossError ?_
      o_args
      refine errX (fun u r => r) T.X_InvalidSetting.e hx T.Kt_InvalidSetting_InvalidNumber ?_
      o_args
      exact k H9 (w8.same s9) (C8.trans (Ch.of s9))
/-! ### deeds, narrow limits, fillings -/
section
variable {C Cs a p d e q c x : Addr} {FB F : List Addr} {m : Nat} {B : Ib} {S : Sx} {H H' : Hp}
theorem Bw.took {B' : Ib} {S' : Sx} {off r r' : Int} {ns : List Int} {H1 H2 H3 : Hp} (w : Bw C Cs a p d e q c FB F m B S H) (hm : m + ns.length ≤ 5000) (t : Took B B' off ns r) (i : InAt C Cs p d e F (m + ns.length) B' H1) (c1 : Ch [p, d, e] H H1) (s2 : Same H1 H2) (u : Stored S S' off ns r') (s : StAt H3 q c S') (x : Ch [q, c] H2 H3) :
    r = r' ∧ Bw C Cs a p d e q c FB F (m + ns.length) B' S' H3 ∧ Ch [a, p, d, e, q, c] H H3 := by
  obtain ⟨er, w3⟩ := w.w.took hm t (i.same s2) u s x
  have C3 : Ch [p, d, e, q, c] H H3 := ((c1.more (by simp)).trans (Ch.of s2)).trans (x.more (by simp))
  refine ⟨er, ⟨w.b.ch C3 fun b hb => ?_, w3, w.al.ch C3, w.fb, w.fa, w.alb.ch C3⟩, C3.more (by simp)⟩
  simp only [List.mem_cons, List.not_mem_nil, or_false] at hb
  obtain ⟨f1, f2, f3, f4, f5⟩ := w.fb
  rcases hb with rfl | rfl | rfl | rfl | rfl <;> assumption
end
def sp__law_deed (K : PySem.W.Frag) (C Cs : Addr) : Sp := fun vs H Q _ => ∃ (a p d e q c : Addr) (FB F : List Addr) (m : Nat) (B : Ib) (S : Sx), vs = [.ref a, .ref p, .ref q] ∧ Bw C Cs a p d e q c FB F m B S H ∧ m ≤ 4900 ∧
  ∀ H' m' B' S', Bw C Cs a p d e q c FB F m' B' S' H' → m' ≤ m + 40 → Ch [a, p, d, e, q, c] H H' → Q (.bl true) H'
set_option maxHeartbeats 0 in
theorem ok__law_deed (T : Txt K mg) : FnStill P w K mg base 11 T.a__law_deed T.fd__law_deed ["box", "inbox", "state"] (sp__law_deed K T.c_Inbox T.c_Spans) := by
  have S := sc__law_deed
  refine still_fn T.F__law_deed S (fun vs H Q E h => ?_) (fun cdv A outer s H vs Q E hg hr h => ?_)
  · obtain ⟨a, p, d, e, q, c, FB, F, m, B, S, rfl, _⟩ := h
    rfl
  · obtain ⟨a, p, d, e, q, c, FB, F, m, B, S0, rfl, w, hm, k⟩ := h
    refine ⟨_, (pss_cons (ps_set (i := 3) S.nd rfl (Or.inl rfl) (pe_call (ok__law_draw T) (hr.mono (by decide)) rfl T.g__law_draw T.F__law_draw.kp T.B__law_draw .nil pass0 (pa_cons (pv 0) (pa_cons pe_int pa_nil))))
      (pss_cons (ps_if (pt_cmpR op_lt (pv 3) pe_int (nomark _)) (pss_one (ps_ret (pe_call (ok__law_takes T) (hr.mono (by decide)) rfl T.g__law_takes T.F__law_takes.kp T.B__law_takes .nil pass0 (pa_cons (pv 0) (pa_cons (pv 1) (pa_cons (pv 2) pa_nil)))))) pss_nil)
      (pss_cons (ps_if (pt_cmpR op_lt (pv 3) pe_int (nomark _)) (pss_one (ps_ret (pe_call (ok__law_reads T) (hr.mono (by decide)) rfl T.g__law_reads T.F__law_reads.kp T.B__law_reads .nil pass0 (pa_cons (pv 1) (pa_cons (pv 2) (pa_cons (pe_call (ok__law_draw T) (hr.mono (by decide)) rfl T.g__law_draw T.F__law_draw.kp T.B__law_draw .nil pass0 (pa_cons (pv 0) (pa_cons pe_int pa_nil))) pa_nil)))))) pss_nil)
      (pss_cons (ps_if (pt_cmpR op_eq (pv 3) pe_int (nomark _)) (pss_one (ps_ret (pe_call (ok__law_reads T) (hr.mono (by decide)) rfl T.g__law_reads T.F__law_reads.kp T.B__law_reads .nil pass0 (pa_cons (pv 1) (pa_cons (pv 2) (pa_cons (pe_op op_mul (pe_call (ok__law_draw T) (hr.mono (by decide)) rfl T.g__law_draw T.F__law_draw.kp T.B__law_draw .nil pass0 (pa_cons (pv 0) (pa_cons pe_int pa_nil))) (pe_call (ok__law_draw T) (hr.mono (by decide)) rfl T.g__law_draw T.F__law_draw.kp T.B__law_draw .nil pass0 (pa_cons (pv 0) (pa_cons pe_int pa_nil)))) pa_nil)))))) pss_nil)
      (pss_cons (ps_if (pt_cmpR op_eq (pv 3) pe_int (nomark _)) (pss_one (ps_ret (pe_call (ok__law_finishes T) (hr.mono (by decide)) rfl T.g__law_finishes T.F__law_finishes.kp T.B__law_finishes .nil pass0 (pa_cons (pv 0) (pa_cons (pv 1) (pa_cons (pv 2) pa_nil)))))) pss_nil)
      (pss_cons (ps_if (pt_cmpR op_eq (pv 3) pe_int (nomark _)) (pss_one (ps_ret (pe_call (ok__law_marks T) (hr.mono (by decide)) rfl T.g__law_marks T.F__law_marks.kp T.B__law_marks .nil pass0 (pa_cons (pv 0) (pa_cons (pv 1) (pa_cons (pv 2) pa_nil)))))) pss_nil)
      (pss_cons (ps_if (pt_cmpR op_eq (pv 3) pe_int (nomark _)) (pss_cons (ps_dput (room_u1 hr) (pv 2) pe_str (pe_call (ok__law_limit T) (hr.mono (by decide)) rfl T.g__law_limit T.F__law_limit.kp T.B__law_limit .nil pass0 (pa_cons (pv 0) pa_nil)) rfl)
      (pss_one (ps_ret (pe_cmpR op_isN (pe_meth (pv 1) T.cl_Inbox T.m_Inbox_resize (ok_Inbox_resize T) (hr.mono (by decide)) T.B_Inbox_resize .nil passL (pa_cons (pe_dget (room_u1 hr) (pv 2) pe_str (fun _ _ => rfl)) pa_nil)) pe_non (nomark _))))) pss_nil)
      (pss_cons (ps_if (pt_cmpR op_eq (pv 3) pe_int (nomark _)) (pss_one (ps_ret (pe_still hg (ok__law_read_refused T) (hr.mono (by decide)) rfl T.g__law_read_refused T.F__law_read_refused.kp T.B__law_read_refused .nil pass0 (pa_cons (pv 0) (pa_cons (pv 1) pa_nil))))) pss_nil)
      (pss_cons (ps_if (pt_cmpR op_eq (pv 3) pe_int (nomark _)) (pss_one (ps_ret (pe_still hg (ok__law_limit_refused T) (hr.mono (by decide)) rfl T.g__law_limit_refused T.F__law_limit_refused.kp T.B__law_limit_refused .nil pass0 (pa_cons (pv 0) (pa_cons (pv 1) pa_nil))))) pss_nil)
      (pss_one (ps_ret (pe_still hg (ok__law_finish_refused T) (hr.mono (by decide)) rfl T.g__law_finish_refused T.F__law_finish_refused.kp T.B__law_finish_refused .nil pass0 (pa_cons (pv 0) (pa_cons (pv 1) (pa_cons (pv 2) pa_nil))))))))))))))), ?_⟩
    refine st__law_deed ?_
    o_args
    refine ⟨a, FB, _, rfl, w.b, by decide, by decide, fun n H1 n0 n1 B1 c1 => ?_⟩
    have w1 := w.draw c1 B1
    have C1 : Ch [a, p, d, e, q, c] H H1 := c1.more (by simp)
    have rd : ∀ {H2 : Hp} {r : Int}, Ch [a, p, d, e, q, c] H H2 → Bw T.c_Inbox T.c_Spans a p d e q c FB F m B S0 H2 → 0 ≤ r → sp__law_reads K T.c_Inbox T.c_Spans [.ref p, .ref q, .int r] H2 Q E0 := fun {H2 r} C2 w2 r0 =>
      ⟨p, d, e, q, c, F, m, B, S0, r, rfl, w2.w, w2.al, r0, fun H3 B' S' i3 c3 => k H3 m B' S' (w2.put i3.i i3.s i3.r i3.z c3) (by omega) (C2.trans (c3.more (by simp)))⟩
    o_args
    refine brD (fun cc => ?_) (fun cc => ?_)
    · o_args
      refine ⟨a, p, d, e, q, c, FB, F, m, B, S0, rfl, w1, hm, fun H2 m' B' S' w2 hm' c2 => ?_⟩
      o_args
      exact k H2 m' B' S' w2 hm' (C1.trans c2)
    o_args
    refine brD (fun cc => ?_) (fun cc => ?_)
    · o_args
      refine ⟨a, FB, _, rfl, B1, by decide, by decide, fun r H2 r0 r1 B2 c2 => ?_⟩
      o_args
      exact rd (C1.trans (c2.more (by simp))) (w1.draw c2 B2) r0
    o_args
    refine brD (fun cc => ?_) (fun cc => ?_)
    · o_args
      refine ⟨a, FB, _, rfl, B1, by decide, by decide, fun r H2 r0 r1 B2 c2 => ?_⟩
      have w2 := w1.draw c2 B2
      o_args
      refine ⟨a, FB, _, rfl, B2, by decide, by decide, fun r' H3 r2 r3 B3 c3 => ?_⟩
      o_args
      refine x_mulL ⟨by omega, by omega⟩ ?_
      o_args
      exact rd ((C1.trans (c2.more (by simp))).trans (c3.more (by simp))) (w2.draw c3 B3) (Int.mul_nonneg r0 r2)
    o_args
    refine brD (fun cc => ?_) (fun cc => ?_)
    · o_args
      refine ⟨a, p, d, e, q, c, FB, F, m, B, S0, rfl, w1, fun H2 B' S' w2 c2 => ?_⟩
      o_args
      exact k H2 m B' S' w2 (by omega) (C1.trans c2)
    o_args
    refine brD (fun cc => ?_) (fun cc => ?_)
    · o_args
      refine ⟨a, p, d, e, q, c, FB, F, m, B, S0, rfl, w1, fun H2 B' S' w2 c2 => ?_⟩
      o_args
      exact k H2 m B' S' w2 (by omega) (C1.trans c2)
    o_args
    refine brD (fun cc => ?_) (fun cc => ?_)
    · o_args
      refine ⟨a, FB, rfl, B1, fun l H2 l0 l1 B2 c2 => ?_⟩
      have w2 := w1.draw c2 B2
      have hq2 := w2.w.s.sq
      unfold Sx.kvs at hq2
      o_args
      refine dput (k := "limit") (v := .int l) (kvs' := Sx.kvs { S0 with lim := l } c) hq2 (Nat.le_of_ble_eq_true rfl) (by with_unfolding_all rfl) fun H3 s3 h3 => ?_
      obtain ⟨i3, st3, c3⟩ := w2.st (S' := { S0 with lim := l }) s3 h3 rfl rfl
      obtain ⟨ap1, ap2, ap3, ap4, ap5⟩ := w2.w.apart
      obtain ⟨dx3, hp3⟩ := i3.oo
      have hq3 := st3.sq
      unfold Sx.kvs at hq3
      have z2 := w2.w.z
      o_args
      refine ⟨p, dx3, _, rfl, hp3, rfl, ?_⟩
      o_args
      refine ⟨p, d, e, F, m, B, _, rfl, i3, .inl ⟨l, rfl, l0, l1, fun H5 c5 i5 => ?_⟩⟩
      o_args
      have x5 : Ch [p, d, e, q, c] H2 H5 := (c3.more (by simp)).trans (c5.more (by simp))
      exact k H5 m _ _ (w2.put i5 (st3.ch c5 (fun z => ap1 (by rw [List.mem_singleton.mp z]; simp)) (fun z => ap2 (by rw [List.mem_singleton.mp z]; simp))) (w2.w.r.setLim l1) z2 x5) (by omega) ((C1.trans (c2.more (by simp))).trans (x5.more (by simp)))
    o_args
    refine brD (fun cc => ?_) (fun cc => ?_)
    · o_args
      refine ⟨a, p, d, e, q, c, FB, F, m, B, S0, rfl, w1, fun H2 w2 c2 => ?_⟩
      o_args
      exact k H2 m B S0 w2 (by omega) (C1.trans c2)
    o_args
    refine brD (fun cc => ?_) (fun cc => ?_)
    · o_args
      refine ⟨a, p, d, e, q, c, FB, F, m, B, S0, rfl, w1, fun H2 w2 c2 => ?_⟩
      o_args
      exact k H2 m B S0 w2 (by omega) (C1.trans c2)
    o_args
    refine ⟨a, p, d, e, q, c, FB, F, m, B, S0, rfl, w1, fun H2 w2 c2 => ?_⟩
    o_args
    exact k H2 m B S0 w2 (by omega) (C1.trans c2)
/-! ### narrow limits -/
theorem lcR5 {ta : TA} {tel : TE} {σ : L2.St} {H : Hp} {Q : VK} {j : Nat} {n : Int} (hta : ∀ R : List V → Hp → Prop, R [.int n] H → ta σ H R) (n0 : 0 ≤ n) (n1 : n < 100000)
    (hs : ∀ D (i : Nat) H', H D = none → SameX D H H' → (i : Int) < n → ∀ Y : VK, (∀ x, 0 ≤ x → x ≤ 255 → Y (.int x) H') → tel ((σ.set j none).set j (some (.int (0 + (i : Int))))) H' Y)
    (hd : ∀ D ns H', H D = none → H' D = some (.lst (ns.map V.int)) → (ns.length : Int) = n → Bytes ns → Same H H' → Q (.ref D) H') : tLc (iRng1 ta) (gName j) tYes tel [j] σ H Q :=
  lcR (n := n) (fun D ns H' => SameX D H H' ∧ Bytes ns) hta n0 n1 (fun D hD => ⟨SameX.upd, Bytes.nil⟩) (fun D i ns H' hD hi h hl hp Y hY => hs D i H' hD hp.1 hi Y fun x x0 x1 => hY x H' h ⟨hp.1.upd', hp.2.snoc x0 x1⟩) (fun D ns H' hD h hl hp => hd D ns H' hD h hl hp.2 (Same.ofX hD hp.1))
def sp__law_narrows (K : PySem.W.Frag) (C Cs : Addr) : Sp := fun vs H Q _ => ∃ (a p d e q c : Addr) (FB F : List Addr) (m : Nat) (B : Ib) (S : Sx), vs = [.ref a, .ref p, .ref q] ∧ Bw C Cs a p d e q c FB F m B S H ∧ m ≤ 4900 ∧
  ∀ H' m' B' S', Bw C Cs a p d e q c FB F m' B' S' H' → m' ≤ m + 32 → Ch [a, p, d, e, q, c] H H' → Q (.bl true) H'
set_option maxHeartbeats 0 in
theorem ok__law_narrows (T : Txt K mg) : FnStill P w K mg base 10 T.a__law_narrows T.fd__law_narrows ["box", "inbox", "state"] (sp__law_narrows K T.c_Inbox T.c_Spans) := by
  have S := sc__law_narrows
  refine still_fn T.F__law_narrows S (fun vs H Q E h => ?_) (fun cdv A outer s H vs Q E hg hr h => ?_)
  · obtain ⟨a, p, d, e, q, c, FB, F, m, B, S, rfl, _⟩ := h
    rfl
  · obtain ⟨a, p, d, e, q, c, FB, F, m, B, S0, rfl, w, hm, k⟩ := h
    refine ⟨_, (pss_cons (ps_for PassesOwn.never rfl (pi_list (pe_lst (pa_cons pe_int (pa_cons (pe_op op_add pe_int (pe_call (ok__law_draw T) (hr.mono (by decide)) rfl T.g__law_draw T.F__law_draw.kp T.B__law_draw .nil pass0 (pa_cons (pv 0) (pa_cons pe_int pa_nil)))) (pa_cons (pe_op op_add pe_int (pe_call (ok__law_draw T) (hr.mono (by decide)) rfl T.g__law_draw T.F__law_draw.kp T.B__law_draw .nil pass0 (pa_cons (pv 0) (pa_cons pe_int pa_nil)))) pa_nil))))) (pg_name (i := 3) S.nd rfl (Or.inl rfl)) (pss_cons (ps_dput (room_u1 hr) (pv 2) pe_str (pv 3) rfl)
      (pss_cons (ps_if (PW.pt (pw_or (pt_cmpR op_notN (pe_meth (pv 1) T.cl_Inbox T.m_Inbox_resize (ok_Inbox_resize T) (hr.mono (by decide)) T.B_Inbox_resize .nil passL (pa_cons (pv 3) pa_nil)) pe_non (nomark _)) (pw_or1 (pt_not (pt_val (pe_call (ok__law_state T) (hr.mono (by decide)) rfl T.g__law_state T.F__law_state.kp T.B__law_state .nil pass0 (pa_cons (pv 1) (pa_cons (pv 2) pa_nil)))))))) (pss_one (ps_ret pe_bl)) pss_nil)
      (pss_one (ps_for PassesOwn.never rfl (pi_list (pe_lst (pa_cons (pe_op op_add (pe_dget (room_u1 hr) (pv 2) pe_str (fun _ _ => rfl)) pe_int) (pa_cons (pe_dget (room_u1 hr) (pv 2) pe_str (fun _ _ => rfl)) pa_nil)))) (pg_name (i := 4) S.nd rfl (Or.inr rfl)) (pss_cons (ps_setLc (i := 5) (own := [("j", 6)]) (g := gName 6) (tt := tYes) rfl S.nd rfl rfl (sw_true rfl rfl rfl (by decide +kernel)) (pi_range1 (by rfl) T.b_range (pa_cons pe_int pa_nil)) (blkOk_by (N := ["box", "inbox", "state", "most", "place", "data", "j"]) (sc := defScope s__law_narrows) (by decide +kernel)) (fun _ _ _ _ _ => pg_name (i := 6) S.nd rfl (Or.inl rfl)) (fun _ _ _ _ _ => pts_nil) (fun _ _ _ _ _ => (pe_op op_mod (pe_callTy (T := "int") call_int1 (by rfl) T.b_int (by decide +kernel) (pa_cons (pe_op op_add (pe_op op_mul (pv 4) pe_int) (pv 6)) pa_nil)) pe_int)))
      (pss_one (ps_if (PW.pt (pw_or (pt_cmpR op_ne (pe_meth (pv 1) T.cl_Inbox T.m_Inbox_take (ok_Inbox_take T) (hr.mono (by decide)) T.B_Inbox_take .nil passL (pa_cons (pv 4) (pa_cons (pe_callTy (T := "list") (call_listK (K := K) rfl) (by rfl) T.b_list (by decide +kernel) (pa_cons (pv 5) pa_nil)) pa_nil))) (pe_call (ok__law_stores T) (hr.mono (by decide)) rfl T.g__law_stores T.F__law_stores.kp T.B__law_stores .nil pass0 (pa_cons (pv 2) (pa_cons (pv 4) (pa_cons (pv 5) pa_nil)))) (nomark _)) (pw_or1 (pt_not (pt_val (pe_call (ok__law_state T) (hr.mono (by decide)) rfl T.g__law_state T.F__law_state.kp T.B__law_state .nil pass0 (pa_cons (pv 1) (pa_cons (pv 2) pa_nil)))))))) (pss_one (ps_ret pe_bl)) pss_nil))))))))
      (pss_cons (ps_if (pt_not (pt_val (pe_call (ok__law_reads T) (hr.mono (by decide)) rfl T.g__law_reads T.F__law_reads.kp T.B__law_reads .nil pass0 (pa_cons (pv 1) (pa_cons (pv 2) (pa_cons pe_int pa_nil)))))) (pss_one (ps_ret pe_bl)) pss_nil)
      (pss_cons (ps_set (i := 4) S.nd rfl (Or.inr rfl) (pe_op op_add (pe_dget (room_u1 hr) (pv 2) pe_str (fun _ _ => rfl)) pe_int))
      (pss_cons (ps_if (pt_cmpR op_ne (pe_meth (pv 1) T.cl_Inbox T.m_Inbox_take (ok_Inbox_take T) (hr.mono (by decide)) T.B_Inbox_take .nil passL (pa_cons (pv 4) (pa_cons (pe_lst (pa_cons pe_int (pa_cons pe_int pa_nil))) pa_nil))) (pe_call (ok__law_stores T) (hr.mono (by decide)) rfl T.g__law_stores T.F__law_stores.kp T.B__law_stores .nil pass0 (pa_cons (pv 2) (pa_cons (pv 4) (pa_cons (pe_lst (pa_cons pe_int (pa_cons pe_int pa_nil))) pa_nil)))) (nomark _)) (pss_one (ps_ret pe_bl)) pss_nil)
      (pss_one (ps_ret (pe_call (ok__law_state T) (hr.mono (by decide)) rfl T.g__law_state T.F__law_state.kp T.B__law_state .nil pass0 (pa_cons (pv 1) (pa_cons (pv 2) pa_nil))))))))), ?_⟩
    refine st__law_narrows ?_
    o_args
    refine ⟨a, FB, _, rfl, w.b, by decide, by decide, fun n H1 n0 n1 B1 c1 => ?_⟩
    o_args
    refine ⟨a, FB, _, rfl, B1, by decide, by decide, fun g H2 g0 g1 B2 c2 => ?_⟩
    have w2 := (w.draw c1 B1).draw c2 B2
    o_args
    refine newList (by simp) fun l H3 nl s3 h3 => ?_
    have w3 := w2.same s3
    have loff := w3.w.off (x := l) (ns := [12, 1 + n, 12 + g]) (.inl h3)
    have la : l ≠ a := B2.off nl
    have lo : l ∉ [a, p, d, e, q, c] := fun z => (List.mem_cons.mp z).elim la loff
    have C3 : Ch [a, p, d, e, q, c] H H3 := ((c1.trans c2).more (by simp)).trans (Ch.of s3)
    have all : ∀ x ∈ [V.int 12, .int (1 + n), .int (12 + g)], ∃ y, x = .int y ∧ 1 ≤ y ∧ y ≤ 65535 := fun x hx => by
      simp only [List.mem_cons, List.not_mem_nil, or_false] at hx
      rcases hx with rfl | rfl | rfl
      · exact ⟨_, rfl, by omega, by omega⟩
      · exact ⟨_, rfl, by omega, by omega⟩
      · exact ⟨_, rfl, by omega, by omega⟩
    have len : [V.int 12, .int (1 + n), .int (12 + g)].length = 3 := rfl
    generalize [V.int 12, .int (1 + n), .int (12 + g)] = xs at h3 all len
    refine overL (SqL.of h3) (for_list (K := K) (a := l) (xs := xs) (fun i σ H' => ∃ v3 v4 v5 v6 m' B' S', σ = [some (.ref a), some (.ref p), some (.ref q), v3, v4, v5, v6] ∧ Bw T.c_Inbox T.c_Spans a p d e q c FB F m' B' S' H' ∧ m' ≤ m + 10 * i ∧ Ch [a, p, d, e, q, c] H3 H') ⟨none, none, none, none, m, B, S0, rfl, w3, Nat.le_refl _, Ch.refl⟩ (fun i σ H' _ ⟨_, _, _, _, _, _, _, _, _, _, c⟩ => SqL.of (c.at lo h3)) ?_ ?_)
    · rintro i x σ H4 hx ⟨v3, v4, v5, v6, m', B', S', rfl, w4, hm', c4⟩
      have il := getq_lt hx
      obtain ⟨y, rfl, y0, y1⟩ := all x (List.mem_of_getElem? hx)
      have hq4 := w4.w.s.sq
      unfold Sx.kvs at hq4
      o_args
      refine dput (k := "limit") (v := .int y) (kvs' := Sx.kvs { S' with lim := y } c) hq4 (Nat.le_of_ble_eq_true rfl) (by with_unfolding_all rfl) fun H5 s5 h5 => ?_
      obtain ⟨i5, st5, c5⟩ := w4.st (S' := { S' with lim := y }) s5 h5 rfl rfl
      obtain ⟨ap1, ap2, ap3, ap4, ap5⟩ := w4.w.apart
      obtain ⟨dx5, hp5⟩ := i5.oo
      have z4 := w4.w.z
      o_args
      refine ⟨p, dx5, _, rfl, hp5, rfl, ?_⟩
      o_args
      refine ⟨p, d, e, F, m', B', _, rfl, i5, .inl ⟨y, rfl, y0, y1, fun H6 c6 i6 => ?_⟩⟩
      have x6 : Ch [p, d, e, q, c] H4 H6 := (c5.more (by simp)).trans (c6.more (by simp))
      have w6 := w4.put i6 (st5.ch c6 (fun z => ap1 (by rw [List.mem_singleton.mp z]; simp)) (fun z => ap2 (by rw [List.mem_singleton.mp z]; simp))) (w4.w.r.setLim y1) z4 x6
      generalize ({ B' with lim := y } : Ib) = B6 at w6 i6
      generalize ({ S' with lim := y } : Sx) = S6 at w6
      clear i5 st5 hq4 hp5 s5 h5
      o_args
      refine ⟨p, d, e, q, c, F, _, _, _, rfl, w6.w, fun H7 s7 => ?_⟩
      have w7 := w6.same s7
      have hq7 := w7.w.s.sq
      unfold Sx.kvs at hq7
      have nx7 := w7.w.nx
      have m7 := w7.w.m5
      o_args
      refine newList (by simp) fun l2 H8 nl2 s8 h8 => ?_
      have w8 := w7.same s8
      have loff2 := w8.w.off (x := l2) (ns := [S6.nx + 2, S6.nx]) (.inl h8)
      have l2a : l2 ≠ a := w7.b.off nl2
      have lo2 : l2 ∉ [a, p, d, e, q, c] := fun z => (List.mem_cons.mp z).elim l2a loff2
      have C8 : Ch [a, p, d, e, q, c] H3 H8 := ((c4.trans (x6.more (by simp))).trans (Ch.of s7)).trans (Ch.of s8)
      have all2 : ∀ x ∈ [V.int (S6.nx + 2), .int S6.nx], ∃ y, x = .int y ∧ 0 ≤ y ∧ y ≤ 10000 := fun x hx => by
        simp only [List.mem_cons, List.not_mem_nil, or_false] at hx
        rcases hx with rfl | rfl
        · exact ⟨_, rfl, by omega, by omega⟩
        · exact ⟨_, rfl, by omega, by omega⟩
      have len2 : [V.int (S6.nx + 2), .int S6.nx].length = 2 := rfl
      generalize [V.int (S6.nx + 2), .int S6.nx] = ys at h8 all2 len2
      clear w7 w6 hq7 s7 x6 i6 c6 c5
      refine overL (SqL.of h8) (for_list (K := K) (a := l2) (xs := ys) (fun j σ H' => ∃ v4 v5 v6 m2 B' S', σ = [some (.ref a), some (.ref p), some (.ref q), some (.int y), v4, v5, v6] ∧ Bw T.c_Inbox T.c_Spans a p d e q c FB F m2 B' S' H' ∧ m2 ≤ m' + 5 * j ∧ Ch [a, p, d, e, q, c] H8 H') ⟨v4, v5, v6, m', B6, S6, rfl, w8, Nat.le_refl _, Ch.refl⟩ (fun i σ H' _ ⟨_, _, _, _, _, _, _, _, _, c⟩ => SqL.of (c.at lo2 h8)) ?_ ?_)
      · clear w8
        rintro j x2 σ HA hx2 ⟨v4, v5, v6, m2, BA, SA, rfl, wA, hmA, cA⟩
        have jl := getq_lt hx2
        obtain ⟨y2, rfl, y20, y21⟩ := all2 x2 (List.mem_of_getElem? hx2)
        o_args
        refine lcR5 (n := 5) (fun R q => q) (by decide) (by decide) (fun D i H' hD hs hi Y hY => ?_) (fun D ns HB hD hB hl hb sB => ?_)
        · o_args
          exact hY _ (Int.emod_nonneg _ (by decide)) (by have := Int.emod_lt_of_pos (y2 * 7 + (0 + (i : Int))) (show (0 : Int) < 256 by decide); omega)
        have wB := wA.same sB
        obtain ⟨dxB, hpB⟩ := wB.w.i.oo
        o_args
        refine ⟨p, dxB, _, rfl, hpB, rfl, ?_⟩
        o_args
        refine listOf (SeqA.lst hB) fun M HC nM sC hM => ?_
        have wC := wB.same sC
        have hC := sC _ _ hB
        have nxC := wC.w.nx
        have mC := wC.w.m5
        have zC := wC.w.z
        have eC := wC.w.r.nx
        o_args
        refine ⟨p, d, e, F, m2, BA, _, _, rfl, wC.w.i, wC.al, wC.w.r.g, by omega, by omega, .inl ⟨_, rfl, by omega, .inl ⟨M, ns, rfl, SeqA.lst hM, hb, by omega, fun B2 r HD tk iD cD => ?_⟩⟩⟩
        have stD := wC.w.s.ch cD wC.w.apart.1 wC.w.apart.2.1
        have Doff := wC.w.off (x := D) (ns := ns) (.inl hC)
        have hD' := cD.at (fun z => Doff (by simp only [List.mem_cons, List.not_mem_nil, or_false] at z ⊢; rcases z with z | z | z <;> simp [z])) hC
        o_args
        refine ⟨q, c, D, SA, _, ns, rfl, stD, SeqA.lst hD', by omega, by omega, fun S2 r' HE sd stE cE => ?_⟩
        obtain ⟨er, wE, CE⟩ := wC.took (ns := ns) (by omega) tk iD cD (Same.refl _) sd stE cE
        subst er
        o_args
        refine brDT rfl ?_
        o_args
        refine ⟨p, d, e, q, c, F, _, _, _, rfl, wE.w, fun HF sF => ?_⟩
        o_args
        exact ⟨_, _, _, _, B2, S2, rfl, wE.same sF, by omega, ((cA.trans (Ch.of sB)).trans (Ch.of sC)).trans (CE.trans (Ch.of sF))⟩
      · rintro σ HA ⟨v4, v5, v6, m2, BA, SA, rfl, wA, hmA, cA⟩
        o_args
        exact ⟨_, _, _, _, m2, BA, SA, rfl, wA, by omega, C8.trans cA⟩
    · rintro σ H4 ⟨v3, v4, v5, v6, m', B', S', rfl, w4, hm', c4⟩
      o_args
      refine ⟨p, d, e, q, c, F, m', B', S', 1000, rfl, w4.w, w4.al, by decide, fun H5 B5 S5 i5 c5 => ?_⟩
      have w5 := w4.put i5.i i5.s i5.r i5.z c5
      have hq5 := w5.w.s.sq
      unfold Sx.kvs at hq5
      have nx5 := w5.w.nx
      have m5 := w5.w.m5
      obtain ⟨dx5, hp5⟩ := w5.w.i.oo
      o_args
      refine ⟨p, dx5, _, rfl, hp5, rfl, ?_⟩
      o_args
      refine newList (by simp) fun L H6 nL s6 h6 => ?_
      have w6 := w5.same s6
      have z6 := w6.w.z
      have e6 := w6.w.r.nx
      o_args
      refine ⟨p, d, e, F, m', B5, _, _, rfl, w6.w.i, w6.al, w6.w.r.g, by omega, by omega, .inl ⟨_, rfl, by omega, .inl ⟨L, [7, 8], rfl, SeqA.lst h6, fun y hy => by simp only [List.mem_cons, List.not_mem_nil, or_false] at hy; omega, by decide, fun B2 r HD tk iD cD => ?_⟩⟩⟩
      have stD := w6.w.s.ch cD w6.w.apart.1 w6.w.apart.2.1
      o_args
      refine newList (by simp) fun M HM nM sM hM => ?_
      o_args
      refine ⟨q, c, M, S5, _, [7, 8], rfl, stD.same sM, SeqA.lst hM, by decide, by omega, fun S2 r' HE sd stE cE => ?_⟩
      obtain ⟨er, wE, CE⟩ := w6.took (ns := [7, 8]) (by simp; omega) tk iD cD sM sd stE cE
      subst er
      o_args
      refine brDT rfl ?_
      o_args
      refine ⟨p, d, e, q, c, F, _, _, _, rfl, wE.w, fun HF sF => ?_⟩
      o_args
      exact k HF _ B2 S2 (wE.same sF) (by simp; omega) ((((C3.trans c4).trans (c5.more (by simp))).trans (Ch.of s6)).trans (CE.trans (Ch.of sF)))
/-! ### fillings -/
def sp__law_fills (K : PySem.W.Frag) (C Cs : Addr) : Sp := fun vs H Q _ => ∃ (a p d e q c : Addr) (FB F : List Addr) (m : Nat) (B : Ib) (S : Sx), vs = [.ref p, .ref q] ∧ Bw C Cs a p d e q c FB F m B S H ∧ m ≤ 4900 ∧
  ∀ H' m' B' S', Bw C Cs a p d e q c FB F m' B' S' H' → m' ≤ m + 90 → Ch [a, p, d, e, q, c] H H' → Q (.bl true) H'
set_option maxHeartbeats 0 in
theorem ok__law_fills (T : Txt K mg) : FnStill P w K mg base 10 T.a__law_fills T.fd__law_fills ["inbox", "state"] (sp__law_fills K T.c_Inbox T.c_Spans) := by
  have S := sc__law_fills
  refine still_fn T.F__law_fills S (fun vs H Q E h => ?_) (fun cdv A outer s H vs Q E hg hr h => ?_)
  · obtain ⟨a, p, d, e, q, c, FB, F, m, B, S, rfl, _⟩ := h
    rfl
  · obtain ⟨a, p, d, e, q, c, FB, F, m, B, S0, rfl, w, hm, k⟩ := h
    refine ⟨_, (pss_cons (ps_for PassesOwn.never rfl (pi_range1 (by rfl) T.b_range (pa_cons pe_int pa_nil)) (pg_name (i := 2) S.nd rfl (Or.inl rfl)) (pss_cons (ps_set (i := 3) S.nd rfl (Or.inr rfl) (pe_dget (room_u1 hr) (pv 1) pe_str (fun _ _ => rfl)))
      (pss_cons (ps_setLc (i := 4) (own := [("j", 6)]) (g := gName 6) (tt := tYes) rfl S.nd rfl rfl (sw_true rfl rfl rfl (by decide +kernel)) (pi_range1 (by rfl) T.b_range (pa_cons pe_int pa_nil)) (blkOk_by (N := ["inbox", "state", "k", "front", "data", "told", "j"]) (sc := defScope s__law_fills) (by decide +kernel)) (fun _ _ _ _ _ => pg_name (i := 6) S.nd rfl (Or.inl rfl)) (fun _ _ _ _ _ => pts_nil) (fun _ _ _ _ _ => (pe_op op_mod (pe_callTy (T := "int") call_int1 (by rfl) T.b_int (by decide +kernel) (pa_cons (pe_op op_add (pv 3) (pe_op op_mul pe_int (pv 6))) pa_nil)) pe_int)))
      (pss_cons (ps_set (i := 5) S.nd rfl (Or.inl rfl) (pe_meth (pv 0) T.cl_Inbox T.m_Inbox_take (ok_Inbox_take T) (hr.mono (by decide)) T.B_Inbox_take .nil passL (pa_cons (pv 3) (pa_cons (pe_callTy (T := "list") (call_listK (K := K) rfl) (by rfl) T.b_list (by decide +kernel) (pa_cons (pv 4) pa_nil)) pa_nil))))
      (pss_cons (ps_if (PW.pt (pw_or (pt_cmpR op_ne (pv 5) (pe_call (ok__law_stores T) (hr.mono (by decide)) rfl T.g__law_stores T.F__law_stores.kp T.B__law_stores .nil pass0 (pa_cons (pv 1) (pa_cons (pv 3) (pa_cons (pv 4) pa_nil)))) (nomark _)) (pw_or1 (pt_not (pt_val (pe_call (ok__law_state T) (hr.mono (by decide)) rfl T.g__law_state T.F__law_state.kp T.B__law_state .nil pass0 (pa_cons (pv 0) (pa_cons (pv 1) pa_nil)))))))) (pss_one (ps_ret pe_bl)) pss_nil)
      (pss_one (ps_if (PW.pt (pw_or (pt_not (pt_val (pe_call (ok__law_reads T) (hr.mono (by decide)) rfl T.g__law_reads T.F__law_reads.kp T.B__law_reads .nil pass0 (pa_cons (pv 0) (pa_cons (pv 1) (pa_cons pe_int pa_nil)))))) (pw_or1 (pt_not (pt_val (pe_call (ok__law_state T) (hr.mono (by decide)) rfl T.g__law_state T.F__law_state.kp T.B__law_state .nil pass0 (pa_cons (pv 0) (pa_cons (pv 1) pa_nil)))))))) (pss_one (ps_ret pe_bl)) pss_nil)))))))
      (pss_one (ps_ret pe_bl))), ?_⟩
    refine st__law_fills ?_
    o_args
    refine ⟨by decide, by decide, for_range (lo := 0) (n := (3 : Int).toNat) (fun i σ H' => ∃ v2 v3 v4 v5 v6 m' B' S', σ = [some (.ref p), some (.ref q), v2, v3, v4, v5, v6] ∧ Bw T.c_Inbox T.c_Spans a p d e q c FB F m' B' S' H' ∧ m' ≤ m + 30 * i ∧ Ch [a, p, d, e, q, c] H H') ⟨none, none, none, none, none, m, B, S0, rfl, w, Nat.le_refl _, Ch.refl⟩ ?_ ?_⟩
    · rintro i σ Hi il ⟨v2, v3, v4, v5, v6, m', B', S', rfl, wi, hm', ci⟩
      have i3 : i < 3 := il
      have hqi := wi.w.s.sq
      unfold Sx.kvs at hqi
      o_args
      refine lcR5 (n := 30) (fun R q => q) (by decide) (by decide) (fun D i H' hD hs hi Y hY => ?_) (fun D ns HB hD hB hl hb sB => ?_)
      · o_args
        exact hY _ (Int.emod_nonneg _ (by decide)) (by have := Int.emod_lt_of_pos (S'.nx + 11 * (0 + (i : Int))) (show (0 : Int) < 256 by decide); omega)
      have wB := wi.same sB
      obtain ⟨dxB, hpB⟩ := wB.w.i.oo
      o_args
      refine ⟨p, dxB, _, rfl, hpB, rfl, ?_⟩
      o_args
      refine listOf (SeqA.lst hB) fun M HC nM sC hM => ?_
      have wC := wB.same sC
      have hC := sC _ _ hB
      have nxC := wC.w.nx
      have mC := wC.w.m5
      have zC := wC.w.z
      have eC := wC.w.r.nx
      o_args
      refine ⟨p, d, e, F, m', B', _, _, rfl, wC.w.i, wC.al, wC.w.r.g, by omega, by omega, .inl ⟨_, rfl, by omega, .inl ⟨M, ns, rfl, SeqA.lst hM, hb, by omega, fun B2 r HD tk iD cD => ?_⟩⟩⟩
      have stD := wC.w.s.ch cD wC.w.apart.1 wC.w.apart.2.1
      have Doff := wC.w.off (x := D) (ns := ns) (.inl hC)
      have hD' := cD.at (fun z => Doff (by simp only [List.mem_cons, List.not_mem_nil, or_false] at z ⊢; rcases z with z | z | z <;> simp [z])) hC
      o_args
      refine ⟨q, c, D, S', _, ns, rfl, stD, SeqA.lst hD', by omega, by omega, fun S2 r' HE sd stE cE => ?_⟩
      obtain ⟨er, wE, CE⟩ := wC.took (ns := ns) (by omega) tk iD cD (Same.refl _) sd stE cE
      subst er
      o_args
      refine brDT rfl ?_
      o_args
      refine ⟨p, d, e, q, c, F, _, _, _, rfl, wE.w, fun HF sF => ?_⟩
      have wF := wE.same sF
      o_args
      refine ⟨p, d, e, q, c, F, _, _, _, 40, rfl, wF.w, wF.al, by decide, fun HG BG SG iG cG => ?_⟩
      have wG := wF.put iG.i iG.s iG.r iG.z cG
      o_args
      refine ⟨p, d, e, q, c, F, _, _, _, rfl, wG.w, fun HI sI => ?_⟩
      o_args
      exact ⟨_, _, _, _, _, _, BG, SG, rfl, wG.same sI, by omega, (((ci.trans (Ch.of sB)).trans (Ch.of sC)).trans (CE.trans (Ch.of sF))).trans ((cG.more (by simp)).trans (Ch.of sI))⟩
    · rintro σ Hi ⟨v2, v3, v4, v5, v6, m', B', S', rfl, wi, hm', ci⟩
      o_args
      exact k Hi m' B' S' wi hm' ci
/-! ### all inboxes of a play with their accounts -/
structure Ob where
  p : Addr
  d : Addr
  e : Addr
  q : Addr
  c : Addr
  m : Nat
  B : Ib
  S : Sx
def Ob.foot (o : Ob) : List Addr := [o.p, o.d, o.e, o.q, o.c]
def feet (S P : Addr) (ws : List Ob) : List Addr := S :: P :: (ws.map Ob.foot).flatten
theorem mem_feet {S P : Addr} {ws : List Ob} {x : Addr} : x ∈ feet S P ws ↔ x = S ∨ x = P ∨ ∃ o ∈ ws, x ∈ o.foot := by
  unfold feet
  simp only [List.mem_cons, List.mem_flatten, List.mem_map]
  constructor
  · rintro (h | h | ⟨_, ⟨o, ho, rfl⟩, h⟩)
    · exact .inl h
    · exact .inr (.inl h)
    · exact .inr (.inr ⟨o, ho, h⟩)
  · rintro (h | h | ⟨o, ho, h⟩)
    · exact .inl h
    · exact .inr (.inl h)
    · exact .inr (.inr ⟨_, ⟨o, ho, rfl⟩, h⟩)
/-- all but e -/
def rest (a S P : Addr) (ws : List Ob) (e : Addr) : List Addr := (a :: feet S P ws).filter fun b => decide (b ≠ e)
theorem mem_rest {a S P e x : Addr} {ws : List Ob} : x ∈ rest a S P ws e ↔ (x = a ∨ x ∈ feet S P ws) ∧ x ≠ e := by
  unfold rest
  rw [List.mem_filter, List.mem_cons, decide_eq_true_iff]
structure Wd (C Cs a S P : Addr) (ws : List Ob) (M : Nat) (H : Hp) : Prop where
  b : Box a (feet S P ws) H
  s : H S = some (.lst (ws.map fun o => V.ref o.q))
  t : H P = some (.lst (ws.map fun o => V.ref o.p))
  al : Al (a :: feet S P ws) H
  w : ∀ (i : Nat) (o : Ob), ws[i]? = some o → Iw C Cs o.p o.d o.e o.q o.c (rest a S P ws o.e) o.m o.B o.S H ∧ o.m ≤ M
  ap : ∀ (i j : Nat) (x y : Ob), i ≠ j → ws[i]? = some x → ws[j]? = some y → ∀ z ∈ x.foot, z ∉ y.foot
  n : ∀ (i : Nat) (o : Ob), ws[i]? = some o → ∀ z ∈ o.foot, z ≠ S ∧ z ≠ P
  sp : S ≠ P
section
variable {C Cs a S P : Addr} {ws : List Ob} {M M' i : Nat} {H H' : Hp} {o : Ob}
theorem Wd.mem (hi : ws[i]? = some o) : ∀ b ∈ o.foot, b ∈ feet S P ws := fun b hb => mem_feet.mpr (.inr (.inr ⟨o, List.mem_of_getElem? hi, hb⟩))
theorem Wd.off (W : Wd C Cs a S P ws M H) : S ≠ a ∧ P ≠ a ∧ ∀ (i : Nat) (o : Ob), ws[i]? = some o → ∀ z ∈ o.foot, z ≠ a := by
  have h := W.b.nin
  exact ⟨fun e => h (e ▸ mem_feet.mpr (.inl rfl)), fun e => h (e ▸ mem_feet.mpr (.inr (.inl rfl))), fun i o ho z hz e => h (e ▸ Wd.mem ho z hz)⟩
theorem Wd.bw (W : Wd C Cs a S P ws M H) (hi : ws[i]? = some o) : Bw C Cs a o.p o.d o.e o.q o.c (feet S P ws) (rest a S P ws o.e) o.m o.B o.S H ∧ o.m ≤ M := by
  have m := Wd.mem (S := S) (P := P) hi
  have nn := W.off.2.2 i o hi
  exact ⟨⟨W.b, (W.w i o hi).1, fun b hb => by
    obtain ⟨h, _⟩ := mem_rest.mp hb
    exact W.al b (List.mem_cons.mpr h), ⟨m _ (by simp [Ob.foot]), m _ (by simp [Ob.foot]), m _ (by simp [Ob.foot]), m _ (by simp [Ob.foot]), m _ (by simp [Ob.foot])⟩, mem_rest.mpr ⟨.inl rfl, (nn o.e (by simp [Ob.foot])).symm⟩, fun b hb => W.al b (List.mem_cons_of_mem _ hb)⟩, (W.w i o hi).2⟩
theorem Wd.more (W : Wd C Cs a S P ws M H) (h : M ≤ M') : Wd C Cs a S P ws M' H := ⟨W.b, W.s, W.t, W.al, fun i o hi => ⟨(W.w i o hi).1, Nat.le_trans (W.w i o hi).2 h⟩, W.ap, W.n, W.sp⟩
theorem Wd.same (W : Wd C Cs a S P ws M H) (s : Same H H') : Wd C Cs a S P ws M H' := ⟨W.b.same s, s _ _ W.s, s _ _ W.t, W.al.same s, fun i o hi => ⟨(W.w i o hi).1.same s, (W.w i o hi).2⟩, W.ap, W.n, W.sp⟩
theorem Wd.box (W : Wd C Cs a S P ws M H) (b : Box a (feet S P ws) H') (c : Ch [a] H H') : Wd C Cs a S P ws M H' :=
  ⟨b, c.at (by simp [W.off.1]) W.s, c.at (by simp [W.off.2.1]) W.t, W.al.ch c, fun i o hi => ⟨((W.bw hi).1.draw c b).w, (W.w i o hi).2⟩, W.ap, W.n, W.sp⟩
theorem set_map {β : Type} {f : Ob → β} {o' : Ob} (hi : ws[i]? = some o) (e : f o' = f o) : (ws.set i o').map f = ws.map f := by
  apply List.ext_getElem?
  intro j
  rw [List.getElem?_map, List.getElem?_map, List.getElem?_set]
  by_cases q : i = j
  · subst q
    have il := getq_lt hi
    rw [if_pos rfl, if_pos il, hi]
    exact congrArg some e
  · rw [if_neg q]
/-- one of them does something -/
theorem Wd.deed {m' : Nat} {B' : Ib} {S' : Sx} (W : Wd C Cs a S P ws M H) (hi : ws[i]? = some o) (w : Bw C Cs a o.p o.d o.e o.q o.c (feet S P ws) (rest a S P ws o.e) m' B' S' H') (hm : m' ≤ M') (hM : M ≤ M') (x : Ch [a, o.p, o.d, o.e, o.q, o.c] H H') :
    Wd C Cs a S P (ws.set i ⟨o.p, o.d, o.e, o.q, o.c, m', B', S'⟩) M' H' := by
  have il := getq_lt hi
  have at_ : ∀ {j : Nat} {y : Ob}, (ws.set i ⟨o.p, o.d, o.e, o.q, o.c, m', B', S'⟩)[j]? = some y → (j = i ∧ y = ⟨o.p, o.d, o.e, o.q, o.c, m', B', S'⟩) ∨ (j ≠ i ∧ ws[j]? = some y) := fun {j y} h => by
    rw [List.getElem?_set] at h
    by_cases q : i = j
    · rw [if_pos q, if_pos il] at h
      exact .inl ⟨q.symm, (Option.some.inj h).symm⟩
    · rw [if_neg q] at h
      exact .inr ⟨fun z => q z.symm, h⟩
  have ef : feet S P (ws.set i ⟨o.p, o.d, o.e, o.q, o.c, m', B', S'⟩) = feet S P ws := by
    unfold feet
    rw [set_map (f := Ob.foot) (o' := ⟨o.p, o.d, o.e, o.q, o.c, m', B', S'⟩) hi rfl]
  have er : ∀ e, rest a S P (ws.set i ⟨o.p, o.d, o.e, o.q, o.c, m', B', S'⟩) e = rest a S P ws e := fun e => by unfold rest; rw [ef]
  have n0 := W.n i o hi
  have off := W.off
  have nx : ∀ {z}, (z = S ∨ z = P) → z ∉ a :: o.foot := fun {z} h q => by
    rcases List.mem_cons.mp q with q | q
    · rcases h with h | h
      · exact off.1 (h.symm.trans q)
      · exact off.2.1 (h.symm.trans q)
    · exact h.elim (n0 z q).1 (n0 z q).2
  have x : Ch (a :: o.foot) H H' := x
  refine ⟨by rw [ef]; exact w.b, ?_, ?_, by rw [ef]; exact W.al.ch x, fun j y h => ?_, fun j k y z n h g => ?_, fun j y h => ?_, W.sp⟩
  · rw [set_map (f := fun o => V.ref o.q) (o' := ⟨o.p, o.d, o.e, o.q, o.c, m', B', S'⟩) hi rfl]
    exact x.at (nx (.inl rfl)) W.s
  · rw [set_map (f := fun o => V.ref o.p) (o' := ⟨o.p, o.d, o.e, o.q, o.c, m', B', S'⟩) hi rfl]
    exact x.at (nx (.inr rfl)) W.t
  · rw [er]
    rcases at_ h with ⟨_, rfl⟩ | ⟨n, h⟩
    · exact ⟨w.w, hm⟩
    · obtain ⟨v, v2⟩ := W.w j y h
      have ap := W.ap i j o y (fun z => n z.symm) hi h
      have ya := off.2.2 j y h
      refine ⟨v.ch x (fun b hb => ?_) (fun b hb q => ?_), Nat.le_trans v2 hM⟩
      · rcases List.mem_cons.mp hb with q | q
        · exact mem_rest.mpr ⟨.inl q, fun z => ya y.e (by simp [Ob.foot]) (z.symm.trans q)⟩
        · exact mem_rest.mpr ⟨.inr (Wd.mem hi b q), fun z => ap b q (by rw [z]; simp [Ob.foot])⟩
      · have hb' : b ∈ y.foot := by
          simp only [Ob.foot, List.mem_cons, List.not_mem_nil, or_false] at hb ⊢
          rcases hb with z | z | z | z <;> simp [z]
        rcases List.mem_cons.mp q with q | q
        · exact ya b hb' q
        · exact ap b q hb'
  · rcases at_ h with ⟨ej, rfl⟩ | ⟨n1, h⟩ <;> rcases at_ g with ⟨ek, rfl⟩ | ⟨n2, g⟩
    · exact absurd (ej.trans ek.symm) n
    · exact W.ap i k o z (Ne.symm n2) hi g
    · exact W.ap j i y o n1 h hi
    · exact W.ap j k y z n h g
  · rcases at_ h with ⟨_, rfl⟩ | ⟨_, h⟩
    · exact n0
    · exact W.n j y h
/-- one more, all of it new -/
theorem Wd.snoc (W : Wd C Cs a S P ws M H) (b : Box a (feet S P (ws ++ [o])) H') (hs : H' S = some (.lst ((ws ++ [o]).map fun o => V.ref o.q))) (ht : H' P = some (.lst ((ws ++ [o]).map fun o => V.ref o.p))) (c : Ch [a, S, P] H H') (w : Iw C Cs o.p o.d o.e o.q o.c (rest a S P (ws ++ [o]) o.e) o.m o.B o.S H')
    (hm : o.m ≤ M) (nw : ∀ z ∈ o.foot, H z = none) (nl : Al o.foot H') : Wd C Cs a S P (ws ++ [o]) M H' := by
  have ef : ∀ x, x ∈ feet S P (ws ++ [o]) ↔ x ∈ feet S P ws ∨ x ∈ o.foot := fun x => by
    rw [mem_feet, mem_feet]
    constructor
    · rintro (h | h | ⟨y, hy, h⟩)
      · exact .inl (.inl h)
      · exact .inl (.inr (.inl h))
      · rcases List.mem_append.mp hy with hy | hy
        · exact .inl (.inr (.inr ⟨y, hy, h⟩))
        · rw [List.mem_singleton.mp hy] at h; exact .inr h
    · rintro ((h | h | ⟨y, hy, h⟩) | h)
      · exact .inl h
      · exact .inr (.inl h)
      · exact .inr (.inr ⟨y, List.mem_append_left _ hy, h⟩)
      · exact .inr (.inr ⟨o, by simp, h⟩)
  have off := W.off
  have old : ∀ {x}, x ∈ feet S P ws → H x ≠ none := fun h => W.al _ (List.mem_cons_of_mem _ h)
  have owns : ∀ (G F : List Addr) {p d e q c : Addr} {m : Nat} {B : Ib} {S : Sx}, (∀ z ∈ G, H z = none) → Iw C Cs p d e q c F m B S H → Iw C Cs p d e q c (G ++ F) m B S H := fun G => by
    induction G with
    | nil => intro F p d e q c m B S _ h; exact h
    | cons z G ih => intro F p d e q c m B S n h; exact (ih F (fun y hy => n y (List.mem_cons_of_mem _ hy)) h).own (n z List.mem_cons_self) (Same.refl _)
  refine ⟨b, hs, ht, fun x hx => ?_, fun j y h => ?_, fun j k y z n h g x hx hz => ?_, fun j y h z hz => ?_, W.sp⟩
  · rcases List.mem_cons.mp hx with e | hx
    · exact c.2 x (W.al x (by rw [e]; exact List.mem_cons_self))
    · rcases (ef x).mp hx with hx | hx
      · exact c.2 x (old hx)
      · exact nl x hx
  · rcases getq_app h with ⟨_, h⟩ | ⟨_, rfl⟩
    · obtain ⟨v, v2⟩ := W.w j y h
      have ya := off.2.2 j y h
      have yn := W.n j y h
      have me := Wd.mem (S := S) (P := P) h
      have v3 := (owns o.foot _ nw v).ch c (fun b hb => by
        refine List.mem_append_right _ (mem_rest.mpr ?_)
        simp only [List.mem_cons, List.not_mem_nil, or_false] at hb
        rcases hb with hb | hb | hb
        · exact ⟨.inl hb, fun z => ya y.e (by simp [Ob.foot]) (z.symm.trans hb)⟩
        · exact ⟨.inr (mem_feet.mpr (.inl hb)), fun z => (yn y.e (by simp [Ob.foot])).1 (z.symm.trans hb)⟩
        · exact ⟨.inr (mem_feet.mpr (.inr (.inl hb))), fun z => (yn y.e (by simp [Ob.foot])).2 (z.symm.trans hb)⟩) (fun b hb q => by
        have hb' : b ∈ y.foot := by
          simp only [Ob.foot, List.mem_cons, List.not_mem_nil, or_false] at hb ⊢
          rcases hb with z | z | z | z <;> simp [z]
        simp only [List.mem_cons, List.not_mem_nil, or_false] at q
        rcases q with q | q | q
        · exact ya b hb' q
        · exact (yn b hb').1 q
        · exact (yn b hb').2 q)
      have le : ∀ b ∈ rest a S P (ws ++ [o]) y.e, b ∈ o.foot ++ rest a S P ws y.e := fun b hb => by
        obtain ⟨h1, h2⟩ := mem_rest.mp hb
        rcases h1 with h1 | h1
        · exact List.mem_append_right _ (mem_rest.mpr ⟨.inl h1, h2⟩)
        · rcases (ef b).mp h1 with h1 | h1
          · exact List.mem_append_right _ (mem_rest.mpr ⟨.inr h1, h2⟩)
          · exact List.mem_append_left _ h1
      have ne : ∀ z ∈ [y.p, y.d, y.q, y.c], z ∈ rest a S P (ws ++ [o]) y.e := fun z hz => by
        have hz' : z ∈ y.foot := by
          simp only [Ob.foot, List.mem_cons, List.not_mem_nil, or_false] at hz ⊢
          rcases hz with e | e | e | e <;> simp [e]
        refine mem_rest.mpr ⟨.inr ((ef z).mpr (.inl (me z hz'))), fun e => ?_⟩
        have out := v.i.ee.out
        have mm : z ∈ rest a S P ws y.e := by
          simp only [List.mem_cons, List.not_mem_nil, or_false] at hz
          rcases hz with h | h | h | h
          · rw [h]; exact v.i.ff.1
          · rw [h]; exact v.i.ff.2
          · rw [h]; exact v.ap.1
          · rw [h]; exact v.ap.2
        exact out ((congrArg (fun b => b ∈ rest a S P ws y.e) e).mp mm)
      exact ⟨⟨v3.i.less le (ne _ (by simp)) (ne _ (by simp)), v3.s, v3.r, v3.z, ⟨ne _ (by simp), ne _ (by simp)⟩, v3.ne, v3.m5⟩, v2⟩
    · exact ⟨w, hm⟩
  · rcases getq_app h with ⟨_, h1⟩ | ⟨e1, z1⟩ <;> rcases getq_app g with ⟨_, g1⟩ | ⟨e2, z2⟩
    · exact W.ap j k y z n h1 g1 x hx hz
    · subst z2
      exact old (Wd.mem h1 x hx) (nw x hz)
    · subst z1
      exact old (Wd.mem g1 x hz) (nw x hx)
    · exact absurd (e1.trans e2.symm) n
  · rcases getq_app h with ⟨_, h⟩ | ⟨_, rfl⟩
    · exact W.n j y h z hz
    · have := nw z hz
      exact ⟨(fun q => by rw [q, W.s] at this; cases this), (fun q => by rw [q, W.t] at this; cases this)⟩
end
/-! ### the law -/
theorem Wd.next {C Cs a S P : Addr} {ws : List Ob} {M M' i : Nat} {H H' : Hp} {o : Ob} {m' : Nat} {B' : Ib} {S' : Sx} (W : Wd C Cs a S P ws M H) (hi : ws[i]? = some o) (w : Bw C Cs a o.p o.d o.e o.q o.c (feet S P ws) (rest a S P ws o.e) m' B' S' H') (hm : m' ≤ M') (hM : M ≤ M') (x : Ch [a, o.p, o.d, o.e, o.q, o.c] H H') :
    ∃ ws' o', ws'.length = ws.length ∧ ws'[i]? = some o' ∧ o'.p = o.p ∧ o'.q = o.q ∧ o'.m = m' ∧ Wd C Cs a S P ws' M' H' := by
  have il := getq_lt hi
  exact ⟨_, ⟨o.p, o.d, o.e, o.q, o.c, m', B', S'⟩, by rw [List.length_set], by rw [List.getElem?_set, if_pos rfl, if_pos il], rfl, rfl, rfl, W.deed hi w hm hM x⟩
def sp_law (K : PySem.W.Frag) : Sp := fun vs H Q _ => ∃ (a : Addr) (ns : List Int), vs = [.ref a] ∧ SqL K H a (ns.map V.int) ∧ ns.length ≤ 63 ∧ ∀ H', Q (.bl true) H'
theorem Rel.new {n : Int} (hn : n ≤ 65535) : Rel (Ib.new n) ⟨n, 1, 1, 0, none, 0, [], fun _ => none⟩ := ⟨⟨Int.le_refl _, Int.le_refl _, fun o => ⟨fun z => absurd z Mem.nil, fun z => absurd rfl z.1⟩, rfl, fun o z => absurd rfl z, fun o z1 z2 => by
  have : o < (1 : Int) := z2
  have : (1 : Int) ≤ o := z1
  omega⟩, rfl, rfl, rfl, rfl, rfl, rfl, fun _ _ => rfl, (fun o h1 h2 => by
  have : o < (1 : Int) := h2
  omega), (fun o h => absurd rfl h), hn⟩
set_option maxHeartbeats 0 in
set_option pp.maxSteps 150 in
theorem ok_law (T : Txt K mg) : FnStill P w K mg base 12 T.a_law T.fd_law ["script"] (sp_law K) := by
  have S := sc_law
  refine still_fn T.F_law S (fun vs H Q E h => ?_) (fun cdv A outer s H vs Q E hg hr h => ?_)
  · obtain ⟨s, ns, rfl, _⟩ := h
    rfl
  · obtain ⟨s, ns0, rfl, hS, _, k⟩ := h
    have hu := room_un hr
    refine ⟨_, (pss_cons (ps_set (i := 1) S.nd rfl (Or.inl rfl) (pe_call (ok__law_box T) (hr.mono (by decide)) rfl T.g__law_box T.F__law_box.kp T.B__law_box .nil pass0 (pa_cons (pv 0) pa_nil)))
      (pss_cons (ps_set (i := 2) S.nd rfl (Or.inl rfl) (pe_lst pa_nil))
      (pss_cons (ps_set (i := 3) S.nd rfl (Or.inl rfl) (pe_lst pa_nil))
      (pss_cons (ps_set (i := 4) S.nd rfl (Or.inl rfl) (pe_op op_add pe_int (pe_call (ok__law_draw T) (hr.mono (by decide)) rfl T.g__law_draw T.F__law_draw.kp T.B__law_draw .nil pass0 (pa_cons (pv 1) (pa_cons pe_int pa_nil)))))
      (pss_cons (ps_for PassesOwn.never rfl (pi_range1 (by rfl) T.b_range (pa_cons pe_int pa_nil)) (pg_name (i := 5) S.nd rfl (Or.inl rfl)) (pss_cons (ps_expr (pe_bm PySem.F.plainAttrs_list PySem.F.slot_list_append PySem.F.type_list_append mt_append (pv 2) (pa_cons (pe_call (ok__law_new_state T) (hr.mono (by decide)) rfl T.g__law_new_state T.F__law_new_state.kp T.B__law_new_state .nil pass0 (pa_cons (pe_call (ok__law_limit T) (hr.mono (by decide)) rfl T.g__law_limit T.F__law_limit.kp T.B__law_limit .nil pass0 (pa_cons (pv 1) pa_nil)) pa_nil)) pa_nil)))
      (pss_cons (ps_expr (pe_bm PySem.F.plainAttrs_list PySem.F.slot_list_append PySem.F.type_list_append mt_append (pv 3) (pa_cons (pe_make T.M_Inbox (ok_Inbox_init_ T) (hr.mono (by decide)) rfl T.g_Inbox T.B_Inbox_init_ .nil passL (pa_cons (pe_dget (room_u1 hr) (pe_ix ix_list (pv 2) (pv 5) (fun _ _ => rfl)) pe_str (fun _ _ => rfl)) pa_nil)) pa_nil)))
      (pss_one (ps_if (pt_not (pt_val (pe_call (ok__law_state T) (hr.mono (by decide)) rfl T.g__law_state T.F__law_state.kp T.B__law_state .nil pass0 (pa_cons (pe_ix ix_list (pv 3) (pv 5) (fun _ _ => rfl)) (pa_cons (pe_ix ix_list (pv 2) (pv 5) (fun _ _ => rfl)) pa_nil))))) (pss_one (ps_ret pe_bl)) pss_nil)))))
      (pss_cons (ps_for PassesOwn.never rfl (pi_range1 (by rfl) T.b_range (pa_cons (pv 4) pa_nil)) (pg_name (i := 5) S.nd rfl (Or.inl rfl)) (pss_cons (ps_set (i := 6) S.nd rfl (Or.inl rfl) (pe_call (ok__law_draw T) (hr.mono (by decide)) rfl T.g__law_draw T.F__law_draw.kp T.B__law_draw .nil pass0 (pa_cons (pv 1) (pa_cons pe_int pa_nil))))
      (pss_cons (ps_if (pt_not (pt_val (pe_still hg (ok__law_deed T) (hr.mono (by decide)) rfl T.g__law_deed T.F__law_deed.kp T.B__law_deed .nil pass0 (pa_cons (pv 1) (pa_cons (pe_ix ix_list (pv 3) (pv 6) (fun _ _ => rfl)) (pa_cons (pe_ix ix_list (pv 2) (pv 6) (fun _ _ => rfl)) pa_nil)))))) (pss_one (ps_ret pe_bl)) pss_nil)
      (pss_one (ps_if (PW.pt (pw_and (pt_cmpR op_gt (pe_call (ok__law_draw T) (hr.mono (by decide)) rfl T.g__law_draw T.F__law_draw.kp T.B__law_draw .nil pass0 (pa_cons (pv 1) (pa_cons pe_int pa_nil))) pe_int (nomark _)) (pw_and1 (pt_not (pt_val (pe_call (ok__law_state T) (hr.mono (by decide)) rfl T.g__law_state T.F__law_state.kp T.B__law_state .nil pass0 (pa_cons (pe_ix ix_list (pv 3) (pv 6) (fun _ _ => rfl)) (pa_cons (pe_ix ix_list (pv 2) (pv 6) (fun _ _ => rfl)) pa_nil)))))))) (pss_one (ps_ret pe_bl)) pss_nil)))))
      (pss_cons (ps_for PassesOwn.never rfl (pi_range1 (by rfl) T.b_range (pa_cons pe_int pa_nil)) (pg_name (i := 5) S.nd rfl (Or.inl rfl)) (pss_cons (ps_if (pt_not (pt_val (pe_still hg (ok__law_narrows T) (hr.mono (by decide)) rfl T.g__law_narrows T.F__law_narrows.kp T.B__law_narrows .nil pass0 (pa_cons (pv 1) (pa_cons (pe_ix ix_list (pv 3) (pv 5) (fun _ _ => rfl)) (pa_cons (pe_ix ix_list (pv 2) (pv 5) (fun _ _ => rfl)) pa_nil)))))) (pss_one (ps_ret pe_bl)) pss_nil)
      (pss_cons (ps_if (PW.pt (pw_or (pt_not (pt_val (pe_still hg (ok__law_finish_refused T) (hr.mono (by decide)) rfl T.g__law_finish_refused T.F__law_finish_refused.kp T.B__law_finish_refused .nil pass0 (pa_cons (pv 1) (pa_cons (pe_ix ix_list (pv 3) (pv 5) (fun _ _ => rfl)) (pa_cons (pe_ix ix_list (pv 2) (pv 5) (fun _ _ => rfl)) pa_nil)))))) (pw_or1 (pt_not (pt_val (pe_call (ok__law_state T) (hr.mono (by decide)) rfl T.g__law_state T.F__law_state.kp T.B__law_state .nil pass0 (pa_cons (pe_ix ix_list (pv 3) (pv 5) (fun _ _ => rfl)) (pa_cons (pe_ix ix_list (pv 2) (pv 5) (fun _ _ => rfl)) pa_nil)))))))) (pss_one (ps_ret pe_bl)) pss_nil)
      (pss_cons (ps_if (PW.pt (pw_or (pt_not (pt_val (pe_call (ok__law_finishes T) (hr.mono (by decide)) rfl T.g__law_finishes T.F__law_finishes.kp T.B__law_finishes .nil pass0 (pa_cons (pv 1) (pa_cons (pe_ix ix_list (pv 3) (pv 5) (fun _ _ => rfl)) (pa_cons (pe_ix ix_list (pv 2) (pv 5) (fun _ _ => rfl)) pa_nil)))))) (pw_or1 (pt_not (pt_val (pe_call (ok__law_state T) (hr.mono (by decide)) rfl T.g__law_state T.F__law_state.kp T.B__law_state .nil pass0 (pa_cons (pe_ix ix_list (pv 3) (pv 5) (fun _ _ => rfl)) (pa_cons (pe_ix ix_list (pv 2) (pv 5) (fun _ _ => rfl)) pa_nil)))))))) (pss_one (ps_ret pe_bl)) pss_nil)
      (pss_one (ps_if (PW.pt (pw_or (pt_not (pt_val (pe_still hg (ok__law_finish_refused T) (hr.mono (by decide)) rfl T.g__law_finish_refused T.F__law_finish_refused.kp T.B__law_finish_refused .nil pass0 (pa_cons (pv 1) (pa_cons (pe_ix ix_list (pv 3) (pv 5) (fun _ _ => rfl)) (pa_cons (pe_ix ix_list (pv 2) (pv 5) (fun _ _ => rfl)) pa_nil)))))) (pw_or1 (pt_not (pt_val (pe_still hg (ok__law_fills T) (hr.mono (by decide)) rfl T.g__law_fills T.F__law_fills.kp T.B__law_fills .nil pass0 (pa_cons (pe_ix ix_list (pv 3) (pv 5) (fun _ _ => rfl)) (pa_cons (pe_ix ix_list (pv 2) (pv 5) (fun _ _ => rfl)) pa_nil)))))))) (pss_one (ps_ret pe_bl)) pss_nil))))))
      (pss_one (ps_ret pe_bl))))))))), ?_⟩
    refine st_law ?_
    o_args
    refine ⟨s, ns0, rfl, hS, fun a H1 na s1 B1 => ?_⟩
    o_args
    refine newList (by simp) fun S2 H2 n2 s2 h2 => ?_
    have B2 : Box a [S2] H2 := (B1 [] Al.nil).own n2 s2
    o_args
    refine newList (by simp) fun P H3 n3 s3 h3 => ?_
    have B3 : Box a [P, S2] H3 := B2.own n3 s3
    have h2' := s3 _ _ h2
    have sp : S2 ≠ P := fun e => by rw [e, n3] at h2; cases h2
    have W3 : Wd T.c_Inbox T.c_Spans a S2 P [] 40 H3 := ⟨B3.less (by simp [feet]), h2', h3, (by
      obtain ⟨ob, hb⟩ := B3.al
      exact .cons hb (.cons h2' (.cons h3 .nil))), (fun i o h => by simp at h), (fun i j x y _ h => by simp at h), (fun i o h => by simp at h), sp⟩
    clear B1 B2 s1 na
    o_args
    refine ⟨a, _, _, rfl, W3.b, by decide, by decide, fun mm H4 m0 m1 B4 c4 => ?_⟩
    have W4 := W3.box B4 c4
    clear W3 B4 c4 B3 h2 h3 h2' s2 s3 n2 n3
    o_args
    refine ⟨by decide, by decide, for_rangeK (fun i σ H' => ∃ z1 z2 ws, σ = [some (.ref s), some (.ref a), some (.ref S2), some (.ref P), some (.int (6 + mm)), z1, z2] ∧ ws.length = i ∧ Wd T.c_Inbox T.c_Spans a S2 P ws 40 H') ⟨none, none, [], rfl, rfl, W4⟩ (fun i σ H5 hi h => ?_) (fun σ H5 h => ?_)⟩
    · obtain ⟨z1, z2, ws, rfl, wl, W5⟩ := h
      have hi : i < 2 := hi
      o_args
      refine ⟨isList W5.s, ?_⟩
      o_args
      refine ⟨a, _, rfl, W5.b, fun n H6 n1 n2 B6 c6 => ?_⟩
      have W6 := W5.box B6 c6
      clear W5 B6 c6
      o_args
      refine ⟨n, rfl, fun q c H7 nq nc s7 st7 => ?_⟩
      o_args
      refine appList (s7 _ _ W6.s) (by rw [List.length_map]; omega) fun H8 s8 h8 => ?_
      have c8 : Ch [S2] H7 H8 := Ch.ofX (by simp) s8 h8
      have qS : q ≠ S2 := fun e => by rw [e, W6.s] at nq; cases nq
      have cS : c ≠ S2 := fun e => by rw [e, W6.s] at nc; cases nc
      have qP : q ≠ P := fun e => by rw [e, W6.t] at nq; cases nq
      have cP : c ≠ P := fun e => by rw [e, W6.t] at nc; cases nc
      have st8 := st7.ch c8 (by simpa using qS) (by simpa using cS)
      have hP8 := c8.at (by simpa using sp.symm) (s7 _ _ W6.t)
      have hq8 := st8.sq
      unfold Sx.kvs at hq8
      have C8 : Ch [S2] H6 H8 := (Ch.of s7).trans c8
      o_args
      have e0 : (0 : Int) + (i : Int) = (i : Int) := by omega
      refine ⟨isList hP8, ?_⟩
      o_args
      rw [e0]
      refine ixL (i := i) h8 (by rw [List.getElem?_append_right (by rw [List.length_map]; omega), List.length_map, wl, Nat.sub_self]; rfl) ?_
      o_args
      intro x dx hx hdx nd
      have sm : Same H8 (upd (upd H8 dx (.own x)) x (.ins T.c_Inbox dx [])) := fun b o hb => by rw [upd_ne (ne_of_none hb hx), upd_ne (ne_of_none hb hdx)]; exact hb
      have hxm : upd (upd H8 dx (.own x)) x (.ins T.c_Inbox dx []) x = some (.ins T.c_Inbox dx []) := upd_same
      generalize upd (upd H8 dx (.own x)) x (.ins T.c_Inbox dx []) = Hm at sm hxm
      refine ⟨x, dx, _, rfl, hxm, .inl ⟨n, rfl, n1, n2, fun d e H11 nd nE c11 I11 => ⟨rfl, ?_⟩⟩⟩
      have stm := st8.same sm
      have hPm := sm _ _ hP8
      have hSm := sm _ _ h8
      have xP : x ≠ P := fun z => by rw [z, hP8] at hx; cases hx
      have xS : x ≠ S2 := fun z => by rw [z, h8] at hx; cases hx
      have xq : x ≠ q := fun z => by rw [z, st8.sq] at hx; cases hx
      have xc : x ≠ c := fun z => by
        obtain ⟨_, hc, _⟩ := st8.sc
        rw [z, hc] at hx; cases hx
      have st11 := stm.ch c11 (by simpa using xq.symm) (by simpa using xc.symm)
      have hP11 := c11.at (by simpa using xP.symm) hPm
      have hS11 := c11.at (by simpa using xS.symm) hSm
      have Alm : Al (a :: feet S2 P ws) Hm := (W6.al.ch C8).same sm
      have Am : Al (x :: q :: c :: a :: feet S2 P ws) Hm := by
        obtain ⟨_, hc, _⟩ := stm.sc
        exact .cons hxm (.cons stm.sq (.cons hc Alm))
      have i11 := I11 _ Am List.mem_cons_self
      have nx6 : H6 x = none := C8.none hx
      have nd6 : H6 d = none := C8.none (none_of sm nd)
      have ne6 : H6 e = none := C8.none (none_of sm nE)
      o_args
      refine appList hP11 (by rw [List.length_map]; omega) fun H12 s12 h12 => ?_
      have c12 : Ch [P] H11 H12 := Ch.ofX (by simp) s12 h12
      have st12 := st11.ch c12 (by simpa using qP) (by simpa using cP)
      have hS12 := c12.at (by simpa using sp) hS11
      have dP : d ≠ P := fun z => by rw [z, hPm] at nd; cases nd
      have C12 : Ch [a, S2, P] H6 H12 := by
        have z : Ch (x :: [a, S2, P]) H6 H12 := (((C8.more (by simp)).trans (Ch.of sm)).trans (c11.more (by simp))).trans (c12.more (by simp))
        exact z.drop nx6
      have i12 := i11.ch c12 (fun b hb => by rw [List.mem_singleton.mp hb]; simp [feet]) (by simpa using xP) (by simpa using dP)
      have eO := i12.ee.out
      have foot : ∀ z ∈ [x, d, e, q, c], H6 z = none := fun z hz => by
        simp only [List.mem_cons, List.not_mem_nil, or_false] at hz
        rcases hz with h | h | h | h | h <;> rw [h] <;> assumption
      have mf : ∀ b, b ∈ feet S2 P (ws ++ [(⟨x, d, e, q, c, 0, Ib.new n, ⟨n, 1, 1, 0, none, 0, [], fun _ => none⟩⟩ : Ob)]) → b ∈ feet S2 P ws ∨ b ∈ [x, d, e, q, c] := fun b hb => by
        rcases mem_feet.mp hb with h | h | ⟨y, hy, h⟩
        · exact .inl (mem_feet.mpr (.inl h))
        · exact .inl (mem_feet.mpr (.inr (.inl h)))
        · rcases List.mem_append.mp hy with hy | hy
          · exact .inl (mem_feet.mpr (.inr (.inr ⟨y, hy, h⟩)))
          · rw [List.mem_singleton.mp hy] at h; exact .inr h
      have fm : ∀ b ∈ [x, d, e, q, c], b ∈ feet S2 P (ws ++ [(⟨x, d, e, q, c, 0, Ib.new n, ⟨n, 1, 1, 0, none, 0, [], fun _ => none⟩⟩ : Ob)]) := fun b hb => mem_feet.mpr (.inr (.inr ⟨(⟨x, d, e, q, c, 0, Ib.new n, ⟨n, 1, 1, 0, none, 0, [], fun _ => none⟩⟩ : Ob), by simp, hb⟩))
      have mr : ∀ b ∈ [x, d, q, c], b ∈ rest a S2 P (ws ++ [(⟨x, d, e, q, c, 0, Ib.new n, ⟨n, 1, 1, 0, none, 0, [], fun _ => none⟩⟩ : Ob)]) e := fun b hb => by
        refine mem_rest.mpr ⟨.inr (fm b (by simp only [List.mem_cons, List.not_mem_nil, or_false] at hb ⊢; rcases hb with h | h | h | h <;> simp [h])), fun z => eO ?_⟩
        rw [← z]
        simp only [List.mem_cons, List.not_mem_nil, or_false] at hb ⊢
        rcases hb with h | h | h | h <;> simp [h]
      have iw : Iw T.c_Inbox T.c_Spans x d e q c (rest a S2 P (ws ++ [(⟨x, d, e, q, c, 0, Ib.new n, ⟨n, 1, 1, 0, none, 0, [], fun _ => none⟩⟩ : Ob)]) e) 0 (Ib.new n) ⟨n, 1, 1, 0, none, 0, [], fun _ => none⟩ H12 :=
        ⟨i12.less (fun b hb => by
          obtain ⟨h1, h2⟩ := mem_rest.mp hb
          rcases h1 with h1 | h1
          · simp [h1]
          · rcases mf b h1 with h1 | h1
            · simp [h1]
            · simp only [List.mem_cons, List.not_mem_nil, or_false] at h1 ⊢
              rcases h1 with h | h | h | h | h
              · simp [h]
              · simp [h]
              · exact absurd h h2
              · simp [h]
              · simp [h]) (mr _ (by simp)) (mr _ (by simp)), st12, Rel.new n2, Nat.zero_le _, ⟨mr _ (by simp), mr _ (by simp)⟩, ⟨(fun z => by
          rw [z, stm.sq] at nd; cases nd), (fun z => by
          obtain ⟨_, hc, _⟩ := stm.sc
          rw [z, hc] at nd; cases nd)⟩, Nat.zero_le _⟩
      have B12 : Box a (feet S2 P (ws ++ [(⟨x, d, e, q, c, 0, Ib.new n, ⟨n, 1, 1, 0, none, 0, [], fun _ => none⟩⟩ : Ob)])) H12 := by
        have fr : ∀ (G F : List Addr), (∀ z ∈ G, H6 z = none) → Box a F H6 → Box a (G ++ F) H6 := fun G => by
          induction G with
          | nil => intro F _ h; exact h
          | cons z G ih => intro F m h; exact (ih F (fun y hy => m y (List.mem_cons_of_mem _ hy)) h).own (m z List.mem_cons_self) (Same.refl _)
        have b1 := fr [x, d, e, q, c] _ foot W6.b
        have cc : Ch (x :: [S2, P]) H6 H12 := (((C8.more (by simp)).trans (Ch.of sm)).trans (c11.more (by simp))).trans (c12.more (by simp))
        refine (b1.ch cc (fun b hb => ?_)).less fun b hb => ?_
        · simp only [List.mem_cons, List.not_mem_nil, or_false] at hb
          rcases hb with h | h | h
          · simp [h]
          · exact List.mem_append_right _ (mem_feet.mpr (.inl h))
          · exact List.mem_append_right _ (mem_feet.mpr (.inr (.inl h)))
        · exact (mf b hb).elim (fun h => List.mem_append_right _ h) fun h => List.mem_append_left _ h
      have al12 : Al [x, d, e, q, c] H12 := fun b hb => by
        obtain ⟨_, hxx⟩ := i12.oo
        obtain ⟨_, hdd, _⟩ := i12.dd
        obtain ⟨_, hee⟩ := i12.ee.at_
        obtain ⟨_, hcc, _⟩ := st12.sc
        simp only [List.mem_cons, List.not_mem_nil, or_false] at hb
        rcases hb with h | h | h | h | h <;> rw [h]
        · rw [hxx]; exact nofun
        · rw [hdd]; exact nofun
        · rw [hee]; exact nofun
        · rw [st12.sq]; exact nofun
        · rw [hcc]; exact nofun
      have W12 : Wd T.c_Inbox T.c_Spans a S2 P (ws ++ [(⟨x, d, e, q, c, 0, Ib.new n, ⟨n, 1, 1, 0, none, 0, [], fun _ => none⟩⟩ : Ob)]) 40 H12 := W6.snoc B12 (by rw [List.map_append]; exact hS12) (by rw [List.map_append]; exact h12) C12 iw (Nat.zero_le _) foot al12
      have hi2 : (ws ++ [(⟨x, d, e, q, c, 0, Ib.new n, ⟨n, 1, 1, 0, none, 0, [], fun _ => none⟩⟩ : Ob)])[i]? = some (⟨x, d, e, q, c, 0, Ib.new n, ⟨n, 1, 1, 0, none, 0, [], fun _ => none⟩⟩ : Ob) := by
        rw [List.getElem?_append_right (by omega), wl, Nat.sub_self]
        rfl
      clear B12 C12 C8 c11 c12 s12 h12 hP11 hS11 hS12 sm hxm I11 i11 i12 st11 st12 stm st8 hPm hSm Alm Am iw mr fm mf foot al12 nE nd hx hdx
      o_args
      refine ixL W12.t (by rw [List.getElem?_map, hi2]; rfl) ?_
      o_args
      refine ixL W12.s (by rw [List.getElem?_map, hi2]; rfl) ?_
      o_args
      refine ⟨x, d, e, q, c, _, _, _, _, rfl, (W12.w i _ hi2).1, fun H13 s13 => ?_⟩
      o_args
      exact ⟨_, _, _, rfl, by rw [List.length_append, wl]; rfl, W12.same s13⟩
    · obtain ⟨z1, z2, ws, rfl, wl, W5⟩ := h
      have wl : ws.length = 2 := wl
      clear W4
      o_args
      refine ⟨by omega, by omega, for_rangeK (fun i σ H' => ∃ z1 z2 ws, σ = [some (.ref s), some (.ref a), some (.ref S2), some (.ref P), some (.int (6 + mm)), z1, z2] ∧ ws.length = 2 ∧ Wd T.c_Inbox T.c_Spans a S2 P ws (40 * (i + 1)) H') ⟨z1, z2, ws, rfl, wl, W5⟩ (fun i σ H6 hi h => ?_) (fun σ H6 h => ?_)⟩
      · clear W5
        obtain ⟨z1, z2, ws, rfl, wl, W6⟩ := h
        o_args
        refine ⟨a, _, _, rfl, W6.b, by decide, by decide, fun wi H7 w0 w1 B7 c7 => ?_⟩
        have W7 := W6.box B7 c7
        obtain ⟨j, rfl⟩ : ∃ j : Nat, wi = j := ⟨wi.toNat, by omega⟩
        have jl : j < ws.length := by omega
        obtain ⟨o, ho⟩ : ∃ o, ws[j]? = some o := ⟨_, List.getElem?_eq_getElem jl⟩
        obtain ⟨w7, m7⟩ := W7.bw ho
        o_args
        refine ixL W7.t (by rw [List.getElem?_map, ho]; rfl) ?_
        o_args
        refine ixL W7.s (by rw [List.getElem?_map, ho]; rfl) ?_
        o_args
        refine ⟨a, o.p, o.d, o.e, o.q, o.c, _, _, o.m, o.B, o.S, rfl, w7, by omega, fun H8 m' B' S' w8 hm' c8 => ?_⟩
        have W8 := W7.deed (M' := 40 * (i + 1 + 1)) ho w8 (by omega) (by omega) c8
        have wl8 : (ws.set j ⟨o.p, o.d, o.e, o.q, o.c, m', B', S'⟩).length = 2 := by rw [List.length_set]; exact wl
        have ho8 : (ws.set j ⟨o.p, o.d, o.e, o.q, o.c, m', B', S'⟩)[j]? = some ⟨o.p, o.d, o.e, o.q, o.c, m', B', S'⟩ := by rw [List.getElem?_set, if_pos rfl, if_pos jl]
        generalize ws.set j ⟨o.p, o.d, o.e, o.q, o.c, m', B', S'⟩ = ws8 at W8 wl8 ho8
        clear W6 W7 B7 c7 w7 m7 ho jl wl w8 c8
        o_args
        refine ⟨a, _, _, rfl, W8.b, by decide, by decide, fun x H9 x0 x1 B9 c9 => ?_⟩
        have W9 := W8.box B9 c9
        o_args
        refine brD (fun e => ?_) (fun e => ?_)
        · obtain ⟨w9, _⟩ := W9.w j _ ho8
          o_args
          refine ixL W9.t (by rw [List.getElem?_map, ho8]; rfl) ?_
          o_args
          refine ixL W9.s (by rw [List.getElem?_map, ho8]; rfl) ?_
          o_args
          refine ⟨o.p, o.d, o.e, o.q, o.c, _, _, _, _, rfl, w9, fun H10 s10 => ?_⟩
          o_args
          exact ⟨_, _, ws8, rfl, wl8, W9.same s10⟩
        · o_args
          exact ⟨_, _, ws8, rfl, wl8, W9⟩
      · clear W5
        obtain ⟨z1, z2, ws, rfl, wl, W6⟩ := h
        have W6 : Wd T.c_Inbox T.c_Spans a S2 P ws 1000 H6 := W6.more (by omega)
        o_args
        refine ⟨by decide, by decide, for_rangeK (fun i σ H' => ∃ z1 z2 ws, σ = [some (.ref s), some (.ref a), some (.ref S2), some (.ref P), some (.int (6 + mm)), z1, z2] ∧ ws.length = 2 ∧ Wd T.c_Inbox T.c_Spans a S2 P ws (1000 + 130 * i) H') ⟨z1, z2, ws, rfl, wl, W6⟩ (fun i σ H7 hi h => ?_) (fun σ H7 h => ?_)⟩
        · clear W6
          obtain ⟨z1, z2, ws, rfl, wl, W7⟩ := h
          have hi : i < 2 := hi
          obtain ⟨o, ho⟩ : ∃ o, ws[i]? = some o := ⟨_, List.getElem?_eq_getElem (by omega)⟩
          obtain ⟨w7, m7⟩ := W7.bw ho
          have e0 : (0 : Int) + (i : Int) = (i : Int) := by omega
          o_args
          rw [e0]
          refine ixL W7.t (v := .ref o.p) (by rw [List.getElem?_map, ho]; rfl) ?_
          o_args
          refine ixL W7.s (v := .ref o.q) (by rw [List.getElem?_map, ho]; rfl) ?_
          o_args
          refine ⟨a, o.p, o.d, o.e, o.q, o.c, _, _, o.m, o.B, o.S, rfl, w7, by omega, fun H8 m1 B8 S8 w8 hm8 c8 => ?_⟩
          obtain ⟨ws8, o8, wl8, ho8, e8p, e8q, e8m, W8⟩ := W7.next (M' := 1000 + 130 * i + 32) ho w8 (by omega) (by omega) c8
          rw [← e8m] at hm8
          clear w8 c8 w7
          obtain ⟨w8, m8⟩ := W8.bw ho8
          o_args
          refine ixL W8.t (v := .ref o8.p) (by rw [List.getElem?_map, ho8]; rfl) ?_
          o_args
          refine ixL W8.s (v := .ref o8.q) (by rw [List.getElem?_map, ho8]; rfl) ?_
          o_args
          refine ⟨a, o8.p, o8.d, o8.e, o8.q, o8.c, _, _, o8.m, o8.B, o8.S, rfl, w8, fun H9 w9 c9 => ?_⟩
          obtain ⟨ws9, o9, wl9, ho9, e9p, e9q, e9m, W9⟩ := W8.next (M' := 1000 + 130 * i + 32) ho8 w9 (by omega) (by omega) c9
          clear w9 c9 w8
          obtain ⟨w9, m9⟩ := W9.bw ho9
          o_args
          refine ixL W9.t (v := .ref o9.p) (by rw [List.getElem?_map, ho9]; rfl) ?_
          o_args
          refine ixL W9.s (v := .ref o9.q) (by rw [List.getElem?_map, ho9]; rfl) ?_
          o_args
          refine ⟨o9.p, o9.d, o9.e, o9.q, o9.c, _, _, _, _, rfl, w9.w, fun H10 s10 => ?_⟩
          have W10 := W9.same s10
          obtain ⟨w10, _⟩ := W10.bw ho9
          clear w9 W9 s10
          o_args
          refine ixL W10.t (v := .ref o9.p) (by rw [List.getElem?_map, ho9]; rfl) ?_
          o_args
          refine ixL W10.s (v := .ref o9.q) (by rw [List.getElem?_map, ho9]; rfl) ?_
          o_args
          refine ⟨a, o9.p, o9.d, o9.e, o9.q, o9.c, _, _, o9.m, o9.B, o9.S, rfl, w10, fun H11 B11 S11 w11 c11 => ?_⟩
          obtain ⟨ws11, o11, wl11, ho11, e11p, e11q, e11m, W11⟩ := W10.next (M' := 1000 + 130 * i + 32) ho9 w11 (by omega) (by omega) c11
          clear w11 c11 w10
          obtain ⟨w11, m11⟩ := W11.bw ho11
          o_args
          refine ixL W11.t (v := .ref o11.p) (by rw [List.getElem?_map, ho11]; rfl) ?_
          o_args
          refine ixL W11.s (v := .ref o11.q) (by rw [List.getElem?_map, ho11]; rfl) ?_
          o_args
          refine ⟨o11.p, o11.d, o11.e, o11.q, o11.c, _, _, _, _, rfl, w11.w, fun H12 s12 => ?_⟩
          have W12 := W11.same s12
          obtain ⟨w12, _⟩ := W12.bw ho11
          clear w11 W11 s12
          o_args
          refine ixL W12.t (v := .ref o11.p) (by rw [List.getElem?_map, ho11]; rfl) ?_
          o_args
          refine ixL W12.s (v := .ref o11.q) (by rw [List.getElem?_map, ho11]; rfl) ?_
          o_args
          refine ⟨a, o11.p, o11.d, o11.e, o11.q, o11.c, _, _, o11.m, o11.B, o11.S, rfl, w12, fun H13 w13 c13 => ?_⟩
          obtain ⟨ws13, o13, wl13, ho13, e13p, e13q, e13m, W13⟩ := W12.next (M' := 1000 + 130 * i + 32) ho11 w13 (by omega) (by omega) c13
          clear w13 c13 w12
          obtain ⟨w13, m13⟩ := W13.bw ho13
          o_args
          refine ixL W13.t (v := .ref o13.p) (by rw [List.getElem?_map, ho13]; rfl) ?_
          o_args
          refine ixL W13.s (v := .ref o13.q) (by rw [List.getElem?_map, ho13]; rfl) ?_
          o_args
          refine ⟨a, o13.p, o13.d, o13.e, o13.q, o13.c, _, _, o13.m, o13.B, o13.S, rfl, w13, by omega, fun H14 m2 B14 S14 w14 hm14 c14 => ?_⟩
          obtain ⟨ws14, o14, wl14, ho14, e14p, e14q, e14m, W14⟩ := W13.next (M' := 1000 + 130 * (i + 1)) ho13 w14 (by omega) (by omega) c14
          o_args
          exact ⟨_, _, ws14, rfl, by omega, W14⟩
        · obtain ⟨z1, z2, ws, rfl, wl, W7⟩ := h
          o_args
          exact k _
end
set_option maxHeartbeats 0 in
theorem all_mk {l : PySem.W.OpenLaw} {w : World} {K : PySem.W.Frag} {h : Heap} {mg : Str → Option Value} {fa : Addr} (X : K.In h) (G : h.Ns mainGlobals mg) (hfa : mg "law" = some (.ref fa))
    {c_Spans c_Inbox c_LossError c_InvalidNumber c_InvalidSetting a_InvalidNumber_init_ a_InvalidSetting_init_ a_is_integer a_is_between a_is_at_least a_is_byte a_is_sequence a_require_data a_require_limit a_is_run a_joined a_missing a_common a_without a_Spans_init_ a_Spans_rows a_Spans_put a_Spans_drop a_Spans_holding a_Spans_gaps a_Spans_highest a_Inbox_init_ a_Inbox_limit p_Inbox_limit a_Inbox_limit_set a_Inbox_edge p_Inbox_edge a_Inbox_room p_Inbox_room a_Inbox_ready p_Inbox_ready a_Inbox_ended p_Inbox_ended a_Inbox_expected p_Inbox_expected a_Inbox_urgent_count p_Inbox_urgent_count a_Inbox_resize a_Inbox_take a_Inbox_stop a_Inbox_move_on a_Inbox_finish a_Inbox_read a_Inbox_told_runs a_Inbox_mark_urgent a__law_box a__law_draw a__law_is_whole a__law_limit a__law_bytes a__law_pairs_are a__law_tuple_is a__law_new_state a__law_edge a__law_stores a__law_runs a__law_told a__law_offset a__law_takes a__law_reads a__law_state a__law_most a__law_finishes a__law_finish_refused a__law_read_refused a__law_limit_refused a__law_marks a__law_deed a__law_narrows a__law_fills a_law : Addr}
    {od_InvalidNumber_init_ an_InvalidNumber_init_ od_InvalidSetting_init_ an_InvalidSetting_init_ od_is_integer an_is_integer od_is_between an_is_between od_is_at_least an_is_at_least od_is_byte an_is_byte od_is_sequence an_is_sequence od_require_data an_require_data od_require_limit an_require_limit od_is_run an_is_run od_joined an_joined od_missing an_missing od_common an_common od_without an_without od_Spans_init_ an_Spans_init_ od_Spans_rows an_Spans_rows od_Spans_put an_Spans_put od_Spans_drop an_Spans_drop od_Spans_holding an_Spans_holding od_Spans_gaps an_Spans_gaps od_Spans_highest an_Spans_highest od_Inbox_init_ an_Inbox_init_ od_Inbox_limit an_Inbox_limit od_Inbox_limit_set an_Inbox_limit_set od_Inbox_edge an_Inbox_edge od_Inbox_room an_Inbox_room od_Inbox_ready an_Inbox_ready od_Inbox_ended an_Inbox_ended od_Inbox_expected an_Inbox_expected od_Inbox_urgent_count an_Inbox_urgent_count od_Inbox_resize an_Inbox_resize od_Inbox_take an_Inbox_take od_Inbox_stop an_Inbox_stop od_Inbox_move_on an_Inbox_move_on od_Inbox_finish an_Inbox_finish od_Inbox_read an_Inbox_read od_Inbox_told_runs an_Inbox_told_runs od_Inbox_mark_urgent an_Inbox_mark_urgent od__law_box an__law_box od__law_draw an__law_draw od__law_is_whole an__law_is_whole od__law_limit an__law_limit od__law_bytes an__law_bytes od__law_pairs_are an__law_pairs_are od__law_tuple_is an__law_tuple_is od__law_new_state an__law_new_state od__law_edge an__law_edge od__law_stores an__law_stores od__law_runs an__law_runs od__law_told an__law_told od__law_offset an__law_offset od__law_takes an__law_takes od__law_reads an__law_reads od__law_state an__law_state od__law_most an__law_most od__law_finishes an__law_finishes od__law_finish_refused an__law_finish_refused od__law_read_refused an__law_read_refused od__law_limit_refused an__law_limit_refused od__law_marks an__law_marks od__law_deed an__law_deed od__law_narrows an__law_narrows od__law_fills an__law_fills od_law an_law : Option Addr} {sl_InvalidNumber_init_ sl_InvalidSetting_init_ sl_is_integer sl_is_between sl_is_at_least sl_is_byte sl_is_sequence sl_require_data sl_require_limit sl_is_run sl_joined sl_missing sl_common sl_without sl_Spans_init_ sl_Spans_rows sl_Spans_put sl_Spans_drop sl_Spans_holding sl_Spans_gaps sl_Spans_highest sl_Inbox_init_ sl_Inbox_limit sl_Inbox_limit_set sl_Inbox_edge sl_Inbox_room sl_Inbox_ready sl_Inbox_ended sl_Inbox_expected sl_Inbox_urgent_count sl_Inbox_resize sl_Inbox_take sl_Inbox_stop sl_Inbox_move_on sl_Inbox_finish sl_Inbox_read sl_Inbox_told_runs sl_Inbox_mark_urgent sl__law_box sl__law_draw sl__law_is_whole sl__law_limit sl__law_bytes sl__law_pairs_are sl__law_tuple_is sl__law_new_state sl__law_edge sl__law_stores sl__law_runs sl__law_told sl__law_offset sl__law_takes sl__law_reads sl__law_state sl__law_most sl__law_finishes sl__law_finish_refused sl__law_read_refused sl__law_limit_refused sl__law_marks sl__law_deed sl__law_narrows sl__law_fills sl_law : Array (Option Value)}
    {oc_InvalidNumber_init_ kV_InvalidNumber_init_ dc_InvalidNumber_init_ pm_InvalidNumber_init_ cd_InvalidNumber_init_ ct_InvalidNumber_init_ oc_InvalidSetting_init_ kV_InvalidSetting_init_ dc_InvalidSetting_init_ pm_InvalidSetting_init_ cd_InvalidSetting_init_ ct_InvalidSetting_init_ oc_is_integer kV_is_integer dc_is_integer pm_is_integer cd_is_integer ct_is_integer oc_is_between kV_is_between dc_is_between pm_is_between cd_is_between ct_is_between oc_is_at_least kV_is_at_least dc_is_at_least pm_is_at_least cd_is_at_least ct_is_at_least oc_is_byte kV_is_byte dc_is_byte pm_is_byte cd_is_byte ct_is_byte oc_is_sequence kV_is_sequence dc_is_sequence pm_is_sequence cd_is_sequence ct_is_sequence oc_require_data kV_require_data dc_require_data pm_require_data cd_require_data ct_require_data oc_require_limit kV_require_limit dc_require_limit pm_require_limit cd_require_limit ct_require_limit oc_is_run kV_is_run dc_is_run pm_is_run cd_is_run ct_is_run oc_joined kV_joined dc_joined pm_joined cd_joined ct_joined oc_missing kV_missing dc_missing pm_missing cd_missing ct_missing oc_common kV_common dc_common pm_common cd_common ct_common oc_without kV_without dc_without pm_without cd_without ct_without oc_Spans_init_ kV_Spans_init_ dc_Spans_init_ pm_Spans_init_ cd_Spans_init_ ct_Spans_init_ oc_Spans_rows kV_Spans_rows dc_Spans_rows pm_Spans_rows cd_Spans_rows ct_Spans_rows oc_Spans_put kV_Spans_put dc_Spans_put pm_Spans_put cd_Spans_put ct_Spans_put oc_Spans_drop kV_Spans_drop dc_Spans_drop pm_Spans_drop cd_Spans_drop ct_Spans_drop oc_Spans_holding kV_Spans_holding dc_Spans_holding pm_Spans_holding cd_Spans_holding ct_Spans_holding oc_Spans_gaps kV_Spans_gaps dc_Spans_gaps pm_Spans_gaps cd_Spans_gaps ct_Spans_gaps oc_Spans_highest kV_Spans_highest dc_Spans_highest pm_Spans_highest cd_Spans_highest ct_Spans_highest oc_Inbox_init_ kV_Inbox_init_ dc_Inbox_init_ pm_Inbox_init_ cd_Inbox_init_ ct_Inbox_init_ oc_Inbox_limit kV_Inbox_limit dc_Inbox_limit pm_Inbox_limit cd_Inbox_limit ct_Inbox_limit oc_Inbox_limit_set kV_Inbox_limit_set dc_Inbox_limit_set pm_Inbox_limit_set cd_Inbox_limit_set ct_Inbox_limit_set oc_Inbox_edge kV_Inbox_edge dc_Inbox_edge pm_Inbox_edge cd_Inbox_edge ct_Inbox_edge oc_Inbox_room kV_Inbox_room dc_Inbox_room pm_Inbox_room cd_Inbox_room ct_Inbox_room oc_Inbox_ready kV_Inbox_ready dc_Inbox_ready pm_Inbox_ready cd_Inbox_ready ct_Inbox_ready oc_Inbox_ended kV_Inbox_ended dc_Inbox_ended pm_Inbox_ended cd_Inbox_ended ct_Inbox_ended oc_Inbox_expected kV_Inbox_expected dc_Inbox_expected pm_Inbox_expected cd_Inbox_expected ct_Inbox_expected oc_Inbox_urgent_count kV_Inbox_urgent_count dc_Inbox_urgent_count pm_Inbox_urgent_count cd_Inbox_urgent_count ct_Inbox_urgent_count oc_Inbox_resize kV_Inbox_resize dc_Inbox_resize pm_Inbox_resize cd_Inbox_resize ct_Inbox_resize oc_Inbox_take kV_Inbox_take dc_Inbox_take pm_Inbox_take cd_Inbox_take ct_Inbox_take oc_Inbox_stop kV_Inbox_stop dc_Inbox_stop pm_Inbox_stop cd_Inbox_stop ct_Inbox_stop oc_Inbox_move_on kV_Inbox_move_on dc_Inbox_move_on pm_Inbox_move_on cd_Inbox_move_on ct_Inbox_move_on oc_Inbox_finish kV_Inbox_finish dc_Inbox_finish pm_Inbox_finish cd_Inbox_finish ct_Inbox_finish oc_Inbox_read kV_Inbox_read dc_Inbox_read pm_Inbox_read cd_Inbox_read ct_Inbox_read oc_Inbox_told_runs kV_Inbox_told_runs dc_Inbox_told_runs pm_Inbox_told_runs cd_Inbox_told_runs ct_Inbox_told_runs oc_Inbox_mark_urgent kV_Inbox_mark_urgent dc_Inbox_mark_urgent pm_Inbox_mark_urgent cd_Inbox_mark_urgent ct_Inbox_mark_urgent oc__law_box kV__law_box dc__law_box pm__law_box cd__law_box ct__law_box oc__law_draw kV__law_draw dc__law_draw pm__law_draw cd__law_draw ct__law_draw oc__law_is_whole kV__law_is_whole dc__law_is_whole pm__law_is_whole cd__law_is_whole ct__law_is_whole oc__law_limit kV__law_limit dc__law_limit pm__law_limit cd__law_limit ct__law_limit oc__law_bytes kV__law_bytes dc__law_bytes pm__law_bytes cd__law_bytes ct__law_bytes oc__law_pairs_are kV__law_pairs_are dc__law_pairs_are pm__law_pairs_are cd__law_pairs_are ct__law_pairs_are oc__law_tuple_is kV__law_tuple_is dc__law_tuple_is pm__law_tuple_is cd__law_tuple_is ct__law_tuple_is oc__law_new_state kV__law_new_state dc__law_new_state pm__law_new_state cd__law_new_state ct__law_new_state oc__law_edge kV__law_edge dc__law_edge pm__law_edge cd__law_edge ct__law_edge oc__law_stores kV__law_stores dc__law_stores pm__law_stores cd__law_stores ct__law_stores oc__law_runs kV__law_runs dc__law_runs pm__law_runs cd__law_runs ct__law_runs oc__law_told kV__law_told dc__law_told pm__law_told cd__law_told ct__law_told oc__law_offset kV__law_offset dc__law_offset pm__law_offset cd__law_offset ct__law_offset oc__law_takes kV__law_takes dc__law_takes pm__law_takes cd__law_takes ct__law_takes oc__law_reads kV__law_reads dc__law_reads pm__law_reads cd__law_reads ct__law_reads oc__law_state kV__law_state dc__law_state pm__law_state cd__law_state ct__law_state oc__law_most kV__law_most dc__law_most pm__law_most cd__law_most ct__law_most oc__law_finishes kV__law_finishes dc__law_finishes pm__law_finishes cd__law_finishes ct__law_finishes oc__law_finish_refused kV__law_finish_refused dc__law_finish_refused pm__law_finish_refused cd__law_finish_refused ct__law_finish_refused oc__law_read_refused kV__law_read_refused dc__law_read_refused pm__law_read_refused cd__law_read_refused ct__law_read_refused oc__law_limit_refused kV__law_limit_refused dc__law_limit_refused pm__law_limit_refused cd__law_limit_refused ct__law_limit_refused oc__law_marks kV__law_marks dc__law_marks pm__law_marks cd__law_marks ct__law_marks oc__law_deed kV__law_deed dc__law_deed pm__law_deed cd__law_deed ct__law_deed oc__law_narrows kV__law_narrows dc__law_narrows pm__law_narrows cd__law_narrows ct__law_narrows oc__law_fills kV__law_fills dc__law_fills pm__law_fills cd__law_fills ct__law_fills oc_law kV_law dc_law pm_law cd_law ct_law : Value}
    {u_MOST_TOLD : Value}
    {gx_Inbox_limit_set : Value}
    {rs_Inbox_limit rs_Inbox_limit_set rs_Inbox_edge rs_Inbox_room rs_Inbox_ready rs_Inbox_ended rs_Inbox_expected rs_Inbox_urgent_count : List Value}
    {xn_InvalidNumber xq_InvalidNumber : Str} {xN_InvalidNumber : Addr} {xb_InvalidNumber xm_InvalidNumber : List Value} {xs_InvalidNumber : List Str} {xu_InvalidNumber : List Value} {xa_InvalidNumber : Bool} {xo_InvalidNumber : _} {xd_InvalidNumber : Option Addr} {x0_InvalidNumber x1_InvalidNumber x2_InvalidNumber x3_InvalidNumber x5_InvalidNumber : Option Value}
    {xn_InvalidSetting xq_InvalidSetting : Str} {xN_InvalidSetting : Addr} {xb_InvalidSetting xm_InvalidSetting : List Value} {xs_InvalidSetting : List Str} {xu_InvalidSetting : List Value} {xa_InvalidSetting : Bool} {xo_InvalidSetting : _} {xd_InvalidSetting : Option Addr} {x0_InvalidSetting x1_InvalidSetting x2_InvalidSetting x3_InvalidSetting x5_InvalidSetting : Option Value}
    (aC_Spans : PySem.W.nsIn K mainGlobals "Spans" = some (some (.ref c_Spans)))
    (pg_Spans : PySem.W.plainGet K c_Spans Str.empty = true)
    (hd_Spans : PySem.W.hasDictIn K c_Spans = true)
    (po_Spans : PySem.W.plainOver K c_Spans = true)
    (sa_Spans : PySem.W.findIn K (.ref c_Spans) "__setattr__" = some (some (.builtin "object.__setattr__")))
    (mk_Spans : PySem.W.makesIn K c_Spans = true)
    (kc_Spans : PySem.W.keepIn K (.ref c_Spans) = true)
    (n_Spans__runs : PySem.W.findIn K (.ref c_Spans) "_runs" = some none)
    (aC_Inbox : PySem.W.nsIn K mainGlobals "Inbox" = some (some (.ref c_Inbox)))
    (pg_Inbox : PySem.W.plainGet K c_Inbox Str.empty = true)
    (hd_Inbox : PySem.W.hasDictIn K c_Inbox = true)
    (po_Inbox : PySem.W.plainOver K c_Inbox = true)
    (sa_Inbox : PySem.W.findIn K (.ref c_Inbox) "__setattr__" = some (some (.builtin "object.__setattr__")))
    (mk_Inbox : PySem.W.makesIn K c_Inbox = true)
    (kc_Inbox : PySem.W.keepIn K (.ref c_Inbox) = true)
    (n_Inbox__limit : PySem.W.findIn K (.ref c_Inbox) "_limit" = some none)
    (n_Inbox_next_offset : PySem.W.findIn K (.ref c_Inbox) "next_offset" = some none)
    (n_Inbox_read_offset : PySem.W.findIn K (.ref c_Inbox) "read_offset" = some none)
    (n_Inbox_final : PySem.W.findIn K (.ref c_Inbox) "final" = some none)
    (n_Inbox_urgent_end : PySem.W.findIn K (.ref c_Inbox) "urgent_end" = some none)
    (n_Inbox__stored : PySem.W.findIn K (.ref c_Inbox) "_stored" = some none)
    (n_Inbox__ahead : PySem.W.findIn K (.ref c_Inbox) "_ahead" = some none)
    (n_Inbox__latest : PySem.W.findIn K (.ref c_Inbox) "_latest" = some none)
    (aC_LossError : PySem.W.nsIn K mainGlobals "LossError" = some (some (.ref c_LossError)))
    (aC_InvalidNumber : PySem.W.nsIn K mainGlobals "InvalidNumber" = some (some (.ref c_InvalidNumber)))
    (xl_InvalidNumber : K.lookup c_InvalidNumber = some (excClassObj xn_InvalidNumber xq_InvalidNumber c_InvalidNumber xN_InvalidNumber xb_InvalidNumber xm_InvalidNumber true xs_InvalidNumber xu_InvalidNumber xa_InvalidNumber xo_InvalidNumber xd_InvalidNumber x0_InvalidNumber x1_InvalidNumber x2_InvalidNumber x3_InvalidNumber x5_InvalidNumber "ValueError.__new__"))
    (sa_InvalidNumber : PySem.W.findIn K (.ref c_InvalidNumber) "__setattr__" = some (some (.builtin "object.__setattr__")))
    (xx_InvalidNumber : PySem.W.subIn K (.ref c_InvalidNumber) (.type "BaseException") = some true)
    (xt_InvalidNumber : PySem.W.typeIn K (.ref c_InvalidNumber) = some (.type "type"))
    (xk_InvalidNumber : PySem.W.keepIn K (.ref c_InvalidNumber) = true)
    (xi_InvalidNumber : PySem.W.findIn K (.ref c_InvalidNumber) "__init__" = some (some (.ref a_InvalidNumber_init_)))
    (xg_InvalidNumber : PySem.W.findIn K (.ref c_InvalidNumber) "__getattribute__" = some (some (.builtin "BaseException.__getattribute__")))
    (xh_InvalidNumber : PySem.W.findIn K (.ref c_InvalidNumber) "__getattr__" = some none)
    (xy_InvalidNumber : PySem.W.hasDictIn K c_InvalidNumber = true)
    (xc_InvalidNumber : PySem.W.findIn K (.ref c_InvalidNumber) "__class__" = some (some (.builtin "object.__class__")))
    (xr_InvalidNumber : PySem.W.mroIn K c_InvalidNumber (.type "object") = some true)
    (nX_InvalidNumber : PySem.W.findIn K (.ref c_InvalidNumber) "number" = some none)
    (aC_InvalidSetting : PySem.W.nsIn K mainGlobals "InvalidSetting" = some (some (.ref c_InvalidSetting)))
    (xl_InvalidSetting : K.lookup c_InvalidSetting = some (excClassObj xn_InvalidSetting xq_InvalidSetting c_InvalidSetting xN_InvalidSetting xb_InvalidSetting xm_InvalidSetting true xs_InvalidSetting xu_InvalidSetting xa_InvalidSetting xo_InvalidSetting xd_InvalidSetting x0_InvalidSetting x1_InvalidSetting x2_InvalidSetting x3_InvalidSetting x5_InvalidSetting "ValueError.__new__"))
    (sa_InvalidSetting : PySem.W.findIn K (.ref c_InvalidSetting) "__setattr__" = some (some (.builtin "object.__setattr__")))
    (xx_InvalidSetting : PySem.W.subIn K (.ref c_InvalidSetting) (.type "BaseException") = some true)
    (xt_InvalidSetting : PySem.W.typeIn K (.ref c_InvalidSetting) = some (.type "type"))
    (xk_InvalidSetting : PySem.W.keepIn K (.ref c_InvalidSetting) = true)
    (xi_InvalidSetting : PySem.W.findIn K (.ref c_InvalidSetting) "__init__" = some (some (.ref a_InvalidSetting_init_)))
    (xg_InvalidSetting : PySem.W.findIn K (.ref c_InvalidSetting) "__getattribute__" = some (some (.builtin "BaseException.__getattribute__")))
    (xh_InvalidSetting : PySem.W.findIn K (.ref c_InvalidSetting) "__getattr__" = some none)
    (xy_InvalidSetting : PySem.W.hasDictIn K c_InvalidSetting = true)
    (xc_InvalidSetting : PySem.W.findIn K (.ref c_InvalidSetting) "__class__" = some (some (.builtin "object.__class__")))
    (xr_InvalidSetting : PySem.W.mroIn K c_InvalidSetting (.type "object") = some true)
    (nX_InvalidSetting : PySem.W.findIn K (.ref c_InvalidSetting) "setting" = some none)
    (x_get : PySem.W.specialIn K (.builtin "object.__class__") "__get__" = some (some (.builtin "getset_descriptor.__get__")))
    (x_tk : PySem.W.takesIn K (.builtin "object.__class__") = some true)
    (Me_InvalidNumber_InvalidNumber : PySem.W.exmOne K (.ref c_InvalidNumber) (.ref c_InvalidNumber) = some true)
    (Me_InvalidSetting_InvalidSetting : PySem.W.exmOne K (.ref c_InvalidSetting) (.ref c_InvalidSetting) = some true)
    (Kt_InvalidNumber_InvalidNumber : PySem.W.kitOne K (.ref c_InvalidNumber) (.ref c_InvalidNumber) = some true)
    (Kt_InvalidNumber_InvalidSetting : PySem.W.kitOne K (.ref c_InvalidNumber) (.ref c_InvalidSetting) = some false)
    (Kt_InvalidSetting_InvalidNumber : PySem.W.kitOne K (.ref c_InvalidSetting) (.ref c_InvalidNumber) = some false)
    (Kt_InvalidSetting_InvalidSetting : PySem.W.kitOne K (.ref c_InvalidSetting) (.ref c_InvalidSetting) = some true)
    (Kt_InvalidNumber_LossError : PySem.W.kitOne K (.ref c_InvalidNumber) (.ref c_LossError) = some true)
    (Kt_InvalidSetting_LossError : PySem.W.kitOne K (.ref c_InvalidSetting) (.ref c_LossError) = some true)
    (xf_InvalidNumber_init_ : PySem.W.typeIn K (.ref a_InvalidNumber_init_) = some (.type "function"))
    (l_InvalidNumber_init_ : K.lookup a_InvalidNumber_init_ = some ⟨oc_InvalidNumber_init_, od_InvalidNumber_init_, .func (PySem.W.fnOf "__init__" "InvalidNumber.__init__" (defArgs s_InvalidNumber_init_) (defBody s_InvalidNumber_init_) (defScope s_InvalidNumber_init_) .none kV_InvalidNumber_init_ dc_InvalidNumber_init_ pm_InvalidNumber_init_ an_InvalidNumber_init_ cd_InvalidNumber_init_ ct_InvalidNumber_init_), sl_InvalidNumber_init_⟩)
    (e_InvalidNumber_init_ : PySem.W.codeIn K cd_InvalidNumber_init_ "InvalidNumber.__init__" = true)
    (k_InvalidNumber_init_ : PySem.W.keepIn K (.ref a_InvalidNumber_init_) = true)
    (xf_InvalidSetting_init_ : PySem.W.typeIn K (.ref a_InvalidSetting_init_) = some (.type "function"))
    (l_InvalidSetting_init_ : K.lookup a_InvalidSetting_init_ = some ⟨oc_InvalidSetting_init_, od_InvalidSetting_init_, .func (PySem.W.fnOf "__init__" "InvalidSetting.__init__" (defArgs s_InvalidSetting_init_) (defBody s_InvalidSetting_init_) (defScope s_InvalidSetting_init_) .none kV_InvalidSetting_init_ dc_InvalidSetting_init_ pm_InvalidSetting_init_ an_InvalidSetting_init_ cd_InvalidSetting_init_ ct_InvalidSetting_init_), sl_InvalidSetting_init_⟩)
    (e_InvalidSetting_init_ : PySem.W.codeIn K cd_InvalidSetting_init_ "InvalidSetting.__init__" = true)
    (k_InvalidSetting_init_ : PySem.W.keepIn K (.ref a_InvalidSetting_init_) = true)
    (a_is_integer' : PySem.W.nsIn K mainGlobals "is_integer" = some (some (.ref a_is_integer)))
    (l_is_integer : K.lookup a_is_integer = some ⟨oc_is_integer, od_is_integer, .func (PySem.W.fnOf "is_integer" "is_integer" (defArgs s_is_integer) (defBody s_is_integer) (defScope s_is_integer) .none kV_is_integer dc_is_integer pm_is_integer an_is_integer cd_is_integer ct_is_integer), sl_is_integer⟩)
    (e_is_integer : PySem.W.codeIn K cd_is_integer "is_integer" = true)
    (k_is_integer : PySem.W.keepIn K (.ref a_is_integer) = true)
    (a_is_between' : PySem.W.nsIn K mainGlobals "is_between" = some (some (.ref a_is_between)))
    (l_is_between : K.lookup a_is_between = some ⟨oc_is_between, od_is_between, .func (PySem.W.fnOf "is_between" "is_between" (defArgs s_is_between) (defBody s_is_between) (defScope s_is_between) .none kV_is_between dc_is_between pm_is_between an_is_between cd_is_between ct_is_between), sl_is_between⟩)
    (e_is_between : PySem.W.codeIn K cd_is_between "is_between" = true)
    (k_is_between : PySem.W.keepIn K (.ref a_is_between) = true)
    (a_is_at_least' : PySem.W.nsIn K mainGlobals "is_at_least" = some (some (.ref a_is_at_least)))
    (l_is_at_least : K.lookup a_is_at_least = some ⟨oc_is_at_least, od_is_at_least, .func (PySem.W.fnOf "is_at_least" "is_at_least" (defArgs s_is_at_least) (defBody s_is_at_least) (defScope s_is_at_least) .none kV_is_at_least dc_is_at_least pm_is_at_least an_is_at_least cd_is_at_least ct_is_at_least), sl_is_at_least⟩)
    (e_is_at_least : PySem.W.codeIn K cd_is_at_least "is_at_least" = true)
    (k_is_at_least : PySem.W.keepIn K (.ref a_is_at_least) = true)
    (a_is_byte' : PySem.W.nsIn K mainGlobals "is_byte" = some (some (.ref a_is_byte)))
    (l_is_byte : K.lookup a_is_byte = some ⟨oc_is_byte, od_is_byte, .func (PySem.W.fnOf "is_byte" "is_byte" (defArgs s_is_byte) (defBody s_is_byte) (defScope s_is_byte) .none kV_is_byte dc_is_byte pm_is_byte an_is_byte cd_is_byte ct_is_byte), sl_is_byte⟩)
    (e_is_byte : PySem.W.codeIn K cd_is_byte "is_byte" = true)
    (k_is_byte : PySem.W.keepIn K (.ref a_is_byte) = true)
    (a_is_sequence' : PySem.W.nsIn K mainGlobals "is_sequence" = some (some (.ref a_is_sequence)))
    (l_is_sequence : K.lookup a_is_sequence = some ⟨oc_is_sequence, od_is_sequence, .func (PySem.W.fnOf "is_sequence" "is_sequence" (defArgs s_is_sequence) (defBody s_is_sequence) (defScope s_is_sequence) .none kV_is_sequence dc_is_sequence pm_is_sequence an_is_sequence cd_is_sequence ct_is_sequence), sl_is_sequence⟩)
    (e_is_sequence : PySem.W.codeIn K cd_is_sequence "is_sequence" = true)
    (k_is_sequence : PySem.W.keepIn K (.ref a_is_sequence) = true)
    (a_require_data' : PySem.W.nsIn K mainGlobals "require_data" = some (some (.ref a_require_data)))
    (l_require_data : K.lookup a_require_data = some ⟨oc_require_data, od_require_data, .func (PySem.W.fnOf "require_data" "require_data" (defArgs s_require_data) (defBody s_require_data) (defScope s_require_data) .none kV_require_data dc_require_data pm_require_data an_require_data cd_require_data ct_require_data), sl_require_data⟩)
    (e_require_data : PySem.W.codeIn K cd_require_data "require_data" = true)
    (k_require_data : PySem.W.keepIn K (.ref a_require_data) = true)
    (a_require_limit' : PySem.W.nsIn K mainGlobals "require_limit" = some (some (.ref a_require_limit)))
    (l_require_limit : K.lookup a_require_limit = some ⟨oc_require_limit, od_require_limit, .func (PySem.W.fnOf "require_limit" "require_limit" (defArgs s_require_limit) (defBody s_require_limit) (defScope s_require_limit) .none kV_require_limit dc_require_limit pm_require_limit an_require_limit cd_require_limit ct_require_limit), sl_require_limit⟩)
    (e_require_limit : PySem.W.codeIn K cd_require_limit "require_limit" = true)
    (k_require_limit : PySem.W.keepIn K (.ref a_require_limit) = true)
    (a_is_run' : PySem.W.nsIn K mainGlobals "is_run" = some (some (.ref a_is_run)))
    (l_is_run : K.lookup a_is_run = some ⟨oc_is_run, od_is_run, .func (PySem.W.fnOf "is_run" "is_run" (defArgs s_is_run) (defBody s_is_run) (defScope s_is_run) .none kV_is_run dc_is_run pm_is_run an_is_run cd_is_run ct_is_run), sl_is_run⟩)
    (e_is_run : PySem.W.codeIn K cd_is_run "is_run" = true)
    (k_is_run : PySem.W.keepIn K (.ref a_is_run) = true)
    (a_joined' : PySem.W.nsIn K mainGlobals "joined" = some (some (.ref a_joined)))
    (l_joined : K.lookup a_joined = some ⟨oc_joined, od_joined, .func (PySem.W.fnOf "joined" "joined" (defArgs s_joined) (defBody s_joined) (defScope s_joined) .none kV_joined dc_joined pm_joined an_joined cd_joined ct_joined), sl_joined⟩)
    (e_joined : PySem.W.codeIn K cd_joined "joined" = true)
    (k_joined : PySem.W.keepIn K (.ref a_joined) = true)
    (a_missing' : PySem.W.nsIn K mainGlobals "missing" = some (some (.ref a_missing)))
    (l_missing : K.lookup a_missing = some ⟨oc_missing, od_missing, .func (PySem.W.fnOf "missing" "missing" (defArgs s_missing) (defBody s_missing) (defScope s_missing) .none kV_missing dc_missing pm_missing an_missing cd_missing ct_missing), sl_missing⟩)
    (e_missing : PySem.W.codeIn K cd_missing "missing" = true)
    (k_missing : PySem.W.keepIn K (.ref a_missing) = true)
    (a_common' : PySem.W.nsIn K mainGlobals "common" = some (some (.ref a_common)))
    (l_common : K.lookup a_common = some ⟨oc_common, od_common, .func (PySem.W.fnOf "common" "common" (defArgs s_common) (defBody s_common) (defScope s_common) .none kV_common dc_common pm_common an_common cd_common ct_common), sl_common⟩)
    (e_common : PySem.W.codeIn K cd_common "common" = true)
    (k_common : PySem.W.keepIn K (.ref a_common) = true)
    (a_without' : PySem.W.nsIn K mainGlobals "without" = some (some (.ref a_without)))
    (l_without : K.lookup a_without = some ⟨oc_without, od_without, .func (PySem.W.fnOf "without" "without" (defArgs s_without) (defBody s_without) (defScope s_without) .none kV_without dc_without pm_without an_without cd_without ct_without), sl_without⟩)
    (e_without : PySem.W.codeIn K cd_without "without" = true)
    (k_without : PySem.W.keepIn K (.ref a_without) = true)
    (a_Spans_init_' : PySem.W.findIn K (.ref c_Spans) "__init__" = some (some (.ref a_Spans_init_)))
    (i_Spans_init_ : PySem.W.isFn K (.ref a_Spans_init_) = true)
    (l_Spans_init_ : K.lookup a_Spans_init_ = some ⟨oc_Spans_init_, od_Spans_init_, .func (PySem.W.fnOf "__init__" "Spans.__init__" (defArgs s_Spans_init_) (defBody s_Spans_init_) (defScope s_Spans_init_) .none kV_Spans_init_ dc_Spans_init_ pm_Spans_init_ an_Spans_init_ cd_Spans_init_ ct_Spans_init_), sl_Spans_init_⟩)
    (e_Spans_init_ : PySem.W.codeIn K cd_Spans_init_ "Spans.__init__" = true)
    (k_Spans_init_ : PySem.W.keepIn K (.ref a_Spans_init_) = true)
    (a_Spans_rows' : PySem.W.findIn K (.ref c_Spans) "rows" = some (some (.ref a_Spans_rows)))
    (i_Spans_rows : PySem.W.isFn K (.ref a_Spans_rows) = true)
    (l_Spans_rows : K.lookup a_Spans_rows = some ⟨oc_Spans_rows, od_Spans_rows, .func (PySem.W.fnOf "rows" "Spans.rows" (defArgs s_Spans_rows) (defBody s_Spans_rows) (defScope s_Spans_rows) .none kV_Spans_rows dc_Spans_rows pm_Spans_rows an_Spans_rows cd_Spans_rows ct_Spans_rows), sl_Spans_rows⟩)
    (e_Spans_rows : PySem.W.codeIn K cd_Spans_rows "Spans.rows" = true)
    (k_Spans_rows : PySem.W.keepIn K (.ref a_Spans_rows) = true)
    (a_Spans_put' : PySem.W.findIn K (.ref c_Spans) "put" = some (some (.ref a_Spans_put)))
    (i_Spans_put : PySem.W.isFn K (.ref a_Spans_put) = true)
    (l_Spans_put : K.lookup a_Spans_put = some ⟨oc_Spans_put, od_Spans_put, .func (PySem.W.fnOf "put" "Spans.put" (defArgs s_Spans_put) (defBody s_Spans_put) (defScope s_Spans_put) .none kV_Spans_put dc_Spans_put pm_Spans_put an_Spans_put cd_Spans_put ct_Spans_put), sl_Spans_put⟩)
    (e_Spans_put : PySem.W.codeIn K cd_Spans_put "Spans.put" = true)
    (k_Spans_put : PySem.W.keepIn K (.ref a_Spans_put) = true)
    (a_Spans_drop' : PySem.W.findIn K (.ref c_Spans) "drop" = some (some (.ref a_Spans_drop)))
    (i_Spans_drop : PySem.W.isFn K (.ref a_Spans_drop) = true)
    (l_Spans_drop : K.lookup a_Spans_drop = some ⟨oc_Spans_drop, od_Spans_drop, .func (PySem.W.fnOf "drop" "Spans.drop" (defArgs s_Spans_drop) (defBody s_Spans_drop) (defScope s_Spans_drop) .none kV_Spans_drop dc_Spans_drop pm_Spans_drop an_Spans_drop cd_Spans_drop ct_Spans_drop), sl_Spans_drop⟩)
    (e_Spans_drop : PySem.W.codeIn K cd_Spans_drop "Spans.drop" = true)
    (k_Spans_drop : PySem.W.keepIn K (.ref a_Spans_drop) = true)
    (a_Spans_holding' : PySem.W.findIn K (.ref c_Spans) "holding" = some (some (.ref a_Spans_holding)))
    (i_Spans_holding : PySem.W.isFn K (.ref a_Spans_holding) = true)
    (l_Spans_holding : K.lookup a_Spans_holding = some ⟨oc_Spans_holding, od_Spans_holding, .func (PySem.W.fnOf "holding" "Spans.holding" (defArgs s_Spans_holding) (defBody s_Spans_holding) (defScope s_Spans_holding) .none kV_Spans_holding dc_Spans_holding pm_Spans_holding an_Spans_holding cd_Spans_holding ct_Spans_holding), sl_Spans_holding⟩)
    (e_Spans_holding : PySem.W.codeIn K cd_Spans_holding "Spans.holding" = true)
    (k_Spans_holding : PySem.W.keepIn K (.ref a_Spans_holding) = true)
    (a_Spans_gaps' : PySem.W.findIn K (.ref c_Spans) "gaps" = some (some (.ref a_Spans_gaps)))
    (i_Spans_gaps : PySem.W.isFn K (.ref a_Spans_gaps) = true)
    (l_Spans_gaps : K.lookup a_Spans_gaps = some ⟨oc_Spans_gaps, od_Spans_gaps, .func (PySem.W.fnOf "gaps" "Spans.gaps" (defArgs s_Spans_gaps) (defBody s_Spans_gaps) (defScope s_Spans_gaps) .none kV_Spans_gaps dc_Spans_gaps pm_Spans_gaps an_Spans_gaps cd_Spans_gaps ct_Spans_gaps), sl_Spans_gaps⟩)
    (e_Spans_gaps : PySem.W.codeIn K cd_Spans_gaps "Spans.gaps" = true)
    (k_Spans_gaps : PySem.W.keepIn K (.ref a_Spans_gaps) = true)
    (a_Spans_highest' : PySem.W.findIn K (.ref c_Spans) "highest" = some (some (.ref a_Spans_highest)))
    (i_Spans_highest : PySem.W.isFn K (.ref a_Spans_highest) = true)
    (l_Spans_highest : K.lookup a_Spans_highest = some ⟨oc_Spans_highest, od_Spans_highest, .func (PySem.W.fnOf "highest" "Spans.highest" (defArgs s_Spans_highest) (defBody s_Spans_highest) (defScope s_Spans_highest) .none kV_Spans_highest dc_Spans_highest pm_Spans_highest an_Spans_highest cd_Spans_highest ct_Spans_highest), sl_Spans_highest⟩)
    (e_Spans_highest : PySem.W.codeIn K cd_Spans_highest "Spans.highest" = true)
    (k_Spans_highest : PySem.W.keepIn K (.ref a_Spans_highest) = true)
    (a_Inbox_init_' : PySem.W.findIn K (.ref c_Inbox) "__init__" = some (some (.ref a_Inbox_init_)))
    (i_Inbox_init_ : PySem.W.isFn K (.ref a_Inbox_init_) = true)
    (l_Inbox_init_ : K.lookup a_Inbox_init_ = some ⟨oc_Inbox_init_, od_Inbox_init_, .func (PySem.W.fnOf "__init__" "Inbox.__init__" (defArgs s_Inbox_init_) (defBody s_Inbox_init_) (defScope s_Inbox_init_) .none kV_Inbox_init_ dc_Inbox_init_ pm_Inbox_init_ an_Inbox_init_ cd_Inbox_init_ ct_Inbox_init_), sl_Inbox_init_⟩)
    (e_Inbox_init_ : PySem.W.codeIn K cd_Inbox_init_ "Inbox.__init__" = true)
    (k_Inbox_init_ : PySem.W.keepIn K (.ref a_Inbox_init_) = true)
    (a_Inbox_limit' : PySem.W.findIn K (.ref c_Inbox) "limit" = some (some (.ref p_Inbox_limit)))
    (pg_Inbox_limit : PySem.W.specialIn K (.ref p_Inbox_limit) "__get__" = some (some (.builtin "property.__get__")))
    (pt_Inbox_limit : PySem.W.takesIn K (.ref p_Inbox_limit) = some true)
    (rc_Inbox_limit : PySem.W.recIn K p_Inbox_limit "property" = some (.ref a_Inbox_limit :: rs_Inbox_limit))
    (l_Inbox_limit : K.lookup a_Inbox_limit = some ⟨oc_Inbox_limit, od_Inbox_limit, .func (PySem.W.fnOf "limit" "Inbox.limit" (defArgs s_Inbox_limit) (defBody s_Inbox_limit) (defScope s_Inbox_limit) .none kV_Inbox_limit dc_Inbox_limit pm_Inbox_limit an_Inbox_limit cd_Inbox_limit ct_Inbox_limit), sl_Inbox_limit⟩)
    (e_Inbox_limit : PySem.W.codeIn K cd_Inbox_limit "Inbox.limit" = true)
    (k_Inbox_limit : PySem.W.keepIn K (.ref a_Inbox_limit) = true)
    (ty_Inbox_limit_set : PySem.W.typeIn K (.ref p_Inbox_limit) = some (.type "property"))
    (rx_Inbox_limit_set : PySem.W.recIn K p_Inbox_limit "property" = some (gx_Inbox_limit_set :: .ref a_Inbox_limit_set :: rs_Inbox_limit_set))
    (l_Inbox_limit_set : K.lookup a_Inbox_limit_set = some ⟨oc_Inbox_limit_set, od_Inbox_limit_set, .func (PySem.W.fnOf "limit" "Inbox.limit" (defArgs s_Inbox_limit_set) (defBody s_Inbox_limit_set) (defScope s_Inbox_limit_set) .none kV_Inbox_limit_set dc_Inbox_limit_set pm_Inbox_limit_set an_Inbox_limit_set cd_Inbox_limit_set ct_Inbox_limit_set), sl_Inbox_limit_set⟩)
    (e_Inbox_limit_set : PySem.W.codeIn K cd_Inbox_limit_set "Inbox.limit" = true)
    (k_Inbox_limit_set : PySem.W.keepIn K (.ref a_Inbox_limit_set) = true)
    (a_Inbox_edge' : PySem.W.findIn K (.ref c_Inbox) "edge" = some (some (.ref p_Inbox_edge)))
    (pg_Inbox_edge : PySem.W.specialIn K (.ref p_Inbox_edge) "__get__" = some (some (.builtin "property.__get__")))
    (pt_Inbox_edge : PySem.W.takesIn K (.ref p_Inbox_edge) = some true)
    (rc_Inbox_edge : PySem.W.recIn K p_Inbox_edge "property" = some (.ref a_Inbox_edge :: rs_Inbox_edge))
    (l_Inbox_edge : K.lookup a_Inbox_edge = some ⟨oc_Inbox_edge, od_Inbox_edge, .func (PySem.W.fnOf "edge" "Inbox.edge" (defArgs s_Inbox_edge) (defBody s_Inbox_edge) (defScope s_Inbox_edge) .none kV_Inbox_edge dc_Inbox_edge pm_Inbox_edge an_Inbox_edge cd_Inbox_edge ct_Inbox_edge), sl_Inbox_edge⟩)
    (e_Inbox_edge : PySem.W.codeIn K cd_Inbox_edge "Inbox.edge" = true)
    (k_Inbox_edge : PySem.W.keepIn K (.ref a_Inbox_edge) = true)
    (a_Inbox_room' : PySem.W.findIn K (.ref c_Inbox) "room" = some (some (.ref p_Inbox_room)))
    (pg_Inbox_room : PySem.W.specialIn K (.ref p_Inbox_room) "__get__" = some (some (.builtin "property.__get__")))
    (pt_Inbox_room : PySem.W.takesIn K (.ref p_Inbox_room) = some true)
    (rc_Inbox_room : PySem.W.recIn K p_Inbox_room "property" = some (.ref a_Inbox_room :: rs_Inbox_room))
    (l_Inbox_room : K.lookup a_Inbox_room = some ⟨oc_Inbox_room, od_Inbox_room, .func (PySem.W.fnOf "room" "Inbox.room" (defArgs s_Inbox_room) (defBody s_Inbox_room) (defScope s_Inbox_room) .none kV_Inbox_room dc_Inbox_room pm_Inbox_room an_Inbox_room cd_Inbox_room ct_Inbox_room), sl_Inbox_room⟩)
    (e_Inbox_room : PySem.W.codeIn K cd_Inbox_room "Inbox.room" = true)
    (k_Inbox_room : PySem.W.keepIn K (.ref a_Inbox_room) = true)
    (a_Inbox_ready' : PySem.W.findIn K (.ref c_Inbox) "ready" = some (some (.ref p_Inbox_ready)))
    (pg_Inbox_ready : PySem.W.specialIn K (.ref p_Inbox_ready) "__get__" = some (some (.builtin "property.__get__")))
    (pt_Inbox_ready : PySem.W.takesIn K (.ref p_Inbox_ready) = some true)
    (rc_Inbox_ready : PySem.W.recIn K p_Inbox_ready "property" = some (.ref a_Inbox_ready :: rs_Inbox_ready))
    (l_Inbox_ready : K.lookup a_Inbox_ready = some ⟨oc_Inbox_ready, od_Inbox_ready, .func (PySem.W.fnOf "ready" "Inbox.ready" (defArgs s_Inbox_ready) (defBody s_Inbox_ready) (defScope s_Inbox_ready) .none kV_Inbox_ready dc_Inbox_ready pm_Inbox_ready an_Inbox_ready cd_Inbox_ready ct_Inbox_ready), sl_Inbox_ready⟩)
    (e_Inbox_ready : PySem.W.codeIn K cd_Inbox_ready "Inbox.ready" = true)
    (k_Inbox_ready : PySem.W.keepIn K (.ref a_Inbox_ready) = true)
    (a_Inbox_ended' : PySem.W.findIn K (.ref c_Inbox) "ended" = some (some (.ref p_Inbox_ended)))
    (pg_Inbox_ended : PySem.W.specialIn K (.ref p_Inbox_ended) "__get__" = some (some (.builtin "property.__get__")))
    (pt_Inbox_ended : PySem.W.takesIn K (.ref p_Inbox_ended) = some true)
    (rc_Inbox_ended : PySem.W.recIn K p_Inbox_ended "property" = some (.ref a_Inbox_ended :: rs_Inbox_ended))
    (l_Inbox_ended : K.lookup a_Inbox_ended = some ⟨oc_Inbox_ended, od_Inbox_ended, .func (PySem.W.fnOf "ended" "Inbox.ended" (defArgs s_Inbox_ended) (defBody s_Inbox_ended) (defScope s_Inbox_ended) .none kV_Inbox_ended dc_Inbox_ended pm_Inbox_ended an_Inbox_ended cd_Inbox_ended ct_Inbox_ended), sl_Inbox_ended⟩)
    (e_Inbox_ended : PySem.W.codeIn K cd_Inbox_ended "Inbox.ended" = true)
    (k_Inbox_ended : PySem.W.keepIn K (.ref a_Inbox_ended) = true)
    (a_Inbox_expected' : PySem.W.findIn K (.ref c_Inbox) "expected" = some (some (.ref p_Inbox_expected)))
    (pg_Inbox_expected : PySem.W.specialIn K (.ref p_Inbox_expected) "__get__" = some (some (.builtin "property.__get__")))
    (pt_Inbox_expected : PySem.W.takesIn K (.ref p_Inbox_expected) = some true)
    (rc_Inbox_expected : PySem.W.recIn K p_Inbox_expected "property" = some (.ref a_Inbox_expected :: rs_Inbox_expected))
    (l_Inbox_expected : K.lookup a_Inbox_expected = some ⟨oc_Inbox_expected, od_Inbox_expected, .func (PySem.W.fnOf "expected" "Inbox.expected" (defArgs s_Inbox_expected) (defBody s_Inbox_expected) (defScope s_Inbox_expected) .none kV_Inbox_expected dc_Inbox_expected pm_Inbox_expected an_Inbox_expected cd_Inbox_expected ct_Inbox_expected), sl_Inbox_expected⟩)
    (e_Inbox_expected : PySem.W.codeIn K cd_Inbox_expected "Inbox.expected" = true)
    (k_Inbox_expected : PySem.W.keepIn K (.ref a_Inbox_expected) = true)
    (a_Inbox_urgent_count' : PySem.W.findIn K (.ref c_Inbox) "urgent_count" = some (some (.ref p_Inbox_urgent_count)))
    (pg_Inbox_urgent_count : PySem.W.specialIn K (.ref p_Inbox_urgent_count) "__get__" = some (some (.builtin "property.__get__")))
    (pt_Inbox_urgent_count : PySem.W.takesIn K (.ref p_Inbox_urgent_count) = some true)
    (rc_Inbox_urgent_count : PySem.W.recIn K p_Inbox_urgent_count "property" = some (.ref a_Inbox_urgent_count :: rs_Inbox_urgent_count))
    (l_Inbox_urgent_count : K.lookup a_Inbox_urgent_count = some ⟨oc_Inbox_urgent_count, od_Inbox_urgent_count, .func (PySem.W.fnOf "urgent_count" "Inbox.urgent_count" (defArgs s_Inbox_urgent_count) (defBody s_Inbox_urgent_count) (defScope s_Inbox_urgent_count) .none kV_Inbox_urgent_count dc_Inbox_urgent_count pm_Inbox_urgent_count an_Inbox_urgent_count cd_Inbox_urgent_count ct_Inbox_urgent_count), sl_Inbox_urgent_count⟩)
    (e_Inbox_urgent_count : PySem.W.codeIn K cd_Inbox_urgent_count "Inbox.urgent_count" = true)
    (k_Inbox_urgent_count : PySem.W.keepIn K (.ref a_Inbox_urgent_count) = true)
    (a_Inbox_resize' : PySem.W.findIn K (.ref c_Inbox) "resize" = some (some (.ref a_Inbox_resize)))
    (i_Inbox_resize : PySem.W.isFn K (.ref a_Inbox_resize) = true)
    (l_Inbox_resize : K.lookup a_Inbox_resize = some ⟨oc_Inbox_resize, od_Inbox_resize, .func (PySem.W.fnOf "resize" "Inbox.resize" (defArgs s_Inbox_resize) (defBody s_Inbox_resize) (defScope s_Inbox_resize) .none kV_Inbox_resize dc_Inbox_resize pm_Inbox_resize an_Inbox_resize cd_Inbox_resize ct_Inbox_resize), sl_Inbox_resize⟩)
    (e_Inbox_resize : PySem.W.codeIn K cd_Inbox_resize "Inbox.resize" = true)
    (k_Inbox_resize : PySem.W.keepIn K (.ref a_Inbox_resize) = true)
    (a_Inbox_take' : PySem.W.findIn K (.ref c_Inbox) "take" = some (some (.ref a_Inbox_take)))
    (i_Inbox_take : PySem.W.isFn K (.ref a_Inbox_take) = true)
    (l_Inbox_take : K.lookup a_Inbox_take = some ⟨oc_Inbox_take, od_Inbox_take, .func (PySem.W.fnOf "take" "Inbox.take" (defArgs s_Inbox_take) (defBody s_Inbox_take) (defScope s_Inbox_take) .none kV_Inbox_take dc_Inbox_take pm_Inbox_take an_Inbox_take cd_Inbox_take ct_Inbox_take), sl_Inbox_take⟩)
    (e_Inbox_take : PySem.W.codeIn K cd_Inbox_take "Inbox.take" = true)
    (k_Inbox_take : PySem.W.keepIn K (.ref a_Inbox_take) = true)
    (a_Inbox_stop' : PySem.W.findIn K (.ref c_Inbox) "_stop" = some (some (.ref a_Inbox_stop)))
    (i_Inbox_stop : PySem.W.isFn K (.ref a_Inbox_stop) = true)
    (l_Inbox_stop : K.lookup a_Inbox_stop = some ⟨oc_Inbox_stop, od_Inbox_stop, .func (PySem.W.fnOf "_stop" "Inbox._stop" (defArgs s_Inbox_stop) (defBody s_Inbox_stop) (defScope s_Inbox_stop) .none kV_Inbox_stop dc_Inbox_stop pm_Inbox_stop an_Inbox_stop cd_Inbox_stop ct_Inbox_stop), sl_Inbox_stop⟩)
    (e_Inbox_stop : PySem.W.codeIn K cd_Inbox_stop "Inbox._stop" = true)
    (k_Inbox_stop : PySem.W.keepIn K (.ref a_Inbox_stop) = true)
    (a_Inbox_move_on' : PySem.W.findIn K (.ref c_Inbox) "_move_on" = some (some (.ref a_Inbox_move_on)))
    (i_Inbox_move_on : PySem.W.isFn K (.ref a_Inbox_move_on) = true)
    (l_Inbox_move_on : K.lookup a_Inbox_move_on = some ⟨oc_Inbox_move_on, od_Inbox_move_on, .func (PySem.W.fnOf "_move_on" "Inbox._move_on" (defArgs s_Inbox_move_on) (defBody s_Inbox_move_on) (defScope s_Inbox_move_on) .none kV_Inbox_move_on dc_Inbox_move_on pm_Inbox_move_on an_Inbox_move_on cd_Inbox_move_on ct_Inbox_move_on), sl_Inbox_move_on⟩)
    (e_Inbox_move_on : PySem.W.codeIn K cd_Inbox_move_on "Inbox._move_on" = true)
    (k_Inbox_move_on : PySem.W.keepIn K (.ref a_Inbox_move_on) = true)
    (a_Inbox_finish' : PySem.W.findIn K (.ref c_Inbox) "finish" = some (some (.ref a_Inbox_finish)))
    (i_Inbox_finish : PySem.W.isFn K (.ref a_Inbox_finish) = true)
    (l_Inbox_finish : K.lookup a_Inbox_finish = some ⟨oc_Inbox_finish, od_Inbox_finish, .func (PySem.W.fnOf "finish" "Inbox.finish" (defArgs s_Inbox_finish) (defBody s_Inbox_finish) (defScope s_Inbox_finish) .none kV_Inbox_finish dc_Inbox_finish pm_Inbox_finish an_Inbox_finish cd_Inbox_finish ct_Inbox_finish), sl_Inbox_finish⟩)
    (e_Inbox_finish : PySem.W.codeIn K cd_Inbox_finish "Inbox.finish" = true)
    (k_Inbox_finish : PySem.W.keepIn K (.ref a_Inbox_finish) = true)
    (a_Inbox_read' : PySem.W.findIn K (.ref c_Inbox) "read" = some (some (.ref a_Inbox_read)))
    (i_Inbox_read : PySem.W.isFn K (.ref a_Inbox_read) = true)
    (l_Inbox_read : K.lookup a_Inbox_read = some ⟨oc_Inbox_read, od_Inbox_read, .func (PySem.W.fnOf "read" "Inbox.read" (defArgs s_Inbox_read) (defBody s_Inbox_read) (defScope s_Inbox_read) .none kV_Inbox_read dc_Inbox_read pm_Inbox_read an_Inbox_read cd_Inbox_read ct_Inbox_read), sl_Inbox_read⟩)
    (e_Inbox_read : PySem.W.codeIn K cd_Inbox_read "Inbox.read" = true)
    (k_Inbox_read : PySem.W.keepIn K (.ref a_Inbox_read) = true)
    (a_Inbox_told_runs' : PySem.W.findIn K (.ref c_Inbox) "told_runs" = some (some (.ref a_Inbox_told_runs)))
    (i_Inbox_told_runs : PySem.W.isFn K (.ref a_Inbox_told_runs) = true)
    (l_Inbox_told_runs : K.lookup a_Inbox_told_runs = some ⟨oc_Inbox_told_runs, od_Inbox_told_runs, .func (PySem.W.fnOf "told_runs" "Inbox.told_runs" (defArgs s_Inbox_told_runs) (defBody s_Inbox_told_runs) (defScope s_Inbox_told_runs) .none kV_Inbox_told_runs dc_Inbox_told_runs pm_Inbox_told_runs an_Inbox_told_runs cd_Inbox_told_runs ct_Inbox_told_runs), sl_Inbox_told_runs⟩)
    (e_Inbox_told_runs : PySem.W.codeIn K cd_Inbox_told_runs "Inbox.told_runs" = true)
    (k_Inbox_told_runs : PySem.W.keepIn K (.ref a_Inbox_told_runs) = true)
    (a_Inbox_mark_urgent' : PySem.W.findIn K (.ref c_Inbox) "mark_urgent" = some (some (.ref a_Inbox_mark_urgent)))
    (i_Inbox_mark_urgent : PySem.W.isFn K (.ref a_Inbox_mark_urgent) = true)
    (l_Inbox_mark_urgent : K.lookup a_Inbox_mark_urgent = some ⟨oc_Inbox_mark_urgent, od_Inbox_mark_urgent, .func (PySem.W.fnOf "mark_urgent" "Inbox.mark_urgent" (defArgs s_Inbox_mark_urgent) (defBody s_Inbox_mark_urgent) (defScope s_Inbox_mark_urgent) .none kV_Inbox_mark_urgent dc_Inbox_mark_urgent pm_Inbox_mark_urgent an_Inbox_mark_urgent cd_Inbox_mark_urgent ct_Inbox_mark_urgent), sl_Inbox_mark_urgent⟩)
    (e_Inbox_mark_urgent : PySem.W.codeIn K cd_Inbox_mark_urgent "Inbox.mark_urgent" = true)
    (k_Inbox_mark_urgent : PySem.W.keepIn K (.ref a_Inbox_mark_urgent) = true)
    (a__law_box' : PySem.W.nsIn K mainGlobals "_law_box" = some (some (.ref a__law_box)))
    (l__law_box : K.lookup a__law_box = some ⟨oc__law_box, od__law_box, .func (PySem.W.fnOf "_law_box" "_law_box" (defArgs s__law_box) (defBody s__law_box) (defScope s__law_box) .none kV__law_box dc__law_box pm__law_box an__law_box cd__law_box ct__law_box), sl__law_box⟩)
    (e__law_box : PySem.W.codeIn K cd__law_box "_law_box" = true)
    (k__law_box : PySem.W.keepIn K (.ref a__law_box) = true)
    (a__law_draw' : PySem.W.nsIn K mainGlobals "_law_draw" = some (some (.ref a__law_draw)))
    (l__law_draw : K.lookup a__law_draw = some ⟨oc__law_draw, od__law_draw, .func (PySem.W.fnOf "_law_draw" "_law_draw" (defArgs s__law_draw) (defBody s__law_draw) (defScope s__law_draw) .none kV__law_draw dc__law_draw pm__law_draw an__law_draw cd__law_draw ct__law_draw), sl__law_draw⟩)
    (e__law_draw : PySem.W.codeIn K cd__law_draw "_law_draw" = true)
    (k__law_draw : PySem.W.keepIn K (.ref a__law_draw) = true)
    (a__law_is_whole' : PySem.W.nsIn K mainGlobals "_law_is_whole" = some (some (.ref a__law_is_whole)))
    (l__law_is_whole : K.lookup a__law_is_whole = some ⟨oc__law_is_whole, od__law_is_whole, .func (PySem.W.fnOf "_law_is_whole" "_law_is_whole" (defArgs s__law_is_whole) (defBody s__law_is_whole) (defScope s__law_is_whole) .none kV__law_is_whole dc__law_is_whole pm__law_is_whole an__law_is_whole cd__law_is_whole ct__law_is_whole), sl__law_is_whole⟩)
    (e__law_is_whole : PySem.W.codeIn K cd__law_is_whole "_law_is_whole" = true)
    (k__law_is_whole : PySem.W.keepIn K (.ref a__law_is_whole) = true)
    (a__law_limit' : PySem.W.nsIn K mainGlobals "_law_limit" = some (some (.ref a__law_limit)))
    (l__law_limit : K.lookup a__law_limit = some ⟨oc__law_limit, od__law_limit, .func (PySem.W.fnOf "_law_limit" "_law_limit" (defArgs s__law_limit) (defBody s__law_limit) (defScope s__law_limit) .none kV__law_limit dc__law_limit pm__law_limit an__law_limit cd__law_limit ct__law_limit), sl__law_limit⟩)
    (e__law_limit : PySem.W.codeIn K cd__law_limit "_law_limit" = true)
    (k__law_limit : PySem.W.keepIn K (.ref a__law_limit) = true)
    (a__law_bytes' : PySem.W.nsIn K mainGlobals "_law_bytes" = some (some (.ref a__law_bytes)))
    (l__law_bytes : K.lookup a__law_bytes = some ⟨oc__law_bytes, od__law_bytes, .func (PySem.W.fnOf "_law_bytes" "_law_bytes" (defArgs s__law_bytes) (defBody s__law_bytes) (defScope s__law_bytes) .none kV__law_bytes dc__law_bytes pm__law_bytes an__law_bytes cd__law_bytes ct__law_bytes), sl__law_bytes⟩)
    (e__law_bytes : PySem.W.codeIn K cd__law_bytes "_law_bytes" = true)
    (k__law_bytes : PySem.W.keepIn K (.ref a__law_bytes) = true)
    (a__law_pairs_are' : PySem.W.nsIn K mainGlobals "_law_pairs_are" = some (some (.ref a__law_pairs_are)))
    (l__law_pairs_are : K.lookup a__law_pairs_are = some ⟨oc__law_pairs_are, od__law_pairs_are, .func (PySem.W.fnOf "_law_pairs_are" "_law_pairs_are" (defArgs s__law_pairs_are) (defBody s__law_pairs_are) (defScope s__law_pairs_are) .none kV__law_pairs_are dc__law_pairs_are pm__law_pairs_are an__law_pairs_are cd__law_pairs_are ct__law_pairs_are), sl__law_pairs_are⟩)
    (e__law_pairs_are : PySem.W.codeIn K cd__law_pairs_are "_law_pairs_are" = true)
    (k__law_pairs_are : PySem.W.keepIn K (.ref a__law_pairs_are) = true)
    (a__law_tuple_is' : PySem.W.nsIn K mainGlobals "_law_tuple_is" = some (some (.ref a__law_tuple_is)))
    (l__law_tuple_is : K.lookup a__law_tuple_is = some ⟨oc__law_tuple_is, od__law_tuple_is, .func (PySem.W.fnOf "_law_tuple_is" "_law_tuple_is" (defArgs s__law_tuple_is) (defBody s__law_tuple_is) (defScope s__law_tuple_is) .none kV__law_tuple_is dc__law_tuple_is pm__law_tuple_is an__law_tuple_is cd__law_tuple_is ct__law_tuple_is), sl__law_tuple_is⟩)
    (e__law_tuple_is : PySem.W.codeIn K cd__law_tuple_is "_law_tuple_is" = true)
    (k__law_tuple_is : PySem.W.keepIn K (.ref a__law_tuple_is) = true)
    (a__law_new_state' : PySem.W.nsIn K mainGlobals "_law_new_state" = some (some (.ref a__law_new_state)))
    (l__law_new_state : K.lookup a__law_new_state = some ⟨oc__law_new_state, od__law_new_state, .func (PySem.W.fnOf "_law_new_state" "_law_new_state" (defArgs s__law_new_state) (defBody s__law_new_state) (defScope s__law_new_state) .none kV__law_new_state dc__law_new_state pm__law_new_state an__law_new_state cd__law_new_state ct__law_new_state), sl__law_new_state⟩)
    (e__law_new_state : PySem.W.codeIn K cd__law_new_state "_law_new_state" = true)
    (k__law_new_state : PySem.W.keepIn K (.ref a__law_new_state) = true)
    (a__law_edge' : PySem.W.nsIn K mainGlobals "_law_edge" = some (some (.ref a__law_edge)))
    (l__law_edge : K.lookup a__law_edge = some ⟨oc__law_edge, od__law_edge, .func (PySem.W.fnOf "_law_edge" "_law_edge" (defArgs s__law_edge) (defBody s__law_edge) (defScope s__law_edge) .none kV__law_edge dc__law_edge pm__law_edge an__law_edge cd__law_edge ct__law_edge), sl__law_edge⟩)
    (e__law_edge : PySem.W.codeIn K cd__law_edge "_law_edge" = true)
    (k__law_edge : PySem.W.keepIn K (.ref a__law_edge) = true)
    (a__law_stores' : PySem.W.nsIn K mainGlobals "_law_stores" = some (some (.ref a__law_stores)))
    (l__law_stores : K.lookup a__law_stores = some ⟨oc__law_stores, od__law_stores, .func (PySem.W.fnOf "_law_stores" "_law_stores" (defArgs s__law_stores) (defBody s__law_stores) (defScope s__law_stores) .none kV__law_stores dc__law_stores pm__law_stores an__law_stores cd__law_stores ct__law_stores), sl__law_stores⟩)
    (e__law_stores : PySem.W.codeIn K cd__law_stores "_law_stores" = true)
    (k__law_stores : PySem.W.keepIn K (.ref a__law_stores) = true)
    (a__law_runs' : PySem.W.nsIn K mainGlobals "_law_runs" = some (some (.ref a__law_runs)))
    (l__law_runs : K.lookup a__law_runs = some ⟨oc__law_runs, od__law_runs, .func (PySem.W.fnOf "_law_runs" "_law_runs" (defArgs s__law_runs) (defBody s__law_runs) (defScope s__law_runs) .none kV__law_runs dc__law_runs pm__law_runs an__law_runs cd__law_runs ct__law_runs), sl__law_runs⟩)
    (e__law_runs : PySem.W.codeIn K cd__law_runs "_law_runs" = true)
    (k__law_runs : PySem.W.keepIn K (.ref a__law_runs) = true)
    (a__law_told' : PySem.W.nsIn K mainGlobals "_law_told" = some (some (.ref a__law_told)))
    (l__law_told : K.lookup a__law_told = some ⟨oc__law_told, od__law_told, .func (PySem.W.fnOf "_law_told" "_law_told" (defArgs s__law_told) (defBody s__law_told) (defScope s__law_told) .none kV__law_told dc__law_told pm__law_told an__law_told cd__law_told ct__law_told), sl__law_told⟩)
    (e__law_told : PySem.W.codeIn K cd__law_told "_law_told" = true)
    (k__law_told : PySem.W.keepIn K (.ref a__law_told) = true)
    (a__law_offset' : PySem.W.nsIn K mainGlobals "_law_offset" = some (some (.ref a__law_offset)))
    (l__law_offset : K.lookup a__law_offset = some ⟨oc__law_offset, od__law_offset, .func (PySem.W.fnOf "_law_offset" "_law_offset" (defArgs s__law_offset) (defBody s__law_offset) (defScope s__law_offset) .none kV__law_offset dc__law_offset pm__law_offset an__law_offset cd__law_offset ct__law_offset), sl__law_offset⟩)
    (e__law_offset : PySem.W.codeIn K cd__law_offset "_law_offset" = true)
    (k__law_offset : PySem.W.keepIn K (.ref a__law_offset) = true)
    (a__law_takes' : PySem.W.nsIn K mainGlobals "_law_takes" = some (some (.ref a__law_takes)))
    (l__law_takes : K.lookup a__law_takes = some ⟨oc__law_takes, od__law_takes, .func (PySem.W.fnOf "_law_takes" "_law_takes" (defArgs s__law_takes) (defBody s__law_takes) (defScope s__law_takes) .none kV__law_takes dc__law_takes pm__law_takes an__law_takes cd__law_takes ct__law_takes), sl__law_takes⟩)
    (e__law_takes : PySem.W.codeIn K cd__law_takes "_law_takes" = true)
    (k__law_takes : PySem.W.keepIn K (.ref a__law_takes) = true)
    (a__law_reads' : PySem.W.nsIn K mainGlobals "_law_reads" = some (some (.ref a__law_reads)))
    (l__law_reads : K.lookup a__law_reads = some ⟨oc__law_reads, od__law_reads, .func (PySem.W.fnOf "_law_reads" "_law_reads" (defArgs s__law_reads) (defBody s__law_reads) (defScope s__law_reads) .none kV__law_reads dc__law_reads pm__law_reads an__law_reads cd__law_reads ct__law_reads), sl__law_reads⟩)
    (e__law_reads : PySem.W.codeIn K cd__law_reads "_law_reads" = true)
    (k__law_reads : PySem.W.keepIn K (.ref a__law_reads) = true)
    (a__law_state' : PySem.W.nsIn K mainGlobals "_law_state" = some (some (.ref a__law_state)))
    (l__law_state : K.lookup a__law_state = some ⟨oc__law_state, od__law_state, .func (PySem.W.fnOf "_law_state" "_law_state" (defArgs s__law_state) (defBody s__law_state) (defScope s__law_state) .none kV__law_state dc__law_state pm__law_state an__law_state cd__law_state ct__law_state), sl__law_state⟩)
    (e__law_state : PySem.W.codeIn K cd__law_state "_law_state" = true)
    (k__law_state : PySem.W.keepIn K (.ref a__law_state) = true)
    (a__law_most' : PySem.W.nsIn K mainGlobals "_law_most" = some (some (.ref a__law_most)))
    (l__law_most : K.lookup a__law_most = some ⟨oc__law_most, od__law_most, .func (PySem.W.fnOf "_law_most" "_law_most" (defArgs s__law_most) (defBody s__law_most) (defScope s__law_most) .none kV__law_most dc__law_most pm__law_most an__law_most cd__law_most ct__law_most), sl__law_most⟩)
    (e__law_most : PySem.W.codeIn K cd__law_most "_law_most" = true)
    (k__law_most : PySem.W.keepIn K (.ref a__law_most) = true)
    (a__law_finishes' : PySem.W.nsIn K mainGlobals "_law_finishes" = some (some (.ref a__law_finishes)))
    (l__law_finishes : K.lookup a__law_finishes = some ⟨oc__law_finishes, od__law_finishes, .func (PySem.W.fnOf "_law_finishes" "_law_finishes" (defArgs s__law_finishes) (defBody s__law_finishes) (defScope s__law_finishes) .none kV__law_finishes dc__law_finishes pm__law_finishes an__law_finishes cd__law_finishes ct__law_finishes), sl__law_finishes⟩)
    (e__law_finishes : PySem.W.codeIn K cd__law_finishes "_law_finishes" = true)
    (k__law_finishes : PySem.W.keepIn K (.ref a__law_finishes) = true)
    (a__law_finish_refused' : PySem.W.nsIn K mainGlobals "_law_finish_refused" = some (some (.ref a__law_finish_refused)))
    (l__law_finish_refused : K.lookup a__law_finish_refused = some ⟨oc__law_finish_refused, od__law_finish_refused, .func (PySem.W.fnOf "_law_finish_refused" "_law_finish_refused" (defArgs s__law_finish_refused) (defBody s__law_finish_refused) (defScope s__law_finish_refused) .none kV__law_finish_refused dc__law_finish_refused pm__law_finish_refused an__law_finish_refused cd__law_finish_refused ct__law_finish_refused), sl__law_finish_refused⟩)
    (e__law_finish_refused : PySem.W.codeIn K cd__law_finish_refused "_law_finish_refused" = true)
    (k__law_finish_refused : PySem.W.keepIn K (.ref a__law_finish_refused) = true)
    (a__law_read_refused' : PySem.W.nsIn K mainGlobals "_law_read_refused" = some (some (.ref a__law_read_refused)))
    (l__law_read_refused : K.lookup a__law_read_refused = some ⟨oc__law_read_refused, od__law_read_refused, .func (PySem.W.fnOf "_law_read_refused" "_law_read_refused" (defArgs s__law_read_refused) (defBody s__law_read_refused) (defScope s__law_read_refused) .none kV__law_read_refused dc__law_read_refused pm__law_read_refused an__law_read_refused cd__law_read_refused ct__law_read_refused), sl__law_read_refused⟩)
    (e__law_read_refused : PySem.W.codeIn K cd__law_read_refused "_law_read_refused" = true)
    (k__law_read_refused : PySem.W.keepIn K (.ref a__law_read_refused) = true)
    (a__law_limit_refused' : PySem.W.nsIn K mainGlobals "_law_limit_refused" = some (some (.ref a__law_limit_refused)))
    (l__law_limit_refused : K.lookup a__law_limit_refused = some ⟨oc__law_limit_refused, od__law_limit_refused, .func (PySem.W.fnOf "_law_limit_refused" "_law_limit_refused" (defArgs s__law_limit_refused) (defBody s__law_limit_refused) (defScope s__law_limit_refused) .none kV__law_limit_refused dc__law_limit_refused pm__law_limit_refused an__law_limit_refused cd__law_limit_refused ct__law_limit_refused), sl__law_limit_refused⟩)
    (e__law_limit_refused : PySem.W.codeIn K cd__law_limit_refused "_law_limit_refused" = true)
    (k__law_limit_refused : PySem.W.keepIn K (.ref a__law_limit_refused) = true)
    (a__law_marks' : PySem.W.nsIn K mainGlobals "_law_marks" = some (some (.ref a__law_marks)))
    (l__law_marks : K.lookup a__law_marks = some ⟨oc__law_marks, od__law_marks, .func (PySem.W.fnOf "_law_marks" "_law_marks" (defArgs s__law_marks) (defBody s__law_marks) (defScope s__law_marks) .none kV__law_marks dc__law_marks pm__law_marks an__law_marks cd__law_marks ct__law_marks), sl__law_marks⟩)
    (e__law_marks : PySem.W.codeIn K cd__law_marks "_law_marks" = true)
    (k__law_marks : PySem.W.keepIn K (.ref a__law_marks) = true)
    (a__law_deed' : PySem.W.nsIn K mainGlobals "_law_deed" = some (some (.ref a__law_deed)))
    (l__law_deed : K.lookup a__law_deed = some ⟨oc__law_deed, od__law_deed, .func (PySem.W.fnOf "_law_deed" "_law_deed" (defArgs s__law_deed) (defBody s__law_deed) (defScope s__law_deed) .none kV__law_deed dc__law_deed pm__law_deed an__law_deed cd__law_deed ct__law_deed), sl__law_deed⟩)
    (e__law_deed : PySem.W.codeIn K cd__law_deed "_law_deed" = true)
    (k__law_deed : PySem.W.keepIn K (.ref a__law_deed) = true)
    (a__law_narrows' : PySem.W.nsIn K mainGlobals "_law_narrows" = some (some (.ref a__law_narrows)))
    (l__law_narrows : K.lookup a__law_narrows = some ⟨oc__law_narrows, od__law_narrows, .func (PySem.W.fnOf "_law_narrows" "_law_narrows" (defArgs s__law_narrows) (defBody s__law_narrows) (defScope s__law_narrows) .none kV__law_narrows dc__law_narrows pm__law_narrows an__law_narrows cd__law_narrows ct__law_narrows), sl__law_narrows⟩)
    (e__law_narrows : PySem.W.codeIn K cd__law_narrows "_law_narrows" = true)
    (k__law_narrows : PySem.W.keepIn K (.ref a__law_narrows) = true)
    (a__law_fills' : PySem.W.nsIn K mainGlobals "_law_fills" = some (some (.ref a__law_fills)))
    (l__law_fills : K.lookup a__law_fills = some ⟨oc__law_fills, od__law_fills, .func (PySem.W.fnOf "_law_fills" "_law_fills" (defArgs s__law_fills) (defBody s__law_fills) (defScope s__law_fills) .none kV__law_fills dc__law_fills pm__law_fills an__law_fills cd__law_fills ct__law_fills), sl__law_fills⟩)
    (e__law_fills : PySem.W.codeIn K cd__law_fills "_law_fills" = true)
    (k__law_fills : PySem.W.keepIn K (.ref a__law_fills) = true)
    (a_law' : PySem.W.nsIn K mainGlobals "law" = some (some (.ref a_law)))
    (l_law : K.lookup a_law = some ⟨oc_law, od_law, .func (PySem.W.fnOf "law" "law" (defArgs s_law) (defBody s_law) (defScope s_law) .none kV_law dc_law pm_law an_law cd_law ct_law), sl_law⟩)
    (e_law : PySem.W.codeIn K cd_law "law" = true)
    (k_law : PySem.W.keepIn K (.ref a_law) = true)
    (Kv_InvalidNumber : PySem.W.kitOne K (.ref c_InvalidNumber) (.type "ValueError") = some true)
    (Kv_InvalidSetting : PySem.W.kitOne K (.ref c_InvalidSetting) (.type "ValueError") = some true)
    (z_NotImplemented : PySem.W.nsIn K mainGlobals "NotImplemented" = some none)
    (z_ValueError : PySem.W.nsIn K mainGlobals "ValueError" = some none)
    (z_abs : PySem.W.nsIn K mainGlobals "abs" = some none)
    (z_bool : PySem.W.nsIn K mainGlobals "bool" = some none)
    (z_int : PySem.W.nsIn K mainGlobals "int" = some none)
    (z_isinstance : PySem.W.nsIn K mainGlobals "isinstance" = some none)
    (z_len : PySem.W.nsIn K mainGlobals "len" = some none)
    (z_list : PySem.W.nsIn K mainGlobals "list" = some none)
    (z_max : PySem.W.nsIn K mainGlobals "max" = some none)
    (z_min : PySem.W.nsIn K mainGlobals "min" = some none)
    (z_property : PySem.W.nsIn K mainGlobals "property" = some none)
    (z_range : PySem.W.nsIn K mainGlobals "range" = some none)
    (z_repr : PySem.W.nsIn K mainGlobals "repr" = some none)
    (z_reversed : PySem.W.nsIn K mainGlobals "reversed" = some none)
    (z_sorted : PySem.W.nsIn K mainGlobals "sorted" = some none)
    (z_sum : PySem.W.nsIn K mainGlobals "sum" = some none)
    (z_tuple : PySem.W.nsIn K mainGlobals "tuple" = some none)
    (q_MOST_TOLD : PySem.W.nsIn K mainGlobals "MOST_TOLD" = some (some u_MOST_TOLD))
    (xm'_InvalidNumber : PySem.HandSPX.refsVE xm_InvalidNumber = true)
    (xm'_InvalidSetting : PySem.HandSPX.refsVE xm_InvalidSetting = true)
    (w_MOST_TOLD : RelV (.int 3) u_MOST_TOLD)
    : ∃ fd : FuncData, (∀ (s : Shared) (v : Value), BindsTo s fd ⟨[v], []⟩ [("script", v)]) ∧ ∀ base : Heap, K.In base → base.Ns mainGlobals mg → FnStill l.prog w K mg base 12 fa fd ["script"] (sp_law K) := by
  have e : fa = a_law := by
    have e0 := hfa.symm.trans (PySem.W.mg_of X G a_law')
    cases e0
    rfl
  rw [e]
  have F_InvalidNumber_init_ := fun_mk (st := s_InvalidNumber_init_) l_InvalidNumber_init_ e_InvalidNumber_init_ k_InvalidNumber_init_
  have F_InvalidSetting_init_ := fun_mk (st := s_InvalidSetting_init_) l_InvalidSetting_init_ e_InvalidSetting_init_ k_InvalidSetting_init_
  have F_is_integer := fun_mk (st := s_is_integer) l_is_integer e_is_integer k_is_integer
  have F_is_between := fun_mk (st := s_is_between) l_is_between e_is_between k_is_between
  have F_is_at_least := fun_mk (st := s_is_at_least) l_is_at_least e_is_at_least k_is_at_least
  have F_is_byte := fun_mk (st := s_is_byte) l_is_byte e_is_byte k_is_byte
  have F_is_sequence := fun_mk (st := s_is_sequence) l_is_sequence e_is_sequence k_is_sequence
  have F_require_data := fun_mk (st := s_require_data) l_require_data e_require_data k_require_data
  have F_require_limit := fun_mk (st := s_require_limit) l_require_limit e_require_limit k_require_limit
  have F_is_run := fun_mk (st := s_is_run) l_is_run e_is_run k_is_run
  have F_joined := fun_mk (st := s_joined) l_joined e_joined k_joined
  have F_missing := fun_mk (st := s_missing) l_missing e_missing k_missing
  have F_common := fun_mk (st := s_common) l_common e_common k_common
  have F_without := fun_mk (st := s_without) l_without e_without k_without
  have F_Spans_init_ := fun_mk (st := s_Spans_init_) l_Spans_init_ e_Spans_init_ k_Spans_init_
  have F_Spans_rows := fun_mk (st := s_Spans_rows) l_Spans_rows e_Spans_rows k_Spans_rows
  have F_Spans_put := fun_mk (st := s_Spans_put) l_Spans_put e_Spans_put k_Spans_put
  have F_Spans_drop := fun_mk (st := s_Spans_drop) l_Spans_drop e_Spans_drop k_Spans_drop
  have F_Spans_holding := fun_mk (st := s_Spans_holding) l_Spans_holding e_Spans_holding k_Spans_holding
  have F_Spans_gaps := fun_mk (st := s_Spans_gaps) l_Spans_gaps e_Spans_gaps k_Spans_gaps
  have F_Spans_highest := fun_mk (st := s_Spans_highest) l_Spans_highest e_Spans_highest k_Spans_highest
  have F_Inbox_init_ := fun_mk (st := s_Inbox_init_) l_Inbox_init_ e_Inbox_init_ k_Inbox_init_
  have F_Inbox_limit := fun_mk (st := s_Inbox_limit) l_Inbox_limit e_Inbox_limit k_Inbox_limit
  have F_Inbox_limit_set := fun_mk (st := s_Inbox_limit_set) l_Inbox_limit_set e_Inbox_limit_set k_Inbox_limit_set
  have F_Inbox_edge := fun_mk (st := s_Inbox_edge) l_Inbox_edge e_Inbox_edge k_Inbox_edge
  have F_Inbox_room := fun_mk (st := s_Inbox_room) l_Inbox_room e_Inbox_room k_Inbox_room
  have F_Inbox_ready := fun_mk (st := s_Inbox_ready) l_Inbox_ready e_Inbox_ready k_Inbox_ready
  have F_Inbox_ended := fun_mk (st := s_Inbox_ended) l_Inbox_ended e_Inbox_ended k_Inbox_ended
  have F_Inbox_expected := fun_mk (st := s_Inbox_expected) l_Inbox_expected e_Inbox_expected k_Inbox_expected
  have F_Inbox_urgent_count := fun_mk (st := s_Inbox_urgent_count) l_Inbox_urgent_count e_Inbox_urgent_count k_Inbox_urgent_count
  have F_Inbox_resize := fun_mk (st := s_Inbox_resize) l_Inbox_resize e_Inbox_resize k_Inbox_resize
  have F_Inbox_take := fun_mk (st := s_Inbox_take) l_Inbox_take e_Inbox_take k_Inbox_take
  have F_Inbox_stop := fun_mk (st := s_Inbox_stop) l_Inbox_stop e_Inbox_stop k_Inbox_stop
  have F_Inbox_move_on := fun_mk (st := s_Inbox_move_on) l_Inbox_move_on e_Inbox_move_on k_Inbox_move_on
  have F_Inbox_finish := fun_mk (st := s_Inbox_finish) l_Inbox_finish e_Inbox_finish k_Inbox_finish
  have F_Inbox_read := fun_mk (st := s_Inbox_read) l_Inbox_read e_Inbox_read k_Inbox_read
  have F_Inbox_told_runs := fun_mk (st := s_Inbox_told_runs) l_Inbox_told_runs e_Inbox_told_runs k_Inbox_told_runs
  have F_Inbox_mark_urgent := fun_mk (st := s_Inbox_mark_urgent) l_Inbox_mark_urgent e_Inbox_mark_urgent k_Inbox_mark_urgent
  have F__law_box := fun_mk (st := s__law_box) l__law_box e__law_box k__law_box
  have F__law_draw := fun_mk (st := s__law_draw) l__law_draw e__law_draw k__law_draw
  have F__law_is_whole := fun_mk (st := s__law_is_whole) l__law_is_whole e__law_is_whole k__law_is_whole
  have F__law_limit := fun_mk (st := s__law_limit) l__law_limit e__law_limit k__law_limit
  have F__law_bytes := fun_mk (st := s__law_bytes) l__law_bytes e__law_bytes k__law_bytes
  have F__law_pairs_are := fun_mk (st := s__law_pairs_are) l__law_pairs_are e__law_pairs_are k__law_pairs_are
  have F__law_tuple_is := fun_mk (st := s__law_tuple_is) l__law_tuple_is e__law_tuple_is k__law_tuple_is
  have F__law_new_state := fun_mk (st := s__law_new_state) l__law_new_state e__law_new_state k__law_new_state
  have F__law_edge := fun_mk (st := s__law_edge) l__law_edge e__law_edge k__law_edge
  have F__law_stores := fun_mk (st := s__law_stores) l__law_stores e__law_stores k__law_stores
  have F__law_runs := fun_mk (st := s__law_runs) l__law_runs e__law_runs k__law_runs
  have F__law_told := fun_mk (st := s__law_told) l__law_told e__law_told k__law_told
  have F__law_offset := fun_mk (st := s__law_offset) l__law_offset e__law_offset k__law_offset
  have F__law_takes := fun_mk (st := s__law_takes) l__law_takes e__law_takes k__law_takes
  have F__law_reads := fun_mk (st := s__law_reads) l__law_reads e__law_reads k__law_reads
  have F__law_state := fun_mk (st := s__law_state) l__law_state e__law_state k__law_state
  have F__law_most := fun_mk (st := s__law_most) l__law_most e__law_most k__law_most
  have F__law_finishes := fun_mk (st := s__law_finishes) l__law_finishes e__law_finishes k__law_finishes
  have F__law_finish_refused := fun_mk (st := s__law_finish_refused) l__law_finish_refused e__law_finish_refused k__law_finish_refused
  have F__law_read_refused := fun_mk (st := s__law_read_refused) l__law_read_refused e__law_read_refused k__law_read_refused
  have F__law_limit_refused := fun_mk (st := s__law_limit_refused) l__law_limit_refused e__law_limit_refused k__law_limit_refused
  have F__law_marks := fun_mk (st := s__law_marks) l__law_marks e__law_marks k__law_marks
  have F__law_deed := fun_mk (st := s__law_deed) l__law_deed e__law_deed k__law_deed
  have F__law_narrows := fun_mk (st := s__law_narrows) l__law_narrows e__law_narrows k__law_narrows
  have F__law_fills := fun_mk (st := s__law_fills) l__law_fills e__law_fills k__law_fills
  have F_law := fun_mk (st := s_law) l_law e_law k_law
  let T : Txt K mg := {
    c_Spans := c_Spans,
    g_Spans := PySem.W.mg_of X G aC_Spans,
    cl_Spans := ⟨pg_Spans, hd_Spans, po_Spans, sa_Spans⟩,
    n_Spans__runs := n_Spans__runs,
    c_Inbox := c_Inbox,
    g_Inbox := PySem.W.mg_of X G aC_Inbox,
    cl_Inbox := ⟨pg_Inbox, hd_Inbox, po_Inbox, sa_Inbox⟩,
    n_Inbox__limit := n_Inbox__limit,
    n_Inbox_next_offset := n_Inbox_next_offset,
    n_Inbox_read_offset := n_Inbox_read_offset,
    n_Inbox_final := n_Inbox_final,
    n_Inbox_urgent_end := n_Inbox_urgent_end,
    n_Inbox__stored := n_Inbox__stored,
    n_Inbox__ahead := n_Inbox__ahead,
    n_Inbox__latest := n_Inbox__latest,
    c_LossError := c_LossError,
    X_LossError := ⟨PySem.W.mg_of X G aC_LossError⟩,
    c_InvalidNumber := c_InvalidNumber,
    X_InvalidNumber := xcls_mk (PySem.W.mg_of X G aC_InvalidNumber) xl_InvalidNumber xm'_InvalidNumber sa_InvalidNumber xx_InvalidNumber xt_InvalidNumber xk_InvalidNumber xi_InvalidNumber xf_InvalidNumber_init_ xg_InvalidNumber xh_InvalidNumber xy_InvalidNumber xc_InvalidNumber x_get x_tk xr_InvalidNumber,
    nX_InvalidNumber := nX_InvalidNumber,
    c_InvalidSetting := c_InvalidSetting,
    X_InvalidSetting := xcls_mk (PySem.W.mg_of X G aC_InvalidSetting) xl_InvalidSetting xm'_InvalidSetting sa_InvalidSetting xx_InvalidSetting xt_InvalidSetting xk_InvalidSetting xi_InvalidSetting xf_InvalidSetting_init_ xg_InvalidSetting xh_InvalidSetting xy_InvalidSetting xc_InvalidSetting x_get x_tk xr_InvalidSetting,
    nX_InvalidSetting := nX_InvalidSetting,
    Me_InvalidNumber_InvalidNumber := Me_InvalidNumber_InvalidNumber,
    Me_InvalidSetting_InvalidSetting := Me_InvalidSetting_InvalidSetting,
    Kt_InvalidNumber_InvalidNumber := Kt_InvalidNumber_InvalidNumber,
    Kt_InvalidNumber_InvalidSetting := Kt_InvalidNumber_InvalidSetting,
    Kt_InvalidSetting_InvalidNumber := Kt_InvalidSetting_InvalidNumber,
    Kt_InvalidSetting_InvalidSetting := Kt_InvalidSetting_InvalidSetting,
    Kt_InvalidNumber_LossError := Kt_InvalidNumber_LossError,
    Kt_InvalidSetting_LossError := Kt_InvalidSetting_LossError,
    a_InvalidNumber_init_ := a_InvalidNumber_init_,
    fd_InvalidNumber_init_ := PySem.W.fnOf "__init__" "InvalidNumber.__init__" (defArgs s_InvalidNumber_init_) (defBody s_InvalidNumber_init_) (defScope s_InvalidNumber_init_) .none kV_InvalidNumber_init_ dc_InvalidNumber_init_ pm_InvalidNumber_init_ an_InvalidNumber_init_ cd_InvalidNumber_init_ ct_InvalidNumber_init_,
    F_InvalidNumber_init_ := F_InvalidNumber_init_,
    B_InvalidNumber_init_ := F_InvalidNumber_init_.binds (ps := ["self", "number"]) fun _ _ _ _ _ _ us hl => match us, hl with | [_, _], _ => rfl,
    a_InvalidSetting_init_ := a_InvalidSetting_init_,
    fd_InvalidSetting_init_ := PySem.W.fnOf "__init__" "InvalidSetting.__init__" (defArgs s_InvalidSetting_init_) (defBody s_InvalidSetting_init_) (defScope s_InvalidSetting_init_) .none kV_InvalidSetting_init_ dc_InvalidSetting_init_ pm_InvalidSetting_init_ an_InvalidSetting_init_ cd_InvalidSetting_init_ ct_InvalidSetting_init_,
    F_InvalidSetting_init_ := F_InvalidSetting_init_,
    B_InvalidSetting_init_ := F_InvalidSetting_init_.binds (ps := ["self", "setting"]) fun _ _ _ _ _ _ us hl => match us, hl with | [_, _], _ => rfl,
    a_is_integer := a_is_integer,
    fd_is_integer := PySem.W.fnOf "is_integer" "is_integer" (defArgs s_is_integer) (defBody s_is_integer) (defScope s_is_integer) .none kV_is_integer dc_is_integer pm_is_integer an_is_integer cd_is_integer ct_is_integer,
    F_is_integer := F_is_integer,
    B_is_integer := F_is_integer.binds (ps := ["value"]) fun _ _ _ _ _ _ us hl => match us, hl with | [_], _ => rfl,
    g_is_integer := PySem.W.mg_of X G a_is_integer',
    a_is_between := a_is_between,
    fd_is_between := PySem.W.fnOf "is_between" "is_between" (defArgs s_is_between) (defBody s_is_between) (defScope s_is_between) .none kV_is_between dc_is_between pm_is_between an_is_between cd_is_between ct_is_between,
    F_is_between := F_is_between,
    B_is_between := F_is_between.binds (ps := ["value", "low", "high"]) fun _ _ _ _ _ _ us hl => match us, hl with | [_, _, _], _ => rfl,
    g_is_between := PySem.W.mg_of X G a_is_between',
    a_is_at_least := a_is_at_least,
    fd_is_at_least := PySem.W.fnOf "is_at_least" "is_at_least" (defArgs s_is_at_least) (defBody s_is_at_least) (defScope s_is_at_least) .none kV_is_at_least dc_is_at_least pm_is_at_least an_is_at_least cd_is_at_least ct_is_at_least,
    F_is_at_least := F_is_at_least,
    B_is_at_least := F_is_at_least.binds (ps := ["value", "low"]) fun _ _ _ _ _ _ us hl => match us, hl with | [_, _], _ => rfl,
    g_is_at_least := PySem.W.mg_of X G a_is_at_least',
    a_is_byte := a_is_byte,
    fd_is_byte := PySem.W.fnOf "is_byte" "is_byte" (defArgs s_is_byte) (defBody s_is_byte) (defScope s_is_byte) .none kV_is_byte dc_is_byte pm_is_byte an_is_byte cd_is_byte ct_is_byte,
    F_is_byte := F_is_byte,
    B_is_byte := F_is_byte.binds (ps := ["value"]) fun _ _ _ _ _ _ us hl => match us, hl with | [_], _ => rfl,
    g_is_byte := PySem.W.mg_of X G a_is_byte',
    a_is_sequence := a_is_sequence,
    fd_is_sequence := PySem.W.fnOf "is_sequence" "is_sequence" (defArgs s_is_sequence) (defBody s_is_sequence) (defScope s_is_sequence) .none kV_is_sequence dc_is_sequence pm_is_sequence an_is_sequence cd_is_sequence ct_is_sequence,
    F_is_sequence := F_is_sequence,
    B_is_sequence := F_is_sequence.binds (ps := ["value"]) fun _ _ _ _ _ _ us hl => match us, hl with | [_], _ => rfl,
    g_is_sequence := PySem.W.mg_of X G a_is_sequence',
    a_require_data := a_require_data,
    fd_require_data := PySem.W.fnOf "require_data" "require_data" (defArgs s_require_data) (defBody s_require_data) (defScope s_require_data) .none kV_require_data dc_require_data pm_require_data an_require_data cd_require_data ct_require_data,
    F_require_data := F_require_data,
    B_require_data := F_require_data.binds (ps := ["data"]) fun _ _ _ _ _ _ us hl => match us, hl with | [_], _ => rfl,
    g_require_data := PySem.W.mg_of X G a_require_data',
    a_require_limit := a_require_limit,
    fd_require_limit := PySem.W.fnOf "require_limit" "require_limit" (defArgs s_require_limit) (defBody s_require_limit) (defScope s_require_limit) .none kV_require_limit dc_require_limit pm_require_limit an_require_limit cd_require_limit ct_require_limit,
    F_require_limit := F_require_limit,
    B_require_limit := F_require_limit.binds (ps := ["limit"]) fun _ _ _ _ _ _ us hl => match us, hl with | [_], _ => rfl,
    g_require_limit := PySem.W.mg_of X G a_require_limit',
    a_is_run := a_is_run,
    fd_is_run := PySem.W.fnOf "is_run" "is_run" (defArgs s_is_run) (defBody s_is_run) (defScope s_is_run) .none kV_is_run dc_is_run pm_is_run an_is_run cd_is_run ct_is_run,
    F_is_run := F_is_run,
    B_is_run := F_is_run.binds (ps := ["pair"]) fun _ _ _ _ _ _ us hl => match us, hl with | [_], _ => rfl,
    g_is_run := PySem.W.mg_of X G a_is_run',
    a_joined := a_joined,
    fd_joined := PySem.W.fnOf "joined" "joined" (defArgs s_joined) (defBody s_joined) (defScope s_joined) .none kV_joined dc_joined pm_joined an_joined cd_joined ct_joined,
    F_joined := F_joined,
    B_joined := F_joined.binds (ps := ["pairs"]) fun _ _ _ _ _ _ us hl => match us, hl with | [_], _ => rfl,
    g_joined := PySem.W.mg_of X G a_joined',
    a_missing := a_missing,
    fd_missing := PySem.W.fnOf "missing" "missing" (defArgs s_missing) (defBody s_missing) (defScope s_missing) .none kV_missing dc_missing pm_missing an_missing cd_missing ct_missing,
    F_missing := F_missing,
    B_missing := F_missing.binds (ps := ["runs", "low", "high"]) fun _ _ _ _ _ _ us hl => match us, hl with | [_, _, _], _ => rfl,
    g_missing := PySem.W.mg_of X G a_missing',
    a_common := a_common,
    fd_common := PySem.W.fnOf "common" "common" (defArgs s_common) (defBody s_common) (defScope s_common) .none kV_common dc_common pm_common an_common cd_common ct_common,
    F_common := F_common,
    B_common := F_common.binds (ps := ["first", "second"]) fun _ _ _ _ _ _ us hl => match us, hl with | [_, _], _ => rfl,
    g_common := PySem.W.mg_of X G a_common',
    a_without := a_without,
    fd_without := PySem.W.fnOf "without" "without" (defArgs s_without) (defBody s_without) (defScope s_without) .none kV_without dc_without pm_without an_without cd_without ct_without,
    F_without := F_without,
    B_without := F_without.binds (ps := ["first", "second"]) fun _ _ _ _ _ _ us hl => match us, hl with | [_, _], _ => rfl,
    g_without := PySem.W.mg_of X G a_without',
    a_Spans_init_ := a_Spans_init_,
    fd_Spans_init_ := PySem.W.fnOf "__init__" "Spans.__init__" (defArgs s_Spans_init_) (defBody s_Spans_init_) (defScope s_Spans_init_) .none kV_Spans_init_ dc_Spans_init_ pm_Spans_init_ an_Spans_init_ cd_Spans_init_ ct_Spans_init_,
    F_Spans_init_ := F_Spans_init_,
    BS_Spans_init_ := ⟨fun us rest hl => match us, rest, hl with | [_], [], _ => rfl | [_], _ :: _, _ => rfl⟩,
    M_Spans := ⟨mk_Spans, a_Spans_init_', i_Spans_init_, kc_Spans⟩,
    a_Spans_rows := a_Spans_rows,
    fd_Spans_rows := PySem.W.fnOf "rows" "Spans.rows" (defArgs s_Spans_rows) (defBody s_Spans_rows) (defScope s_Spans_rows) .none kV_Spans_rows dc_Spans_rows pm_Spans_rows an_Spans_rows cd_Spans_rows ct_Spans_rows,
    F_Spans_rows := F_Spans_rows,
    B_Spans_rows := F_Spans_rows.binds (ps := ["self"]) fun _ _ _ _ _ _ us hl => match us, hl with | [_], _ => rfl,
    m_Spans_rows := ⟨a_Spans_rows', i_Spans_rows, k_Spans_rows⟩,
    a_Spans_put := a_Spans_put,
    fd_Spans_put := PySem.W.fnOf "put" "Spans.put" (defArgs s_Spans_put) (defBody s_Spans_put) (defScope s_Spans_put) .none kV_Spans_put dc_Spans_put pm_Spans_put an_Spans_put cd_Spans_put ct_Spans_put,
    F_Spans_put := F_Spans_put,
    B_Spans_put := F_Spans_put.binds (ps := ["self", "low", "high"]) fun _ _ _ _ _ _ us hl => match us, hl with | [_, _, _], _ => rfl,
    m_Spans_put := ⟨a_Spans_put', i_Spans_put, k_Spans_put⟩,
    a_Spans_drop := a_Spans_drop,
    fd_Spans_drop := PySem.W.fnOf "drop" "Spans.drop" (defArgs s_Spans_drop) (defBody s_Spans_drop) (defScope s_Spans_drop) .none kV_Spans_drop dc_Spans_drop pm_Spans_drop an_Spans_drop cd_Spans_drop ct_Spans_drop,
    F_Spans_drop := F_Spans_drop,
    B_Spans_drop := F_Spans_drop.binds (ps := ["self", "low", "high"]) fun _ _ _ _ _ _ us hl => match us, hl with | [_, _, _], _ => rfl,
    m_Spans_drop := ⟨a_Spans_drop', i_Spans_drop, k_Spans_drop⟩,
    a_Spans_holding := a_Spans_holding,
    fd_Spans_holding := PySem.W.fnOf "holding" "Spans.holding" (defArgs s_Spans_holding) (defBody s_Spans_holding) (defScope s_Spans_holding) .none kV_Spans_holding dc_Spans_holding pm_Spans_holding an_Spans_holding cd_Spans_holding ct_Spans_holding,
    F_Spans_holding := F_Spans_holding,
    B_Spans_holding := F_Spans_holding.binds (ps := ["self", "offset"]) fun _ _ _ _ _ _ us hl => match us, hl with | [_, _], _ => rfl,
    m_Spans_holding := ⟨a_Spans_holding', i_Spans_holding, k_Spans_holding⟩,
    a_Spans_gaps := a_Spans_gaps,
    fd_Spans_gaps := PySem.W.fnOf "gaps" "Spans.gaps" (defArgs s_Spans_gaps) (defBody s_Spans_gaps) (defScope s_Spans_gaps) .none kV_Spans_gaps dc_Spans_gaps pm_Spans_gaps an_Spans_gaps cd_Spans_gaps ct_Spans_gaps,
    F_Spans_gaps := F_Spans_gaps,
    B_Spans_gaps := F_Spans_gaps.binds (ps := ["self", "low", "high"]) fun _ _ _ _ _ _ us hl => match us, hl with | [_, _, _], _ => rfl,
    m_Spans_gaps := ⟨a_Spans_gaps', i_Spans_gaps, k_Spans_gaps⟩,
    a_Spans_highest := a_Spans_highest,
    fd_Spans_highest := PySem.W.fnOf "highest" "Spans.highest" (defArgs s_Spans_highest) (defBody s_Spans_highest) (defScope s_Spans_highest) .none kV_Spans_highest dc_Spans_highest pm_Spans_highest an_Spans_highest cd_Spans_highest ct_Spans_highest,
    F_Spans_highest := F_Spans_highest,
    B_Spans_highest := F_Spans_highest.binds (ps := ["self", "count"]) fun _ _ _ _ _ _ us hl => match us, hl with | [_, _], _ => rfl,
    m_Spans_highest := ⟨a_Spans_highest', i_Spans_highest, k_Spans_highest⟩,
    a_Inbox_init_ := a_Inbox_init_,
    fd_Inbox_init_ := PySem.W.fnOf "__init__" "Inbox.__init__" (defArgs s_Inbox_init_) (defBody s_Inbox_init_) (defScope s_Inbox_init_) .none kV_Inbox_init_ dc_Inbox_init_ pm_Inbox_init_ an_Inbox_init_ cd_Inbox_init_ ct_Inbox_init_,
    F_Inbox_init_ := F_Inbox_init_,
    B_Inbox_init_ := F_Inbox_init_.binds (ps := ["self", "limit"]) fun _ _ _ _ _ _ us hl => match us, hl with | [_, _], _ => rfl,
    M_Inbox := ⟨mk_Inbox, a_Inbox_init_', i_Inbox_init_, kc_Inbox⟩,
    a_Inbox_limit := a_Inbox_limit,
    fd_Inbox_limit := PySem.W.fnOf "limit" "Inbox.limit" (defArgs s_Inbox_limit) (defBody s_Inbox_limit) (defScope s_Inbox_limit) .none kV_Inbox_limit dc_Inbox_limit pm_Inbox_limit an_Inbox_limit cd_Inbox_limit ct_Inbox_limit,
    F_Inbox_limit := F_Inbox_limit,
    B_Inbox_limit := F_Inbox_limit.binds (ps := ["self"]) fun _ _ _ _ _ _ us hl => match us, hl with | [_], _ => rfl,
    p_Inbox_limit := p_Inbox_limit,
    PR_Inbox_limit := ⟨a_Inbox_limit', pg_Inbox_limit, pt_Inbox_limit, ⟨_, rc_Inbox_limit⟩⟩,
    a_Inbox_limit_set := a_Inbox_limit_set,
    fd_Inbox_limit_set := PySem.W.fnOf "limit" "Inbox.limit" (defArgs s_Inbox_limit_set) (defBody s_Inbox_limit_set) (defScope s_Inbox_limit_set) .none kV_Inbox_limit_set dc_Inbox_limit_set pm_Inbox_limit_set an_Inbox_limit_set cd_Inbox_limit_set ct_Inbox_limit_set,
    F_Inbox_limit_set := F_Inbox_limit_set,
    B_Inbox_limit_set := F_Inbox_limit_set.binds (ps := ["self", "value"]) fun _ _ _ _ _ _ us hl => match us, hl with | [_, _], _ => rfl,
    SE_Inbox_limit_set := ⟨a_Inbox_limit', pt_Inbox_limit, ty_Inbox_limit_set, ⟨_, _, rx_Inbox_limit_set⟩⟩,
    a_Inbox_edge := a_Inbox_edge,
    fd_Inbox_edge := PySem.W.fnOf "edge" "Inbox.edge" (defArgs s_Inbox_edge) (defBody s_Inbox_edge) (defScope s_Inbox_edge) .none kV_Inbox_edge dc_Inbox_edge pm_Inbox_edge an_Inbox_edge cd_Inbox_edge ct_Inbox_edge,
    F_Inbox_edge := F_Inbox_edge,
    B_Inbox_edge := F_Inbox_edge.binds (ps := ["self"]) fun _ _ _ _ _ _ us hl => match us, hl with | [_], _ => rfl,
    p_Inbox_edge := p_Inbox_edge,
    PR_Inbox_edge := ⟨a_Inbox_edge', pg_Inbox_edge, pt_Inbox_edge, ⟨_, rc_Inbox_edge⟩⟩,
    a_Inbox_room := a_Inbox_room,
    fd_Inbox_room := PySem.W.fnOf "room" "Inbox.room" (defArgs s_Inbox_room) (defBody s_Inbox_room) (defScope s_Inbox_room) .none kV_Inbox_room dc_Inbox_room pm_Inbox_room an_Inbox_room cd_Inbox_room ct_Inbox_room,
    F_Inbox_room := F_Inbox_room,
    B_Inbox_room := F_Inbox_room.binds (ps := ["self"]) fun _ _ _ _ _ _ us hl => match us, hl with | [_], _ => rfl,
    p_Inbox_room := p_Inbox_room,
    PR_Inbox_room := ⟨a_Inbox_room', pg_Inbox_room, pt_Inbox_room, ⟨_, rc_Inbox_room⟩⟩,
    a_Inbox_ready := a_Inbox_ready,
    fd_Inbox_ready := PySem.W.fnOf "ready" "Inbox.ready" (defArgs s_Inbox_ready) (defBody s_Inbox_ready) (defScope s_Inbox_ready) .none kV_Inbox_ready dc_Inbox_ready pm_Inbox_ready an_Inbox_ready cd_Inbox_ready ct_Inbox_ready,
    F_Inbox_ready := F_Inbox_ready,
    B_Inbox_ready := F_Inbox_ready.binds (ps := ["self"]) fun _ _ _ _ _ _ us hl => match us, hl with | [_], _ => rfl,
    p_Inbox_ready := p_Inbox_ready,
    PR_Inbox_ready := ⟨a_Inbox_ready', pg_Inbox_ready, pt_Inbox_ready, ⟨_, rc_Inbox_ready⟩⟩,
    a_Inbox_ended := a_Inbox_ended,
    fd_Inbox_ended := PySem.W.fnOf "ended" "Inbox.ended" (defArgs s_Inbox_ended) (defBody s_Inbox_ended) (defScope s_Inbox_ended) .none kV_Inbox_ended dc_Inbox_ended pm_Inbox_ended an_Inbox_ended cd_Inbox_ended ct_Inbox_ended,
    F_Inbox_ended := F_Inbox_ended,
    B_Inbox_ended := F_Inbox_ended.binds (ps := ["self"]) fun _ _ _ _ _ _ us hl => match us, hl with | [_], _ => rfl,
    p_Inbox_ended := p_Inbox_ended,
    PR_Inbox_ended := ⟨a_Inbox_ended', pg_Inbox_ended, pt_Inbox_ended, ⟨_, rc_Inbox_ended⟩⟩,
    a_Inbox_expected := a_Inbox_expected,
    fd_Inbox_expected := PySem.W.fnOf "expected" "Inbox.expected" (defArgs s_Inbox_expected) (defBody s_Inbox_expected) (defScope s_Inbox_expected) .none kV_Inbox_expected dc_Inbox_expected pm_Inbox_expected an_Inbox_expected cd_Inbox_expected ct_Inbox_expected,
    F_Inbox_expected := F_Inbox_expected,
    B_Inbox_expected := F_Inbox_expected.binds (ps := ["self"]) fun _ _ _ _ _ _ us hl => match us, hl with | [_], _ => rfl,
    p_Inbox_expected := p_Inbox_expected,
    PR_Inbox_expected := ⟨a_Inbox_expected', pg_Inbox_expected, pt_Inbox_expected, ⟨_, rc_Inbox_expected⟩⟩,
    a_Inbox_urgent_count := a_Inbox_urgent_count,
    fd_Inbox_urgent_count := PySem.W.fnOf "urgent_count" "Inbox.urgent_count" (defArgs s_Inbox_urgent_count) (defBody s_Inbox_urgent_count) (defScope s_Inbox_urgent_count) .none kV_Inbox_urgent_count dc_Inbox_urgent_count pm_Inbox_urgent_count an_Inbox_urgent_count cd_Inbox_urgent_count ct_Inbox_urgent_count,
    F_Inbox_urgent_count := F_Inbox_urgent_count,
    B_Inbox_urgent_count := F_Inbox_urgent_count.binds (ps := ["self"]) fun _ _ _ _ _ _ us hl => match us, hl with | [_], _ => rfl,
    p_Inbox_urgent_count := p_Inbox_urgent_count,
    PR_Inbox_urgent_count := ⟨a_Inbox_urgent_count', pg_Inbox_urgent_count, pt_Inbox_urgent_count, ⟨_, rc_Inbox_urgent_count⟩⟩,
    a_Inbox_resize := a_Inbox_resize,
    fd_Inbox_resize := PySem.W.fnOf "resize" "Inbox.resize" (defArgs s_Inbox_resize) (defBody s_Inbox_resize) (defScope s_Inbox_resize) .none kV_Inbox_resize dc_Inbox_resize pm_Inbox_resize an_Inbox_resize cd_Inbox_resize ct_Inbox_resize,
    F_Inbox_resize := F_Inbox_resize,
    B_Inbox_resize := F_Inbox_resize.binds (ps := ["self", "limit"]) fun _ _ _ _ _ _ us hl => match us, hl with | [_, _], _ => rfl,
    m_Inbox_resize := ⟨a_Inbox_resize', i_Inbox_resize, k_Inbox_resize⟩,
    a_Inbox_take := a_Inbox_take,
    fd_Inbox_take := PySem.W.fnOf "take" "Inbox.take" (defArgs s_Inbox_take) (defBody s_Inbox_take) (defScope s_Inbox_take) .none kV_Inbox_take dc_Inbox_take pm_Inbox_take an_Inbox_take cd_Inbox_take ct_Inbox_take,
    F_Inbox_take := F_Inbox_take,
    B_Inbox_take := F_Inbox_take.binds (ps := ["self", "offset", "data"]) fun _ _ _ _ _ _ us hl => match us, hl with | [_, _, _], _ => rfl,
    m_Inbox_take := ⟨a_Inbox_take', i_Inbox_take, k_Inbox_take⟩,
    a_Inbox_stop := a_Inbox_stop,
    fd_Inbox_stop := PySem.W.fnOf "_stop" "Inbox._stop" (defArgs s_Inbox_stop) (defBody s_Inbox_stop) (defScope s_Inbox_stop) .none kV_Inbox_stop dc_Inbox_stop pm_Inbox_stop an_Inbox_stop cd_Inbox_stop ct_Inbox_stop,
    F_Inbox_stop := F_Inbox_stop,
    B_Inbox_stop := F_Inbox_stop.binds (ps := ["self"]) fun _ _ _ _ _ _ us hl => match us, hl with | [_], _ => rfl,
    m_Inbox_stop := ⟨a_Inbox_stop', i_Inbox_stop, k_Inbox_stop⟩,
    a_Inbox_move_on := a_Inbox_move_on,
    fd_Inbox_move_on := PySem.W.fnOf "_move_on" "Inbox._move_on" (defArgs s_Inbox_move_on) (defBody s_Inbox_move_on) (defScope s_Inbox_move_on) .none kV_Inbox_move_on dc_Inbox_move_on pm_Inbox_move_on an_Inbox_move_on cd_Inbox_move_on ct_Inbox_move_on,
    F_Inbox_move_on := F_Inbox_move_on,
    B_Inbox_move_on := F_Inbox_move_on.binds (ps := ["self"]) fun _ _ _ _ _ _ us hl => match us, hl with | [_], _ => rfl,
    m_Inbox_move_on := ⟨a_Inbox_move_on', i_Inbox_move_on, k_Inbox_move_on⟩,
    a_Inbox_finish := a_Inbox_finish,
    fd_Inbox_finish := PySem.W.fnOf "finish" "Inbox.finish" (defArgs s_Inbox_finish) (defBody s_Inbox_finish) (defScope s_Inbox_finish) .none kV_Inbox_finish dc_Inbox_finish pm_Inbox_finish an_Inbox_finish cd_Inbox_finish ct_Inbox_finish,
    F_Inbox_finish := F_Inbox_finish,
    B_Inbox_finish := F_Inbox_finish.binds (ps := ["self", "offset"]) fun _ _ _ _ _ _ us hl => match us, hl with | [_, _], _ => rfl,
    m_Inbox_finish := ⟨a_Inbox_finish', i_Inbox_finish, k_Inbox_finish⟩,
    a_Inbox_read := a_Inbox_read,
    fd_Inbox_read := PySem.W.fnOf "read" "Inbox.read" (defArgs s_Inbox_read) (defBody s_Inbox_read) (defScope s_Inbox_read) .none kV_Inbox_read dc_Inbox_read pm_Inbox_read an_Inbox_read cd_Inbox_read ct_Inbox_read,
    F_Inbox_read := F_Inbox_read,
    B_Inbox_read := F_Inbox_read.binds (ps := ["self", "count"]) fun _ _ _ _ _ _ us hl => match us, hl with | [_, _], _ => rfl,
    m_Inbox_read := ⟨a_Inbox_read', i_Inbox_read, k_Inbox_read⟩,
    a_Inbox_told_runs := a_Inbox_told_runs,
    fd_Inbox_told_runs := PySem.W.fnOf "told_runs" "Inbox.told_runs" (defArgs s_Inbox_told_runs) (defBody s_Inbox_told_runs) (defScope s_Inbox_told_runs) .none kV_Inbox_told_runs dc_Inbox_told_runs pm_Inbox_told_runs an_Inbox_told_runs cd_Inbox_told_runs ct_Inbox_told_runs,
    F_Inbox_told_runs := F_Inbox_told_runs,
    B_Inbox_told_runs := F_Inbox_told_runs.binds (ps := ["self"]) fun _ _ _ _ _ _ us hl => match us, hl with | [_], _ => rfl,
    m_Inbox_told_runs := ⟨a_Inbox_told_runs', i_Inbox_told_runs, k_Inbox_told_runs⟩,
    a_Inbox_mark_urgent := a_Inbox_mark_urgent,
    fd_Inbox_mark_urgent := PySem.W.fnOf "mark_urgent" "Inbox.mark_urgent" (defArgs s_Inbox_mark_urgent) (defBody s_Inbox_mark_urgent) (defScope s_Inbox_mark_urgent) .none kV_Inbox_mark_urgent dc_Inbox_mark_urgent pm_Inbox_mark_urgent an_Inbox_mark_urgent cd_Inbox_mark_urgent ct_Inbox_mark_urgent,
    F_Inbox_mark_urgent := F_Inbox_mark_urgent,
    B_Inbox_mark_urgent := F_Inbox_mark_urgent.binds (ps := ["self", "offset"]) fun _ _ _ _ _ _ us hl => match us, hl with | [_, _], _ => rfl,
    m_Inbox_mark_urgent := ⟨a_Inbox_mark_urgent', i_Inbox_mark_urgent, k_Inbox_mark_urgent⟩,
    a__law_box := a__law_box,
    fd__law_box := PySem.W.fnOf "_law_box" "_law_box" (defArgs s__law_box) (defBody s__law_box) (defScope s__law_box) .none kV__law_box dc__law_box pm__law_box an__law_box cd__law_box ct__law_box,
    F__law_box := F__law_box,
    B__law_box := F__law_box.binds (ps := ["script"]) fun _ _ _ _ _ _ us hl => match us, hl with | [_], _ => rfl,
    g__law_box := PySem.W.mg_of X G a__law_box',
    a__law_draw := a__law_draw,
    fd__law_draw := PySem.W.fnOf "_law_draw" "_law_draw" (defArgs s__law_draw) (defBody s__law_draw) (defScope s__law_draw) .none kV__law_draw dc__law_draw pm__law_draw an__law_draw cd__law_draw ct__law_draw,
    F__law_draw := F__law_draw,
    B__law_draw := F__law_draw.binds (ps := ["box", "size"]) fun _ _ _ _ _ _ us hl => match us, hl with | [_, _], _ => rfl,
    g__law_draw := PySem.W.mg_of X G a__law_draw',
    a__law_is_whole := a__law_is_whole,
    fd__law_is_whole := PySem.W.fnOf "_law_is_whole" "_law_is_whole" (defArgs s__law_is_whole) (defBody s__law_is_whole) (defScope s__law_is_whole) .none kV__law_is_whole dc__law_is_whole pm__law_is_whole an__law_is_whole cd__law_is_whole ct__law_is_whole,
    F__law_is_whole := F__law_is_whole,
    B__law_is_whole := F__law_is_whole.binds (ps := ["value"]) fun _ _ _ _ _ _ us hl => match us, hl with | [_], _ => rfl,
    g__law_is_whole := PySem.W.mg_of X G a__law_is_whole',
    a__law_limit := a__law_limit,
    fd__law_limit := PySem.W.fnOf "_law_limit" "_law_limit" (defArgs s__law_limit) (defBody s__law_limit) (defScope s__law_limit) .none kV__law_limit dc__law_limit pm__law_limit an__law_limit cd__law_limit ct__law_limit,
    F__law_limit := F__law_limit,
    B__law_limit := F__law_limit.binds (ps := ["box"]) fun _ _ _ _ _ _ us hl => match us, hl with | [_], _ => rfl,
    g__law_limit := PySem.W.mg_of X G a__law_limit',
    a__law_bytes := a__law_bytes,
    fd__law_bytes := PySem.W.fnOf "_law_bytes" "_law_bytes" (defArgs s__law_bytes) (defBody s__law_bytes) (defScope s__law_bytes) .none kV__law_bytes dc__law_bytes pm__law_bytes an__law_bytes cd__law_bytes ct__law_bytes,
    F__law_bytes := F__law_bytes,
    B__law_bytes := F__law_bytes.binds (ps := ["box", "most"]) fun _ _ _ _ _ _ us hl => match us, hl with | [_, _], _ => rfl,
    g__law_bytes := PySem.W.mg_of X G a__law_bytes',
    a__law_pairs_are := a__law_pairs_are,
    fd__law_pairs_are := PySem.W.fnOf "_law_pairs_are" "_law_pairs_are" (defArgs s__law_pairs_are) (defBody s__law_pairs_are) (defScope s__law_pairs_are) .none kV__law_pairs_are dc__law_pairs_are pm__law_pairs_are an__law_pairs_are cd__law_pairs_are ct__law_pairs_are,
    F__law_pairs_are := F__law_pairs_are,
    B__law_pairs_are := F__law_pairs_are.binds (ps := ["told", "due"]) fun _ _ _ _ _ _ us hl => match us, hl with | [_, _], _ => rfl,
    g__law_pairs_are := PySem.W.mg_of X G a__law_pairs_are',
    a__law_tuple_is := a__law_tuple_is,
    fd__law_tuple_is := PySem.W.fnOf "_law_tuple_is" "_law_tuple_is" (defArgs s__law_tuple_is) (defBody s__law_tuple_is) (defScope s__law_tuple_is) .none kV__law_tuple_is dc__law_tuple_is pm__law_tuple_is an__law_tuple_is cd__law_tuple_is ct__law_tuple_is,
    F__law_tuple_is := F__law_tuple_is,
    B__law_tuple_is := F__law_tuple_is.binds (ps := ["told", "due"]) fun _ _ _ _ _ _ us hl => match us, hl with | [_, _], _ => rfl,
    g__law_tuple_is := PySem.W.mg_of X G a__law_tuple_is',
    a__law_new_state := a__law_new_state,
    fd__law_new_state := PySem.W.fnOf "_law_new_state" "_law_new_state" (defArgs s__law_new_state) (defBody s__law_new_state) (defScope s__law_new_state) .none kV__law_new_state dc__law_new_state pm__law_new_state an__law_new_state cd__law_new_state ct__law_new_state,
    F__law_new_state := F__law_new_state,
    B__law_new_state := F__law_new_state.binds (ps := ["most"]) fun _ _ _ _ _ _ us hl => match us, hl with | [_], _ => rfl,
    g__law_new_state := PySem.W.mg_of X G a__law_new_state',
    a__law_edge := a__law_edge,
    fd__law_edge := PySem.W.fnOf "_law_edge" "_law_edge" (defArgs s__law_edge) (defBody s__law_edge) (defScope s__law_edge) .none kV__law_edge dc__law_edge pm__law_edge an__law_edge cd__law_edge ct__law_edge,
    F__law_edge := F__law_edge,
    B__law_edge := F__law_edge.binds (ps := ["state"]) fun _ _ _ _ _ _ us hl => match us, hl with | [_], _ => rfl,
    g__law_edge := PySem.W.mg_of X G a__law_edge',
    a__law_stores := a__law_stores,
    fd__law_stores := PySem.W.fnOf "_law_stores" "_law_stores" (defArgs s__law_stores) (defBody s__law_stores) (defScope s__law_stores) .none kV__law_stores dc__law_stores pm__law_stores an__law_stores cd__law_stores ct__law_stores,
    F__law_stores := F__law_stores,
    B__law_stores := F__law_stores.binds (ps := ["state", "offset", "data"]) fun _ _ _ _ _ _ us hl => match us, hl with | [_, _, _], _ => rfl,
    g__law_stores := PySem.W.mg_of X G a__law_stores',
    a__law_runs := a__law_runs,
    fd__law_runs := PySem.W.fnOf "_law_runs" "_law_runs" (defArgs s__law_runs) (defBody s__law_runs) (defScope s__law_runs) .none kV__law_runs dc__law_runs pm__law_runs an__law_runs cd__law_runs ct__law_runs,
    F__law_runs := F__law_runs,
    B__law_runs := F__law_runs.binds (ps := ["state"]) fun _ _ _ _ _ _ us hl => match us, hl with | [_], _ => rfl,
    g__law_runs := PySem.W.mg_of X G a__law_runs',
    a__law_told := a__law_told,
    fd__law_told := PySem.W.fnOf "_law_told" "_law_told" (defArgs s__law_told) (defBody s__law_told) (defScope s__law_told) .none kV__law_told dc__law_told pm__law_told an__law_told cd__law_told ct__law_told,
    F__law_told := F__law_told,
    B__law_told := F__law_told.binds (ps := ["inbox", "state"]) fun _ _ _ _ _ _ us hl => match us, hl with | [_, _], _ => rfl,
    g__law_told := PySem.W.mg_of X G a__law_told',
    a__law_offset := a__law_offset,
    fd__law_offset := PySem.W.fnOf "_law_offset" "_law_offset" (defArgs s__law_offset) (defBody s__law_offset) (defScope s__law_offset) .none kV__law_offset dc__law_offset pm__law_offset an__law_offset cd__law_offset ct__law_offset,
    F__law_offset := F__law_offset,
    B__law_offset := F__law_offset.binds (ps := ["box", "state"]) fun _ _ _ _ _ _ us hl => match us, hl with | [_, _], _ => rfl,
    g__law_offset := PySem.W.mg_of X G a__law_offset',
    a__law_takes := a__law_takes,
    fd__law_takes := PySem.W.fnOf "_law_takes" "_law_takes" (defArgs s__law_takes) (defBody s__law_takes) (defScope s__law_takes) .none kV__law_takes dc__law_takes pm__law_takes an__law_takes cd__law_takes ct__law_takes,
    F__law_takes := F__law_takes,
    B__law_takes := F__law_takes.binds (ps := ["box", "inbox", "state"]) fun _ _ _ _ _ _ us hl => match us, hl with | [_, _, _], _ => rfl,
    g__law_takes := PySem.W.mg_of X G a__law_takes',
    a__law_reads := a__law_reads,
    fd__law_reads := PySem.W.fnOf "_law_reads" "_law_reads" (defArgs s__law_reads) (defBody s__law_reads) (defScope s__law_reads) .none kV__law_reads dc__law_reads pm__law_reads an__law_reads cd__law_reads ct__law_reads,
    F__law_reads := F__law_reads,
    B__law_reads := F__law_reads.binds (ps := ["inbox", "state", "count"]) fun _ _ _ _ _ _ us hl => match us, hl with | [_, _, _], _ => rfl,
    g__law_reads := PySem.W.mg_of X G a__law_reads',
    a__law_state := a__law_state,
    fd__law_state := PySem.W.fnOf "_law_state" "_law_state" (defArgs s__law_state) (defBody s__law_state) (defScope s__law_state) .none kV__law_state dc__law_state pm__law_state an__law_state cd__law_state ct__law_state,
    F__law_state := F__law_state,
    B__law_state := F__law_state.binds (ps := ["inbox", "state"]) fun _ _ _ _ _ _ us hl => match us, hl with | [_, _], _ => rfl,
    g__law_state := PySem.W.mg_of X G a__law_state',
    a__law_most := a__law_most,
    fd__law_most := PySem.W.fnOf "_law_most" "_law_most" (defArgs s__law_most) (defBody s__law_most) (defScope s__law_most) .none kV__law_most dc__law_most pm__law_most an__law_most cd__law_most ct__law_most,
    F__law_most := F__law_most,
    B__law_most := F__law_most.binds (ps := ["state"]) fun _ _ _ _ _ _ us hl => match us, hl with | [_], _ => rfl,
    g__law_most := PySem.W.mg_of X G a__law_most',
    a__law_finishes := a__law_finishes,
    fd__law_finishes := PySem.W.fnOf "_law_finishes" "_law_finishes" (defArgs s__law_finishes) (defBody s__law_finishes) (defScope s__law_finishes) .none kV__law_finishes dc__law_finishes pm__law_finishes an__law_finishes cd__law_finishes ct__law_finishes,
    F__law_finishes := F__law_finishes,
    B__law_finishes := F__law_finishes.binds (ps := ["box", "inbox", "state"]) fun _ _ _ _ _ _ us hl => match us, hl with | [_, _, _], _ => rfl,
    g__law_finishes := PySem.W.mg_of X G a__law_finishes',
    a__law_finish_refused := a__law_finish_refused,
    fd__law_finish_refused := PySem.W.fnOf "_law_finish_refused" "_law_finish_refused" (defArgs s__law_finish_refused) (defBody s__law_finish_refused) (defScope s__law_finish_refused) .none kV__law_finish_refused dc__law_finish_refused pm__law_finish_refused an__law_finish_refused cd__law_finish_refused ct__law_finish_refused,
    F__law_finish_refused := F__law_finish_refused,
    B__law_finish_refused := F__law_finish_refused.binds (ps := ["box", "inbox", "state"]) fun _ _ _ _ _ _ us hl => match us, hl with | [_, _, _], _ => rfl,
    g__law_finish_refused := PySem.W.mg_of X G a__law_finish_refused',
    a__law_read_refused := a__law_read_refused,
    fd__law_read_refused := PySem.W.fnOf "_law_read_refused" "_law_read_refused" (defArgs s__law_read_refused) (defBody s__law_read_refused) (defScope s__law_read_refused) .none kV__law_read_refused dc__law_read_refused pm__law_read_refused an__law_read_refused cd__law_read_refused ct__law_read_refused,
    F__law_read_refused := F__law_read_refused,
    B__law_read_refused := F__law_read_refused.binds (ps := ["box", "inbox"]) fun _ _ _ _ _ _ us hl => match us, hl with | [_, _], _ => rfl,
    g__law_read_refused := PySem.W.mg_of X G a__law_read_refused',
    a__law_limit_refused := a__law_limit_refused,
    fd__law_limit_refused := PySem.W.fnOf "_law_limit_refused" "_law_limit_refused" (defArgs s__law_limit_refused) (defBody s__law_limit_refused) (defScope s__law_limit_refused) .none kV__law_limit_refused dc__law_limit_refused pm__law_limit_refused an__law_limit_refused cd__law_limit_refused ct__law_limit_refused,
    F__law_limit_refused := F__law_limit_refused,
    B__law_limit_refused := F__law_limit_refused.binds (ps := ["box", "inbox"]) fun _ _ _ _ _ _ us hl => match us, hl with | [_, _], _ => rfl,
    g__law_limit_refused := PySem.W.mg_of X G a__law_limit_refused',
    a__law_marks := a__law_marks,
    fd__law_marks := PySem.W.fnOf "_law_marks" "_law_marks" (defArgs s__law_marks) (defBody s__law_marks) (defScope s__law_marks) .none kV__law_marks dc__law_marks pm__law_marks an__law_marks cd__law_marks ct__law_marks,
    F__law_marks := F__law_marks,
    B__law_marks := F__law_marks.binds (ps := ["box", "inbox", "state"]) fun _ _ _ _ _ _ us hl => match us, hl with | [_, _, _], _ => rfl,
    g__law_marks := PySem.W.mg_of X G a__law_marks',
    a__law_deed := a__law_deed,
    fd__law_deed := PySem.W.fnOf "_law_deed" "_law_deed" (defArgs s__law_deed) (defBody s__law_deed) (defScope s__law_deed) .none kV__law_deed dc__law_deed pm__law_deed an__law_deed cd__law_deed ct__law_deed,
    F__law_deed := F__law_deed,
    B__law_deed := F__law_deed.binds (ps := ["box", "inbox", "state"]) fun _ _ _ _ _ _ us hl => match us, hl with | [_, _, _], _ => rfl,
    g__law_deed := PySem.W.mg_of X G a__law_deed',
    a__law_narrows := a__law_narrows,
    fd__law_narrows := PySem.W.fnOf "_law_narrows" "_law_narrows" (defArgs s__law_narrows) (defBody s__law_narrows) (defScope s__law_narrows) .none kV__law_narrows dc__law_narrows pm__law_narrows an__law_narrows cd__law_narrows ct__law_narrows,
    F__law_narrows := F__law_narrows,
    B__law_narrows := F__law_narrows.binds (ps := ["box", "inbox", "state"]) fun _ _ _ _ _ _ us hl => match us, hl with | [_, _, _], _ => rfl,
    g__law_narrows := PySem.W.mg_of X G a__law_narrows',
    a__law_fills := a__law_fills,
    fd__law_fills := PySem.W.fnOf "_law_fills" "_law_fills" (defArgs s__law_fills) (defBody s__law_fills) (defScope s__law_fills) .none kV__law_fills dc__law_fills pm__law_fills an__law_fills cd__law_fills ct__law_fills,
    F__law_fills := F__law_fills,
    B__law_fills := F__law_fills.binds (ps := ["inbox", "state"]) fun _ _ _ _ _ _ us hl => match us, hl with | [_, _], _ => rfl,
    g__law_fills := PySem.W.mg_of X G a__law_fills',
    a_law := a_law,
    fd_law := PySem.W.fnOf "law" "law" (defArgs s_law) (defBody s_law) (defScope s_law) .none kV_law dc_law pm_law an_law cd_law ct_law,
    F_law := F_law,
    B_law := F_law.binds (ps := ["script"]) fun _ _ _ _ _ _ us hl => match us, hl with | [_], _ => rfl,
    g_law := PySem.W.mg_of X G a_law',
    Kv_InvalidNumber := Kv_InvalidNumber,
    Kv_InvalidSetting := Kv_InvalidSetting,
    b_NotImplemented := PySem.W.mg_none_of X G z_NotImplemented,
    b_ValueError := PySem.W.mg_none_of X G z_ValueError,
    b_abs := PySem.W.mg_none_of X G z_abs,
    b_bool := PySem.W.mg_none_of X G z_bool,
    b_int := PySem.W.mg_none_of X G z_int,
    b_isinstance := PySem.W.mg_none_of X G z_isinstance,
    b_len := PySem.W.mg_none_of X G z_len,
    b_list := PySem.W.mg_none_of X G z_list,
    b_max := PySem.W.mg_none_of X G z_max,
    b_min := PySem.W.mg_none_of X G z_min,
    b_property := PySem.W.mg_none_of X G z_property,
    b_range := PySem.W.mg_none_of X G z_range,
    b_repr := PySem.W.mg_none_of X G z_repr,
    b_reversed := PySem.W.mg_none_of X G z_reversed,
    b_sorted := PySem.W.mg_none_of X G z_sorted,
    b_sum := PySem.W.mg_none_of X G z_sum,
    b_tuple := PySem.W.mg_none_of X G z_tuple,
    u_MOST_TOLD := u_MOST_TOLD,
    g_MOST_TOLD := PySem.W.mg_of X G q_MOST_TOLD,
    r_MOST_TOLD := w_MOST_TOLD }
  exact ⟨T.fd_law, fun s v => .of_eq rfl, fun base _ _ => ok_law (P := l.prog) (w := w) (base := base) T⟩
theorem walk {l : PySem.W.OpenLaw} {q : Program} {loose : List Str} {XP : (Str → Option Value) → Heap → Prop} {YP : World → Heap → Prop} {d : DefRec} {K : Params → PySem.W.Frag} (hn : l.most = some 63) (hdf : d.params.defaults = [])
    (hY : ∀ (w : World) (h : Heap), YP w h → (K w.params).In h)
    (F : ∀ (w : World) (mg : Str → Option Value) (fa : Addr) (h : Heap), (K w.params).In h → h.Ns mainGlobals mg → mg d.name = some (.ref fa) →
      ∃ fd : FuncData, (∀ (s : Shared) (u : Value), BindsTo s fd ⟨[u], []⟩ [("script", u)]) ∧ ∀ base : Heap, (K w.params).In base → base.Ns mainGlobals mg → FnStill l.prog w (K w.params) mg base 12 fa fd ["script"] (sp_law (K w.params))) :
    PySem.W.WalkO q loose XP YP l.row.toRowW d [] (fun f vs => PySem.call f vs) :=
  still_walk (n := 63) (k := 12) (x := "script") (sp := fun w => sp_law (K w.params)) hn (by decide) hdf ⟨rfl, by decide, by decide⟩ hY F (fun _ _ a ns hl _ hS => ⟨a, ns, rfl, hS, hl, fun _ => rfl⟩) fun _ _ _ _ z => z
end My

open PySem PySem.W PyProof.Rows in
set_option maxRecDepth 100000 in
set_option maxHeartbeats 0 in
theorem PySem.Challenge.cw_lossway_k13_inbox_ends_holds : PySem.Challenge.rw_lossway_k13_inbox_ends.Holds := by
  w_on; o_law; k_head; (case hw => w_witness2)
  k_fill
  refine My.walk (l := PySem.Challenge.rw_lossway_k13_inbox_ends) rfl rfl (fun w h Y => PySem.W.kIn_of Y) ?F
  case F =>
    intro w mg fa h KX G hmg
    refine' My.all_mk KX G hmg ?aC_Spans ?pg_Spans ?hd_Spans ?po_Spans ?sa_Spans ?mk_Spans ?kc_Spans ?n_Spans__runs ?aC_Inbox ?pg_Inbox ?hd_Inbox ?po_Inbox ?sa_Inbox ?mk_Inbox ?kc_Inbox ?n_Inbox__limit ?n_Inbox_next_offset ?n_Inbox_read_offset ?n_Inbox_final ?n_Inbox_urgent_end ?n_Inbox__stored ?n_Inbox__ahead ?n_Inbox__latest ?aC_LossError ?aC_InvalidNumber ?xl_InvalidNumber ?sa_InvalidNumber ?xx_InvalidNumber ?xt_InvalidNumber ?xk_InvalidNumber ?xi_InvalidNumber ?xg_InvalidNumber ?xh_InvalidNumber ?xy_InvalidNumber ?xc_InvalidNumber ?xr_InvalidNumber ?nX_InvalidNumber ?aC_InvalidSetting ?xl_InvalidSetting ?sa_InvalidSetting ?xx_InvalidSetting ?xt_InvalidSetting ?xk_InvalidSetting ?xi_InvalidSetting ?xg_InvalidSetting ?xh_InvalidSetting ?xy_InvalidSetting ?xc_InvalidSetting ?xr_InvalidSetting ?nX_InvalidSetting ?x_get ?x_tk ?Me_InvalidNumber_InvalidNumber ?Me_InvalidSetting_InvalidSetting ?Kt_InvalidNumber_InvalidNumber ?Kt_InvalidNumber_InvalidSetting ?Kt_InvalidSetting_InvalidNumber ?Kt_InvalidSetting_InvalidSetting ?Kt_InvalidNumber_LossError ?Kt_InvalidSetting_LossError ?xf_InvalidNumber_init_ ?l_InvalidNumber_init_ ?e_InvalidNumber_init_ ?k_InvalidNumber_init_ ?xf_InvalidSetting_init_ ?l_InvalidSetting_init_ ?e_InvalidSetting_init_ ?k_InvalidSetting_init_ ?a_is_integer_ ?l_is_integer ?e_is_integer ?k_is_integer ?a_is_between_ ?l_is_between ?e_is_between ?k_is_between ?a_is_at_least_ ?l_is_at_least ?e_is_at_least ?k_is_at_least ?a_is_byte_ ?l_is_byte ?e_is_byte ?k_is_byte ?a_is_sequence_ ?l_is_sequence ?e_is_sequence ?k_is_sequence ?a_require_data_ ?l_require_data ?e_require_data ?k_require_data ?a_require_limit_ ?l_require_limit ?e_require_limit ?k_require_limit ?a_is_run_ ?l_is_run ?e_is_run ?k_is_run ?a_joined_ ?l_joined ?e_joined ?k_joined ?a_missing_ ?l_missing ?e_missing ?k_missing ?a_common_ ?l_common ?e_common ?k_common ?a_without_ ?l_without ?e_without ?k_without ?a_Spans_init__ ?i_Spans_init_ ?l_Spans_init_ ?e_Spans_init_ ?k_Spans_init_ ?a_Spans_rows_ ?i_Spans_rows ?l_Spans_rows ?e_Spans_rows ?k_Spans_rows ?a_Spans_put_ ?i_Spans_put ?l_Spans_put ?e_Spans_put ?k_Spans_put ?a_Spans_drop_ ?i_Spans_drop ?l_Spans_drop ?e_Spans_drop ?k_Spans_drop ?a_Spans_holding_ ?i_Spans_holding ?l_Spans_holding ?e_Spans_holding ?k_Spans_holding ?a_Spans_gaps_ ?i_Spans_gaps ?l_Spans_gaps ?e_Spans_gaps ?k_Spans_gaps ?a_Spans_highest_ ?i_Spans_highest ?l_Spans_highest ?e_Spans_highest ?k_Spans_highest ?a_Inbox_init__ ?i_Inbox_init_ ?l_Inbox_init_ ?e_Inbox_init_ ?k_Inbox_init_ ?a_Inbox_limit_ ?pg_Inbox_limit ?pt_Inbox_limit ?rc_Inbox_limit ?l_Inbox_limit ?e_Inbox_limit ?k_Inbox_limit ?ty_Inbox_limit_set ?rx_Inbox_limit_set ?l_Inbox_limit_set ?e_Inbox_limit_set ?k_Inbox_limit_set ?a_Inbox_edge_ ?pg_Inbox_edge ?pt_Inbox_edge ?rc_Inbox_edge ?l_Inbox_edge ?e_Inbox_edge ?k_Inbox_edge ?a_Inbox_room_ ?pg_Inbox_room ?pt_Inbox_room ?rc_Inbox_room ?l_Inbox_room ?e_Inbox_room ?k_Inbox_room ?a_Inbox_ready_ ?pg_Inbox_ready ?pt_Inbox_ready ?rc_Inbox_ready ?l_Inbox_ready ?e_Inbox_ready ?k_Inbox_ready ?a_Inbox_ended_ ?pg_Inbox_ended ?pt_Inbox_ended ?rc_Inbox_ended ?l_Inbox_ended ?e_Inbox_ended ?k_Inbox_ended ?a_Inbox_expected_ ?pg_Inbox_expected ?pt_Inbox_expected ?rc_Inbox_expected ?l_Inbox_expected ?e_Inbox_expected ?k_Inbox_expected ?a_Inbox_urgent_count_ ?pg_Inbox_urgent_count ?pt_Inbox_urgent_count ?rc_Inbox_urgent_count ?l_Inbox_urgent_count ?e_Inbox_urgent_count ?k_Inbox_urgent_count ?a_Inbox_resize_ ?i_Inbox_resize ?l_Inbox_resize ?e_Inbox_resize ?k_Inbox_resize ?a_Inbox_take_ ?i_Inbox_take ?l_Inbox_take ?e_Inbox_take ?k_Inbox_take ?a_Inbox_stop_ ?i_Inbox_stop ?l_Inbox_stop ?e_Inbox_stop ?k_Inbox_stop ?a_Inbox_move_on_ ?i_Inbox_move_on ?l_Inbox_move_on ?e_Inbox_move_on ?k_Inbox_move_on ?a_Inbox_finish_ ?i_Inbox_finish ?l_Inbox_finish ?e_Inbox_finish ?k_Inbox_finish ?a_Inbox_read_ ?i_Inbox_read ?l_Inbox_read ?e_Inbox_read ?k_Inbox_read ?a_Inbox_told_runs_ ?i_Inbox_told_runs ?l_Inbox_told_runs ?e_Inbox_told_runs ?k_Inbox_told_runs ?a_Inbox_mark_urgent_ ?i_Inbox_mark_urgent ?l_Inbox_mark_urgent ?e_Inbox_mark_urgent ?k_Inbox_mark_urgent ?a__law_box_ ?l__law_box ?e__law_box ?k__law_box ?a__law_draw_ ?l__law_draw ?e__law_draw ?k__law_draw ?a__law_is_whole_ ?l__law_is_whole ?e__law_is_whole ?k__law_is_whole ?a__law_limit_ ?l__law_limit ?e__law_limit ?k__law_limit ?a__law_bytes_ ?l__law_bytes ?e__law_bytes ?k__law_bytes ?a__law_pairs_are_ ?l__law_pairs_are ?e__law_pairs_are ?k__law_pairs_are ?a__law_tuple_is_ ?l__law_tuple_is ?e__law_tuple_is ?k__law_tuple_is ?a__law_new_state_ ?l__law_new_state ?e__law_new_state ?k__law_new_state ?a__law_edge_ ?l__law_edge ?e__law_edge ?k__law_edge ?a__law_stores_ ?l__law_stores ?e__law_stores ?k__law_stores ?a__law_runs_ ?l__law_runs ?e__law_runs ?k__law_runs ?a__law_told_ ?l__law_told ?e__law_told ?k__law_told ?a__law_offset_ ?l__law_offset ?e__law_offset ?k__law_offset ?a__law_takes_ ?l__law_takes ?e__law_takes ?k__law_takes ?a__law_reads_ ?l__law_reads ?e__law_reads ?k__law_reads ?a__law_state_ ?l__law_state ?e__law_state ?k__law_state ?a__law_most_ ?l__law_most ?e__law_most ?k__law_most ?a__law_finishes_ ?l__law_finishes ?e__law_finishes ?k__law_finishes ?a__law_finish_refused_ ?l__law_finish_refused ?e__law_finish_refused ?k__law_finish_refused ?a__law_read_refused_ ?l__law_read_refused ?e__law_read_refused ?k__law_read_refused ?a__law_limit_refused_ ?l__law_limit_refused ?e__law_limit_refused ?k__law_limit_refused ?a__law_marks_ ?l__law_marks ?e__law_marks ?k__law_marks ?a__law_deed_ ?l__law_deed ?e__law_deed ?k__law_deed ?a__law_narrows_ ?l__law_narrows ?e__law_narrows ?k__law_narrows ?a__law_fills_ ?l__law_fills ?e__law_fills ?k__law_fills ?a_law_ ?l_law ?e_law ?k_law ?Kv_InvalidNumber ?Kv_InvalidSetting ?z_NotImplemented ?z_ValueError ?z_abs ?z_bool ?z_int ?z_isinstance ?z_len ?z_list ?z_max ?z_min ?z_property ?z_range ?z_repr ?z_reversed ?z_sorted ?z_sum ?z_tuple ?q_MOST_TOLD ?xm__InvalidNumber ?xm__InvalidSetting ?w_MOST_TOLD
    (case aC_Spans => k_is)
    (case pg_Spans => k_is)
    (case hd_Spans => k_is)
    (case po_Spans => k_is)
    (case sa_Spans => k_is)
    (case mk_Spans => k_is)
    (case kc_Spans => k_is)
    (case n_Spans__runs => k_is)
    (case aC_Inbox => k_is)
    (case pg_Inbox => k_is)
    (case hd_Inbox => k_is)
    (case po_Inbox => k_is)
    (case sa_Inbox => k_is)
    (case mk_Inbox => k_is)
    (case kc_Inbox => k_is)
    (case n_Inbox__limit => k_is)
    (case n_Inbox_next_offset => k_is)
    (case n_Inbox_read_offset => k_is)
    (case n_Inbox_final => k_is)
    (case n_Inbox_urgent_end => k_is)
    (case n_Inbox__stored => k_is)
    (case n_Inbox__ahead => k_is)
    (case n_Inbox__latest => k_is)
    (case aC_LossError => k_is)
    (case aC_InvalidNumber => k_is)
    (case xl_InvalidNumber => k_is)
    (case sa_InvalidNumber => k_is)
    (case xx_InvalidNumber => k_is)
    (case xt_InvalidNumber => k_is)
    (case xk_InvalidNumber => k_is)
    (case xi_InvalidNumber => k_is)
    (case xg_InvalidNumber => k_is)
    (case xh_InvalidNumber => k_is)
    (case xy_InvalidNumber => k_is)
    (case xc_InvalidNumber => k_is)
    (case xr_InvalidNumber => k_is)
    (case nX_InvalidNumber => k_is)
    (case aC_InvalidSetting => k_is)
    (case xl_InvalidSetting => k_is)
    (case sa_InvalidSetting => k_is)
    (case xx_InvalidSetting => k_is)
    (case xt_InvalidSetting => k_is)
    (case xk_InvalidSetting => k_is)
    (case xi_InvalidSetting => k_is)
    (case xg_InvalidSetting => k_is)
    (case xh_InvalidSetting => k_is)
    (case xy_InvalidSetting => k_is)
    (case xc_InvalidSetting => k_is)
    (case xr_InvalidSetting => k_is)
    (case nX_InvalidSetting => k_is)
    (case x_get => k_is)
    (case x_tk => k_is)
    (case Me_InvalidNumber_InvalidNumber => kts_exm)
    (case Me_InvalidSetting_InvalidSetting => kts_exm)
    (case Kt_InvalidNumber_InvalidNumber => kit_is)
    (case Kt_InvalidNumber_InvalidSetting => kit_is)
    (case Kt_InvalidSetting_InvalidNumber => kit_is)
    (case Kt_InvalidSetting_InvalidSetting => kit_is)
    (case Kt_InvalidNumber_LossError => kit_is)
    (case Kt_InvalidSetting_LossError => kit_is)
    (case xf_InvalidNumber_init_ => k_is)
    (case l_InvalidNumber_init_ => k_is)
    (case e_InvalidNumber_init_ => k_is)
    (case k_InvalidNumber_init_ => k_is)
    (case xf_InvalidSetting_init_ => k_is)
    (case l_InvalidSetting_init_ => k_is)
    (case e_InvalidSetting_init_ => k_is)
    (case k_InvalidSetting_init_ => k_is)
    (case a_is_integer_ => k_is)
    (case l_is_integer => k_is)
    (case e_is_integer => k_is)
    (case k_is_integer => k_is)
    (case a_is_between_ => k_is)
    (case l_is_between => k_is)
    (case e_is_between => k_is)
    (case k_is_between => k_is)
    (case a_is_at_least_ => k_is)
    (case l_is_at_least => k_is)
    (case e_is_at_least => k_is)
    (case k_is_at_least => k_is)
    (case a_is_byte_ => k_is)
    (case l_is_byte => k_is)
    (case e_is_byte => k_is)
    (case k_is_byte => k_is)
    (case a_is_sequence_ => k_is)
    (case l_is_sequence => k_is)
    (case e_is_sequence => k_is)
    (case k_is_sequence => k_is)
    (case a_require_data_ => k_is)
    (case l_require_data => k_is)
    (case e_require_data => k_is)
    (case k_require_data => k_is)
    (case a_require_limit_ => k_is)
    (case l_require_limit => k_is)
    (case e_require_limit => k_is)
    (case k_require_limit => k_is)
    (case a_is_run_ => k_is)
    (case l_is_run => k_is)
    (case e_is_run => k_is)
    (case k_is_run => k_is)
    (case a_joined_ => k_is)
    (case l_joined => k_is)
    (case e_joined => k_is)
    (case k_joined => k_is)
    (case a_missing_ => k_is)
    (case l_missing => k_is)
    (case e_missing => k_is)
    (case k_missing => k_is)
    (case a_common_ => k_is)
    (case l_common => k_is)
    (case e_common => k_is)
    (case k_common => k_is)
    (case a_without_ => k_is)
    (case l_without => k_is)
    (case e_without => k_is)
    (case k_without => k_is)
    (case a_Spans_init__ => k_is)
    (case i_Spans_init_ => k_is)
    (case l_Spans_init_ => k_is)
    (case e_Spans_init_ => k_is)
    (case k_Spans_init_ => k_is)
    (case a_Spans_rows_ => k_is)
    (case i_Spans_rows => k_is)
    (case l_Spans_rows => k_is)
    (case e_Spans_rows => k_is)
    (case k_Spans_rows => k_is)
    (case a_Spans_put_ => k_is)
    (case i_Spans_put => k_is)
    (case l_Spans_put => k_is)
    (case e_Spans_put => k_is)
    (case k_Spans_put => k_is)
    (case a_Spans_drop_ => k_is)
    (case i_Spans_drop => k_is)
    (case l_Spans_drop => k_is)
    (case e_Spans_drop => k_is)
    (case k_Spans_drop => k_is)
    (case a_Spans_holding_ => k_is)
    (case i_Spans_holding => k_is)
    (case l_Spans_holding => k_is)
    (case e_Spans_holding => k_is)
    (case k_Spans_holding => k_is)
    (case a_Spans_gaps_ => k_is)
    (case i_Spans_gaps => k_is)
    (case l_Spans_gaps => k_is)
    (case e_Spans_gaps => k_is)
    (case k_Spans_gaps => k_is)
    (case a_Spans_highest_ => k_is)
    (case i_Spans_highest => k_is)
    (case l_Spans_highest => k_is)
    (case e_Spans_highest => k_is)
    (case k_Spans_highest => k_is)
    (case a_Inbox_init__ => k_is)
    (case i_Inbox_init_ => k_is)
    (case l_Inbox_init_ => k_is)
    (case e_Inbox_init_ => k_is)
    (case k_Inbox_init_ => k_is)
    (case a_Inbox_limit_ => k_is)
    (case pg_Inbox_limit => k_is)
    (case pt_Inbox_limit => k_is)
    (case rc_Inbox_limit => k_is)
    (case l_Inbox_limit => k_is)
    (case e_Inbox_limit => k_is)
    (case k_Inbox_limit => k_is)
    (case ty_Inbox_limit_set => k_is)
    (case rx_Inbox_limit_set => k_is)
    (case l_Inbox_limit_set => k_is)
    (case e_Inbox_limit_set => k_is)
    (case k_Inbox_limit_set => k_is)
    (case a_Inbox_edge_ => k_is)
    (case pg_Inbox_edge => k_is)
    (case pt_Inbox_edge => k_is)
    (case rc_Inbox_edge => k_is)
    (case l_Inbox_edge => k_is)
    (case e_Inbox_edge => k_is)
    (case k_Inbox_edge => k_is)
    (case a_Inbox_room_ => k_is)
    (case pg_Inbox_room => k_is)
    (case pt_Inbox_room => k_is)
    (case rc_Inbox_room => k_is)
    (case l_Inbox_room => k_is)
    (case e_Inbox_room => k_is)
    (case k_Inbox_room => k_is)
    (case a_Inbox_ready_ => k_is)
    (case pg_Inbox_ready => k_is)
    (case pt_Inbox_ready => k_is)
    (case rc_Inbox_ready => k_is)
    (case l_Inbox_ready => k_is)
    (case e_Inbox_ready => k_is)
    (case k_Inbox_ready => k_is)
    (case a_Inbox_ended_ => k_is)
    (case pg_Inbox_ended => k_is)
    (case pt_Inbox_ended => k_is)
    (case rc_Inbox_ended => k_is)
    (case l_Inbox_ended => k_is)
    (case e_Inbox_ended => k_is)
    (case k_Inbox_ended => k_is)
    (case a_Inbox_expected_ => k_is)
    (case pg_Inbox_expected => k_is)
    (case pt_Inbox_expected => k_is)
    (case rc_Inbox_expected => k_is)
    (case l_Inbox_expected => k_is)
    (case e_Inbox_expected => k_is)
    (case k_Inbox_expected => k_is)
    (case a_Inbox_urgent_count_ => k_is)
    (case pg_Inbox_urgent_count => k_is)
    (case pt_Inbox_urgent_count => k_is)
    (case rc_Inbox_urgent_count => k_is)
    (case l_Inbox_urgent_count => k_is)
    (case e_Inbox_urgent_count => k_is)
    (case k_Inbox_urgent_count => k_is)
    (case a_Inbox_resize_ => k_is)
    (case i_Inbox_resize => k_is)
    (case l_Inbox_resize => k_is)
    (case e_Inbox_resize => k_is)
    (case k_Inbox_resize => k_is)
    (case a_Inbox_take_ => k_is)
    (case i_Inbox_take => k_is)
    (case l_Inbox_take => k_is)
    (case e_Inbox_take => k_is)
    (case k_Inbox_take => k_is)
    (case a_Inbox_stop_ => k_is)
    (case i_Inbox_stop => k_is)
    (case l_Inbox_stop => k_is)
    (case e_Inbox_stop => k_is)
    (case k_Inbox_stop => k_is)
    (case a_Inbox_move_on_ => k_is)
    (case i_Inbox_move_on => k_is)
    (case l_Inbox_move_on => k_is)
    (case e_Inbox_move_on => k_is)
    (case k_Inbox_move_on => k_is)
    (case a_Inbox_finish_ => k_is)
    (case i_Inbox_finish => k_is)
    (case l_Inbox_finish => k_is)
    (case e_Inbox_finish => k_is)
    (case k_Inbox_finish => k_is)
    (case a_Inbox_read_ => k_is)
    (case i_Inbox_read => k_is)
    (case l_Inbox_read => k_is)
    (case e_Inbox_read => k_is)
    (case k_Inbox_read => k_is)
    (case a_Inbox_told_runs_ => k_is)
    (case i_Inbox_told_runs => k_is)
    (case l_Inbox_told_runs => k_is)
    (case e_Inbox_told_runs => k_is)
    (case k_Inbox_told_runs => k_is)
    (case a_Inbox_mark_urgent_ => k_is)
    (case i_Inbox_mark_urgent => k_is)
    (case l_Inbox_mark_urgent => k_is)
    (case e_Inbox_mark_urgent => k_is)
    (case k_Inbox_mark_urgent => k_is)
    (case a__law_box_ => k_is)
    (case l__law_box => k_is)
    (case e__law_box => k_is)
    (case k__law_box => k_is)
    (case a__law_draw_ => k_is)
    (case l__law_draw => k_is)
    (case e__law_draw => k_is)
    (case k__law_draw => k_is)
    (case a__law_is_whole_ => k_is)
    (case l__law_is_whole => k_is)
    (case e__law_is_whole => k_is)
    (case k__law_is_whole => k_is)
    (case a__law_limit_ => k_is)
    (case l__law_limit => k_is)
    (case e__law_limit => k_is)
    (case k__law_limit => k_is)
    (case a__law_bytes_ => k_is)
    (case l__law_bytes => k_is)
    (case e__law_bytes => k_is)
    (case k__law_bytes => k_is)
    (case a__law_pairs_are_ => k_is)
    (case l__law_pairs_are => k_is)
    (case e__law_pairs_are => k_is)
    (case k__law_pairs_are => k_is)
    (case a__law_tuple_is_ => k_is)
    (case l__law_tuple_is => k_is)
    (case e__law_tuple_is => k_is)
    (case k__law_tuple_is => k_is)
    (case a__law_new_state_ => k_is)
    (case l__law_new_state => k_is)
    (case e__law_new_state => k_is)
    (case k__law_new_state => k_is)
    (case a__law_edge_ => k_is)
    (case l__law_edge => k_is)
    (case e__law_edge => k_is)
    (case k__law_edge => k_is)
    (case a__law_stores_ => k_is)
    (case l__law_stores => k_is)
    (case e__law_stores => k_is)
    (case k__law_stores => k_is)
    (case a__law_runs_ => k_is)
    (case l__law_runs => k_is)
    (case e__law_runs => k_is)
    (case k__law_runs => k_is)
    (case a__law_told_ => k_is)
    (case l__law_told => k_is)
    (case e__law_told => k_is)
    (case k__law_told => k_is)
    (case a__law_offset_ => k_is)
    (case l__law_offset => k_is)
    (case e__law_offset => k_is)
    (case k__law_offset => k_is)
    (case a__law_takes_ => k_is)
    (case l__law_takes => k_is)
    (case e__law_takes => k_is)
    (case k__law_takes => k_is)
    (case a__law_reads_ => k_is)
    (case l__law_reads => k_is)
    (case e__law_reads => k_is)
    (case k__law_reads => k_is)
    (case a__law_state_ => k_is)
    (case l__law_state => k_is)
    (case e__law_state => k_is)
    (case k__law_state => k_is)
    (case a__law_most_ => k_is)
    (case l__law_most => k_is)
    (case e__law_most => k_is)
    (case k__law_most => k_is)
    (case a__law_finishes_ => k_is)
    (case l__law_finishes => k_is)
    (case e__law_finishes => k_is)
    (case k__law_finishes => k_is)
    (case a__law_finish_refused_ => k_is)
    (case l__law_finish_refused => k_is)
    (case e__law_finish_refused => k_is)
    (case k__law_finish_refused => k_is)
    (case a__law_read_refused_ => k_is)
    (case l__law_read_refused => k_is)
    (case e__law_read_refused => k_is)
    (case k__law_read_refused => k_is)
    (case a__law_limit_refused_ => k_is)
    (case l__law_limit_refused => k_is)
    (case e__law_limit_refused => k_is)
    (case k__law_limit_refused => k_is)
    (case a__law_marks_ => k_is)
    (case l__law_marks => k_is)
    (case e__law_marks => k_is)
    (case k__law_marks => k_is)
    (case a__law_deed_ => k_is)
    (case l__law_deed => k_is)
    (case e__law_deed => k_is)
    (case k__law_deed => k_is)
    (case a__law_narrows_ => k_is)
    (case l__law_narrows => k_is)
    (case e__law_narrows => k_is)
    (case k__law_narrows => k_is)
    (case a__law_fills_ => k_is)
    (case l__law_fills => k_is)
    (case e__law_fills => k_is)
    (case k__law_fills => k_is)
    (case a_law_ => k_is)
    (case l_law => k_is)
    (case e_law => k_is)
    (case k_law => k_is)
    (case Kv_InvalidNumber => kit_is)
    (case Kv_InvalidSetting => kit_is)
    (case z_NotImplemented => k_is)
    (case z_ValueError => k_is)
    (case z_abs => k_is)
    (case z_bool => k_is)
    (case z_int => k_is)
    (case z_isinstance => k_is)
    (case z_len => k_is)
    (case z_list => k_is)
    (case z_max => k_is)
    (case z_min => k_is)
    (case z_property => k_is)
    (case z_range => k_is)
    (case z_repr => k_is)
    (case z_reversed => k_is)
    (case z_sorted => k_is)
    (case z_sum => k_is)
    (case z_tuple => k_is)
    (case q_MOST_TOLD => k_is)
    (case xm__InvalidNumber => decide +kernel)
    (case xm__InvalidSetting => decide +kernel)
    (case w_MOST_TOLD => exact ⟨_, rfl⟩)
