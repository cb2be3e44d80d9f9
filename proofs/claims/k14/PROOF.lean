import PyProof.Rows.All
import Wide.All
import OpenK.AllK
import Wide.FinOn
import HandS.ForMost
import HandS.IsInst
import HandS.ClsMeth
import HandS.Codes
import HandS.Exc
import HandS.ExcOwn
import HandS.ExcInit
import HandS.ExcField
import HandS.ExcIs
import HandS.TryMany
import HandS.WordsExc
import HandS.CallSlots
import HandS.More
import KE.KExcIs
import KE.GoesEnum
import KE.GoesMore
import HandS.Defaults
import HandS.Property
import HandS.Zip
import HandS.Text
import HandS.Wide
import HandS.Star
import HandS.SortRule
import HandS.SortInts
import HandS.Flow
import HandS.More
import HandS.TupAny
import HandS.Dict
import HandS.GenList
import HandS.Conv
import HandS.Deep
import HandS.TupLe
import PySem.Challenge.RW_lossway_k14_whole_buffers_carry
set_option Elab.async false
set_option maxRecDepth 100000
namespace My
open PySem L2
set_option linter.all false

/-! ### an own `in` -/
section
variable {X : Cx} {CX : CXT} {k : Nat} {C g : Addr} {fd : FuncData} {ps : List Str} {sp : Sp} {E : XK}
def rOwnIn (C : Addr) (m : Bool → Bool) (sp : Sp) (E : XK) : R2 := fun x y H Q => ∃ a dx fs, y = .ref a ∧ H a = some (.ins C dx fs) ∧ sp [.ref a, x] H (fun v H' => ∃ b, v = .bl b ∧ Q (.bl (m b)) H') E
theorem op_notInOwn (mm : Meth X.K C "__contains__" g) (F : FnOk X.prog X.w X.K X.mg X.base CX k g fd ps sp) (hr : Room k X.A) (hb : Binds X.K fd ps []) (hx : Passes CX X E) : OpR X (compareOp .NotIn) (rOwnIn C not sp E) := by
  intro pins s σ H x y v u Q I rx ry h
  obtain ⟨a, dx, fs, rfl, ha, q⟩ := h
  cases (show u = Value.ref a from ry)
  obtain ⟨mA, O, _⟩ := ins_get I.hok ha
  obtain ⟨od, J, _⟩ := O.look
  obtain ⟨m, hF⟩ := I.fr
  refine PySem.W.notIn_K hF I.ok.mod.kin J mm.at_ mm.fn ?_
  refine wpAny_mono (run_fn (us := [.ref a, v]) (vs := [.ref a, x]) (ds := []) (dvs := []) F hr hb .nil hx I (.cons rfl (.cons rx .nil)) q) (fun w s' z => ?_) fun _ _ x => x
  obtain ⟨z', H', I', rz, b, eb, qz⟩ := z
  subst eb
  cases (show w = Value.bool b from rz)
  exact wpAny_truthy_bool ⟨.bl (!b), H', I', rfl, qz⟩
theorem op_inOwn (mm : Meth X.K C "__contains__" g) (F : FnOk X.prog X.w X.K X.mg X.base CX k g fd ps sp) (hr : Room k X.A) (hb : Binds X.K fd ps []) (hx : Passes CX X E) : OpR X (compareOp .In) (rOwnIn C id sp E) := by
  intro pins s σ H x y v u Q I rx ry h
  obtain ⟨a, dx, fs, rfl, ha, q⟩ := h
  cases (show u = Value.ref a from ry)
  obtain ⟨mA, O, _⟩ := ins_get I.hok ha
  obtain ⟨od, J, _⟩ := O.look
  obtain ⟨m, hF⟩ := I.fr
  refine PySem.W.in_K hF I.ok.mod.kin J mm.at_ mm.fn ?_
  refine wpAny_mono (run_fn (us := [.ref a, v]) (vs := [.ref a, x]) (ds := []) (dvs := []) F hr hb .nil hx I (.cons rfl (.cons rx .nil)) q) (fun w s' z => ?_) fun _ _ x => x
  obtain ⟨z', H', I', rz, b, eb, qz⟩ := z
  subst eb
  cases (show w = Value.bool b from rz)
  exact wpAny_truthy_bool ⟨.bl b, H', I', rfl, qz⟩
end

/-! ### heaps -/
/-- all that was tracked stands, but what is at a -/
def SameX (a : Addr) (H H' : Hp) : Prop := ∀ b o, b ≠ a → H b = some o → H' b = some o
theorem SameX.refl {a : Addr} {H : Hp} : SameX a H H := fun _ _ _ h => h
theorem SameX.trans {a : Addr} {H H1 H2 : Hp} (x : SameX a H H1) (y : SameX a H1 H2) : SameX a H H2 := fun b o n h => y b o n (x b o n h)
theorem SameX.upd {a : Addr} {H : Hp} {o : HO} : SameX a H (L2.upd H a o) := fun b _ n h => by
  rw [upd_ne n]
  exact h
theorem SameX.upd' {a : Addr} {H H1 : Hp} {o : HO} (x : SameX a H H1) : SameX a H (L2.upd H1 a o) := x.trans .upd
theorem SameX.of {a : Addr} {H H1 : Hp} (x : Same H H1) : SameX a H H1 := fun b o _ h => x b o h
theorem Same.new {H : Hp} {p : Addr} {o : HO} (h : H p = none) : Same H (upd H p o) := fun b u e => by
  rw [upd_ne (ne_of_none e h)]
  exact e
theorem SqL.now {K : PySem.W.Frag} {H : Hp} {a : Addr} {xs : List V} (h : H a = some (.lst xs)) : SqL K H a xs := SqL.of h

/-! ### the purse -/
/-- a purse's rows -/
def pur (c : Addr) (p r n s : Int) : List V := [.ref c, .int p, .int r, .int n, .int s]
structure Purse (a c : Addr) (H : Hp) : Prop where
  ex : ∃ (cs : List Int) (p : Nat) (r n s : Int), H a = some (.lst (pur c p r n s)) ∧ H c = some (.lst (cs.map V.int)) ∧ (∀ x ∈ cs, 0 ≤ x) ∧ p ≤ cs.length ∧ cs.length ≤ 63 ∧ 0 ≤ r ∧ 0 ≤ s ∧ s < 2147483647
theorem pur_ne {H : Hp} {a c c' : Addr} {p r n s : Int} {cs : List Int} (h : H a = some (.lst (pur c p r n s))) (h' : H c' = some (.lst (cs.map V.int))) : c' ≠ a := ne_of h' h (by
  intro e
  injection e with e
  cases cs with
  | nil => cases e
  | cons x r => injection e with e1 _; cases e1)
theorem lk1 {m f : Str} {v : V} (h : (m == f) = false) : List.lookup m [(f, v)] = none := by
  simp only [List.lookup, h]
theorem bl_t {p : Prop} [Decidable p] (h : p) : V.bl (decide p) = V.bl true := congrArg V.bl (decide_eq_true h)
theorem bl_f {p : Prop} [Decidable p] (h : ¬ p) : V.bl (decide p) = V.bl false := congrArg V.bl (decide_eq_false h)
theorem bln_t {p : Prop} [Decidable p] (h : p) : V.bl (!decide p) = V.bl false := by rw [decide_eq_true h]; rfl
theorem bln_f {p : Prop} [Decidable p] (h : ¬ p) : V.bl (!decide p) = V.bl true := by rw [decide_eq_false h]; rfl
theorem int_ne {a b : Int} (h : ¬ a = b) : ¬ V.int a = V.int b := fun e => h (V.int.inj e)
theorem int_eq {a b : Int} (h : a = b) : V.int a = V.int b := congrArg V.int h

theorem Purse.there {a c : Addr} {H : Hp} (P : Purse a c H) : (∃ xs, H a = some (.lst xs)) ∧ ∃ ys, H c = some (.lst ys) := by
  obtain ⟨cs, p, r, n, s, h1, h2, _⟩ := P.ex
  exact ⟨⟨_, h1⟩, _, h2⟩
/-- a purse stands where both of its lists stand -/
theorem Purse.keep {a c : Addr} {H H' : Hp} (P : Purse a c H) (h : H' a = H a) (h' : H' c = H c) : Purse a c H' := by
  obtain ⟨cs, p, r, n, s, h1, h2, q⟩ := P.ex
  exact ⟨cs, p, r, n, s, h.trans h1, h'.trans h2, q⟩
theorem Purse.same {a c : Addr} {H H' : Hp} (P : Purse a c H) (s : Same H H') : Purse a c H' := by
  obtain ⟨cs, p, r, n, z, h1, h2, q⟩ := P.ex
  exact ⟨cs, p, r, n, z, s _ _ h1, s _ _ h2, q⟩
theorem Purse.on {a c b : Addr} {H H' : Hp} (P : Purse a c H) (s : SameX b H H') (na : a ≠ b) (nc : c ≠ b) : Purse a c H' := by
  obtain ⟨cs, p, r, n, z, h1, h2, q⟩ := P.ex
  exact ⟨cs, p, r, n, z, s _ _ na h1, s _ _ nc h2, q⟩
theorem small1000' {n : Nat} (h : n < 100000) : n < sizeLine := Nat.lt_of_lt_of_le h (by decide)
theorem sqT_sm {K : PySem.W.Frag} {H H' : Hp} {a : Addr} {xs : List V} (h : SqT K H a xs) (s : Same H H') : SqT K H' a xs := by
  rcases h with (h | ⟨o, h⟩) | h
  · exact .inl (.inl (s _ _ h))
  · exact .inl (.inr ⟨o, s _ _ h⟩)
  · exact .inr h
/-! ### several except clauses, each with or without a name -/
section
open PySem.Spec PyProof.Rows
variable {X : Cx}
/-- a clause: its class, the slot of its name, its suite -/
abbrev Cl := Value × Option Nat × (Addr → Value → Option Addr → TS)
def unN (D : Ends) (i : Nat) : Ends := { nx := fun σ H => D.nx (σ.set i none) H, rt := D.rt, bk := fun σ H => D.bk (σ.set i none) H, ct := fun σ H => D.ct (σ.set i none) H }
def clGo (D : Ends) (o : Option Nat) (t : TS) (a : Addr) (σ : L2.St) (H : Hp) : Prop := match o with
  | none => t D σ H
  | some i => t (unN D i) (σ.set i (some (.ref a))) H
def wCl (K : PySem.W.Frag) (Wout : WX) (D : Ends) : List Cl → WX
  | [] => Wout
  | (c, o, ts) :: r => fun cls d σ H => ∃ b, PySem.W.exmOne K cls c = some b ∧ (b = true → ∀ a, H a = none → clGo D o (ts a cls d) a σ H) ∧ (b = false → wCl K Wout D r cls d σ H)
inductive ClOk (X : Cx) : List ExceptHandler → List Cl → Prop
  | nil : ClOk X [] []
  | bare {x : Str} {c : Value} {ts : Addr → Value → Option Addr → TS} {b0 : Stmt} {su : List Stmt} {np ps : Pos} {hs : List ExceptHandler} {l : List Cl} (nm : Names X x c)
      (ok : ∀ (a : Addr) (oe : Obj) (cls : Value) (d : Option Addr) (pn : List (Addr × Obj)), Zc cls d oe → (∃ vs, oe.data = .fields vs) → PSs (X.suite a ((a, oe) :: pn)) (b0 :: su) (ts a cls d)) (rest : ClOk X hs l) :
      ClOk X (.ExceptHandler (some (.Name x np)) none (b0 :: su) ps :: hs) ((c, none, ts) :: l)
  | named {x n : Str} {i : Nat} {c : Value} {ts : Addr → Value → Option Addr → TS} {b0 : Stmt} {su : List Stmt} {np ps : Pos} {hs : List ExceptHandler} {l : List Cl} (nd : X.N.Nodup) (hi : X.N[i]? = some n) (lc : X.env.kindOf n = some .local) (nm : Names X x c)
      (ok : ∀ (a : Addr) (oe : Obj) (cls : Value) (d : Option Addr) (pn : List (Addr × Obj)), Zc cls d oe → (∃ vs, oe.data = .fields vs) → PSs (X.suite a ((a, oe) :: pn)) (b0 :: su) (ts a cls d)) (rest : ClOk X hs l) :
      ClOk X (.ExceptHandler (some (.Name x np)) (some n) (b0 :: su) ps :: hs) ((c, some i, ts) :: l)
theorem ps_try_cl {body : List Stmt} {h0 : ExceptHandler} {hs : List ExceptHandler} {l : List Cl} {pos : Pos} {tb : WX → TS} {Wout : WX} (st : X.stack = X.env :: X.outer) (fr : X.env.frame = some X.env.locals) (tk : Takes X Wout)
    (hb : ∀ (W : WX) (pn : List (Addr × Obj)) (xe : Value → Shared → Prop), Takes (X.tr pn xe) W → PassesOwn (model X.prog X.w) X.A X.env xe → PSs (X.tr pn xe) body (tb W))
    (hh : ClOk X (h0 :: hs) l) : PS X (.Try body (h0 :: hs) [] [] pos) (fun D σ H => tb (wCl X.K Wout D l) D σ H) := by
  refine ⟨fun pins s σ H D I h => ?_⟩
  have ok := I.ok
  have frs0 : X.A.frames = some (X.env :: X.outer) := by
    rw [ok.frames, st]
  refine wpAny_Try_except (wpAny_mono ((hb (wCl X.K Wout D l) (X.pn ++ pins) (fun e t1 => wpAny (model X.prog X.w) X.A (noteFrame e X.env) (fun _ t2 =>
    wpAny (model X.prog X.w) X.A (setFlight e none) (fun _ t3 => wpAny (model X.prog X.w) X.A (handleBy e X.env (h0 :: hs)) (SP X pins D) X.xe t3) X.xe t2) X.xe t1)
      (fun u s' xx => ?_) PassesOwn.looking).run [] s σ H D (I.toTry _) h) (fun f s1 hsp => ?_) (fun _ _ z => z))
  · obtain ⟨a, B, sI, pins', σ', H', cls, d, rfl, J', nb, up, sky, na, os, ag, w⟩ := xx
    have J := J'.ofTry ok
    have sky2 : Sky B (X.env :: X.outer) a (Zc cls d) X.env.locals s'.heap := by
      rw [← st]
      exact sky
    refine Sky.land Zc.steady frs0 fr sky2 fun g1 fl1 up1 => ?_
    have J1 : Inv X pins σ' H' { s' with heap := g1 } := J.landed nb fl1.1 (up.trans up1) os ag
    obtain ⟨o1, vs1, at1, z1, dt1⟩ := fl1.there
    have off : a ∉ frs (X.env :: X.outer) := fun hm => by
      obtain ⟨_, o', e', hnf⟩ := fl1.2.2.1.mem hm
      rw [at1] at e'
      cases e'
      exact hnf _ dt1
    have offL : a ≠ X.env.locals := fun z => off (List.mem_filterMap.mpr ⟨X.env, List.mem_cons_self, by rw [fr, z]⟩)
    have offF : a ∉ X.fs := fun hm => by
      obtain ⟨e, he, q⟩ := List.mem_filterMap.mp hm
      exact off (List.mem_filterMap.mpr ⟨e, List.mem_cons_of_mem _ he, q⟩)
    have S1 := J1.suite at1 dt1 na offL offF
    have LT : PySem.W.Looks (model X.prog X.w) g1 (typeOf (.ref a)) cls := fun A Q E s k q => wpAny_typeOf_ref (k _ _ at1) (by rw [z1.1]; exact q)
    have ask : ∀ {x : Str} {np : Pos} {c : Value}, Names X x c → ∀ {Q : Value → Shared → Prop} {E : Value → Shared → Prop}, Q c { s' with heap := g1 } →
        wpAny (model X.prog X.w) (X.A.mark (some (.ref a))) (eval (.Name x np) X.env) Q E { s' with heap := g1 } := fun {x np c} nm {Q E} q => by
      obtain ⟨hg, hdb, h1 | ⟨h1, h2, h3⟩⟩ := nm
      · exact ld_glob (X := X.suite a ((a, o1) :: (X.pn ++ pins))) S1 hg h1 q hdb
      · exact ld_blt (X := X.suite a ((a, o1) :: (X.pn ++ pins))) S1 hg h1 h2 q h3 hdb
    have go : ∀ {hs' : List ExceptHandler} {l' : List Cl}, ClOk X hs' l' → wCl X.K Wout D l' cls d σ' H' → wpAny (model X.prog X.w) X.A (handleBy (.ref a) X.env hs') (SP X pins D) X.xe { s' with heap := g1 } := by
      intro hs' l' hk
      induction hk with
      | nil =>
        intro w
        refine wpAny_handleBy_nil ?_
        obtain ⟨_, _, _, oe, vs, Tr, _, _, he, hz, hd, h1, _⟩ := id fl1
        unfold PySem.passOn
        refine wpAny_bind (wpAny_field he hd h1 ?_)
        rw [if_neg (show ¬ ((Value.ref Tr == Value.none) = true) from by simp)]
        have last : wpAny (model X.prog X.w) X.A (setFlight (.ref a) X.env.frame) (fun _ t => wpAny (model X.prog X.w) X.A (throw (.ref a) : Sem Flow) (SP X pins D) X.xe t) X.xe { s' with heap := g1 } := by
          rw [fr]
          refine HandSPX.setFlight_upZ fl1 fun g2 hh2 up2 => wpAny_throw (tk _ _ ?_)
          exact ⟨a, B, sI, pins, σ', H', cls, d, rfl, J, nb, (up.trans up1).trans up2, .inr (.inr (by rw [st]; exact hh2)), na, os, ag, w⟩
        first
          | exact wpAny_bind (wpAny_pure (wpAny_bind last))
          | exact wpAny_bind last
      | bare nm su rest ih =>
        intro w
        obtain ⟨b, hb1, yes, no⟩ := w
        have LM := PySem.W.exm_one (M := model X.prog X.w) J1.kIn LT hb1
        refine wpAny_handleBy_cons (codeAny_handlers_test (ask nm (LM.here ?_))) (fun q => by cases q)
        cases b with
        | false => exact ih (no rfl)
        | true =>
          refine codeAny_handlers_suite (HandSPX.lands_againZ fl1 fun g2 fl2 up2 => ?_)
          have J2 : Inv X pins σ' H' { s' with heap := g2 } := J.landed nb fl2.1 ((up.trans up1).trans up2) os ag
          obtain ⟨o2, vs2, at2, z2, dt2⟩ := fl2.there
          refine wpAny_mono ((su a o2 cls d (X.pn ++ pins) z2 ⟨_, dt2⟩).run [] _ _ H' _ (J2.suite at2 dt2 na offL offF) (yes rfl a na)) (fun f t hsp => ?_) (fun _ _ z => z.elim)
          cases f with
          | ret u =>
            obtain ⟨v6, σ6, H6, S6, r6, q6⟩ := hsp
            exact ⟨_, _, _, S6.unsuite ok, r6, q6⟩
          | next => exact let ⟨_, _, S6, q6⟩ := hsp; ⟨_, _, S6.unsuite ok, q6⟩
          | brk => exact let ⟨_, _, S6, q6⟩ := hsp; ⟨_, _, S6.unsuite ok, q6⟩
          | cont => exact let ⟨_, _, S6, q6⟩ := hsp; ⟨_, _, S6.unsuite ok, q6⟩
      | named nd hi lc nm su rest ih =>
        intro w
        obtain ⟨b, hb1, yes, no⟩ := w
        have LM := PySem.W.exm_one (M := model X.prog X.w) J1.kIn LT hb1
        refine wpAny_handleBy_cons (codeAny_handlers_test (ask nm (LM.here ?_))) (fun q => by cases q)
        cases b with
        | false => exact ih (no rfl)
        | true =>
          refine codeAny_handlers_suite_as (HandSPX.lands_againZ fl1 fun g2 fl2 up2 => ?_)
          have J2 : Inv X pins σ' H' { s' with heap := g2 } := J.landed nb fl2.1 ((up.trans up1).trans up2) os ag
          obtain ⟨o2, vs2, at2, z2, dt2⟩ := fl2.there
          refine store_ok (X := X.suite a ((a, o2) :: (X.pn ++ pins))) (v := .ref a) (J2.suite at2 dt2 na offL offF) nd hi (.inl lc) rfl (fun t S5 => ?_) (.inr lc)
          refine wpAny_mono ((su a o2 cls d (X.pn ++ pins) z2 ⟨_, dt2⟩).run [] t _ H' _ S5 (yes rfl a na)) (fun f t6 hsp => ?_) (fun _ _ z => z.elim)
          cases f with
          | next =>
            obtain ⟨σ6, H6, S6, q6⟩ := hsp
            exact gone_ok (S6.unsuite ok) nd hi lc fun s7 J7 => ⟨_, _, J7, q6⟩
          | brk =>
            obtain ⟨σ6, H6, S6, q6⟩ := hsp
            exact gone_ok (S6.unsuite ok) nd hi lc fun s7 J7 => ⟨_, _, J7, q6⟩
          | cont =>
            obtain ⟨σ6, H6, S6, q6⟩ := hsp
            exact gone_ok (S6.unsuite ok) nd hi lc fun s7 J7 => ⟨_, _, J7, q6⟩
          | ret u =>
            obtain ⟨v6, σ6, H6, S6, r6, q6⟩ := hsp
            exact gone_ok (S6.unsuite ok) nd hi lc fun s7 J7 => ⟨_, _, _, J7, r6, q6⟩
    exact go hh w
  · cases f with
    | ret u => exact let ⟨v, σ', H', J', r, q⟩ := hsp; ⟨v, σ', H', J'.ofTry ok, r, q⟩
    | next =>
      obtain ⟨σ', H', J', q⟩ := hsp
      exact wpAny_execs_nil ⟨σ', H', J'.ofTry ok, q⟩
    | brk => exact let ⟨σ', H', J', q⟩ := hsp; ⟨σ', H', J'.ofTry ok, q⟩
    | cont => exact let ⟨σ', H', J', q⟩ := hsp; ⟨σ', H', J'.ofTry ok, q⟩
end
/-! ### own exceptions -/
/-- what the written part says of an own exception class: the class at C, its __init__ at f -/
structure XCls (K : PySem.W.Frag) (mg : Str → Option Value) (nm : Str) (C f : Addr) : Prop where
  g : mg nm = some (.ref C)
  o : OexC K C
  i : PySem.W.findIn K (.ref C) "__init__" = some (some (.ref f))
  t : PySem.W.typeIn K (.ref f) = some (.type "function")
  x : XfC K C
  e : ExcC K C
theorem xcls_mk {K : PySem.W.Frag} {mg : Str → Option Value} {nm : Str} {C f : Addr} {n q : Str} {N : Addr} {bs bm : List Value} {sn : List Str} {sub : List Value} {ab : Bool} {col : _} {dd : Option Addr} {k0 k1 k2 k3 k5 : Option Value}
    (g : mg nm = some (.ref C)) (l : K.lookup C = some (excClassObj n q C N bs bm true sn sub ab col dd k0 k1 k2 k3 k5 "ValueError.__new__")) (bm' : PySem.HandSPX.refsVE bm = true) (sa : PySem.W.findIn K (.ref C) "__setattr__" = some (some (.builtin "object.__setattr__")))
    (ex : PySem.W.subIn K (.ref C) (.type "BaseException") = some true) (ty : PySem.W.typeIn K (.ref C) = some (.type "type")) (kp : PySem.W.keepIn K (.ref C) = true) (i : PySem.W.findIn K (.ref C) "__init__" = some (some (.ref f)))
    (t : PySem.W.typeIn K (.ref f) = some (.type "function")) (ga : PySem.W.findIn K (.ref C) "__getattribute__" = some (some (.builtin "BaseException.__getattribute__"))) (gg : PySem.W.findIn K (.ref C) "__getattr__" = some none) (hd : PySem.W.hasDictIn K C = true)
    (ha : PySem.W.findIn K (.ref C) "__class__" = some (some (.builtin "object.__class__"))) (hn : PySem.W.specialIn K (.builtin "object.__class__") "__get__" = some (some (.builtin "getset_descriptor.__get__")))
    (ht : PySem.W.takesIn K (.builtin "object.__class__") = some true) (hm : PySem.W.mroIn K C (.type "object") = some true) : XCls K mg nm C f :=
  ⟨g, ⟨⟨n, q, N, bs, bm, sn, sub, ab, col, dd, k0, k1, k2, k3, k5, l, bm'⟩, sa, ex, ty, kp⟩, i, t, ⟨ga, gg, ex, hd⟩, ⟨ga, gg, ex, hd, ha, hn, ht, hm⟩⟩
/-- __init__ of such a class: one field is stored -/
def sp_xinit (K : PySem.W.Frag) (f : Str) : Sp := fun vs H Q _ => ∃ (a C : Addr) (v : V), vs = [.ref a, v] ∧ OexC K C ∧ PySem.W.findIn K (.ref C) f = some none ∧ H a = some (exo a C none) ∧
  ∀ dx, H dx = none → dx ≠ a → Q .non (upd (upd H dx (exd dx [(f, v)])) a (exo a C (some dx)))
/-- raise C(v): what follows holds wherever the new error's dict is told, all else standing -/
theorem mkO_of {K : PySem.W.Frag} {f : Str} {C : Addr} {v : V} {H : Hp} {E : XK} (O : OexC K C) (hn : PySem.W.findIn K (.ref C) f = some none) (k : ∀ d H', H d = none → Same H H' → H' d = some (.xd [(f, v)]) → E (.ref C) (some d) H') :
    [v].length ≤ 1000 ∧ ∀ a, H a = none → sp_xinit K f (.ref a :: ([v] ++ [])) (upd H a (exo a C none))
      (fun w H2 => w = .non ∧ ∃ (d : Addr) (fs : List (Str × V)), H2 a = some (exo a C (some d)) ∧ H2 d = some (exd d fs) ∧ H d = none ∧ E (.ref C) (some d) (upd (del H2 a) d (.xd fs))) (fun _ _ _ => False) := by
  refine ⟨Nat.succ_le_succ (Nat.zero_le _), fun a ha => ⟨a, C, v, rfl, O, hn, upd_same, fun dx hdx ne => ⟨rfl, dx, [(f, v)], upd_same, ?_, ?_, ?_⟩⟩⟩
  · rw [upd_ne ne]
    exact upd_same
  · rw [upd_ne ne] at hdx
    exact hdx
  · have hdx0 : H dx = none := by
      rw [upd_ne ne] at hdx
      exact hdx
    refine k dx _ hdx0 (fun b o e => ?_) upd_same
    have nb : b ≠ dx := ne_of_none e hdx0
    have na : b ≠ a := ne_of_none e ha
    rw [upd_ne nb, del_ne na, upd_ne na, upd_ne nb, upd_ne na]
    exact e
section
variable {X : Cx} {a : Addr} {oe : Obj} {cls : Value} {d : Option Addr} {pn : List (Addr × Obj)} {n : Str}
/-- e.n in a suite, e of whichever class it is -/
def tXg (K : PySem.W.Frag) (a : Addr) (cls : Value) (d : Option Addr) (f : Str) (te : TE) : TE := fun σ H Q => te σ H fun x H1 => x = .ref a ∧ ∃ (C dd : Addr) (fs : List (Str × V)) (v : V), cls = .ref C ∧ XfC K C ∧ PySem.W.findIn K (.ref C) f = some none ∧ d = some dd ∧ H1 dd = some (.xd fs) ∧ fs.lookup f = some v ∧ Q v H1
theorem pe_xg {e : Expr} {te : TE} {pos : Pos} (hz : Zc cls d oe) (hf : ∃ vs, oe.data = .fields vs) (he : PE (X.suite a ((a, oe) :: pn)) e te)
    (hb : attributeBase e n X.env (eval e X.env) = eval e X.env := by rfl) : PE (X.suite a ((a, oe) :: pn)) (.Attribute e n pos) (tXg X.K a cls d n te) := by
  refine ⟨fun pins s σ H Q I h => ?_⟩
  refine attr_of hb (thn (he.run pins s σ H _ I h) fun u s1 hh => ?_)
  obtain ⟨x, H1, I1, rx, ex, C, dd, fs, v, ec, T, hno, ed, ea, l, q⟩ := hh
  subst ex ec ed
  obtain rfl : u = Value.ref a := rx
  obtain ⟨mA, hns, hr⟩ := (show ObjOk X.prog X.w H1 s1.heap dd (.xd fs) from I1.hok dd _ ea)
  obtain ⟨od, ho, hl⟩ := lookIn_ns hns
  obtain ⟨u, hu, ru⟩ := RelO.some_of (v := v) (o := mA n) (by rw [← l]; exact hr n)
  obtain ⟨vs, hv⟩ := hf
  have J : PySem.W.InstAt s1.heap a oe C (some od) := ⟨(I1.pin (a, oe) (List.mem_append_left _ List.mem_cons_self)).1, hz.1, by unfold PySem.W.notCls; rw [hv] <;> rfl, by rw [hz.2]; exact ho⟩
  exact PySem.HandSPX.exc_get I1.kIn J T.ga T.gg T.exC (PySem.W.findObj_own T.hdC hno rfl (by rw [hl, hu])) (handed_of ru) ⟨v, H1, I1.tok _, ru, q⟩
/-- isinstance(e, c) in a suite -/
def rIsX (K : PySem.W.Frag) (a : Addr) (cls : Value) (d : Option Addr) : List V → Hp → VK → Prop := fun xs H Q => ∃ (c : V) (cv : Value) (b : Bool) (D dd : Addr) (fs : List (Str × V)), xs = [.ref a, c] ∧ (∀ u, RelV c u → u = cv) ∧ cls = .ref D ∧ ExcC K D ∧ d = some dd ∧ H dd = some (.xd fs) ∧
  PySem.W.kitOne K (.ref D) cv = some b ∧ Q (.bl b) H
theorem call_isX (hz : Zc cls d oe) (hf : ∃ vs, oe.data = .fields vs) : CallR (X.suite a ((a, oe) :: pn)) (.builtin "isinstance") (rIsX X.K a cls d) := by
  intro pins s σ H xs us Q I r h
  obtain ⟨c, cv, b, D, dd, fs, rfl, hcv, ec, C, ed, ea, e, q⟩ := h
  subst ec ed
  obtain ⟨u1, u2, rfl, r1, r2⟩ := vals2 r
  cases (show u1 = Value.ref a from r1)
  cases (hcv _ r2)
  obtain ⟨mA, hns, hr⟩ := (show ObjOk X.prog X.w H s.heap dd (.xd fs) from I.hok dd _ ea)
  obtain ⟨od, ho, hl⟩ := lookIn_ns hns
  obtain ⟨vs, hv⟩ := hf
  have J : PySem.W.InstAt s.heap a oe D (some od) := ⟨(I.pin (a, oe) (List.mem_append_left _ List.mem_cons_self)).1, hz.1, by unfold PySem.W.notCls; rw [hv] <;> rfl, by rw [hz.2]; exact ho⟩
  obtain ⟨cd, hc, _⟩ := PySem.W.any_some C.hd
  exact PySem.W.kia_one (PySem.W.kitx_exc (by rw [hc]; rfl) C.hg C.hk C.hs C.ha C.hn C.ht C.hm) I.kIn J e (fun z => nomatch z) fun tk => ⟨.bl b, H, I.tok tk, rfl, q⟩
end
section
variable {X : Cx} {CX' : CXT} {k : Nat} {f C : Addr} {fd : FuncData} {ps : List Str} {sp : Sp} {E : St → XK} {x m : Str} {p pos apos : Pos} {e o : Expr} {es : List Expr} {ta : TE} {t : TA}
/-- o.m(..), what it lets out wished for at the caller's slots -/
def tMethX (C : Addr) (m : Str) (sp : Sp) (E : St → XK) (ta : TE) (t : TA) : TE := fun σ H Q => ta σ H fun x H1 => ∃ a dx fs, x = .ref a ∧ H1 a = some (.ins C dx fs) ∧ fs.lookup m = none ∧ t σ H1 fun vs H2 => sp (x :: vs) H2 Q (E σ)
theorem pe_methX {pl : Sem Bool} (he : PE X o ta) (c : Cls X.K C) (hm : Meth X.K C m f) (F : FnOk X.prog X.w X.K X.mg X.base CX' k f fd ps sp) (hr : Room k X.A) (hb : Binds X.K fd ps []) (hx : ∀ σ, PassesAt CX' X σ (E σ)) (ha : PA X (e :: es) t)
    (hst : starEach (e :: es) X.env = (false, eval e X.env) :: starEach es X.env := by rfl) (hpl : (PySem.backTo pos (starEach es X.env)).any (·.1) = false := by rfl)
    (ht : eval (.Call (.Attribute o m apos) (e :: es) [] pos) X.env = (eval o X.env >>= fun ov => standAt apos.atName >>= fun _ => holding [ov] (getMethod ov m pl) >>= fun fr => callWith pos fr.1 fr.2 (PySem.backTo pos (starEach (e :: es) X.env)) (backToKw pos (keywordEach [] X.env))) := by rfl) :
    PE X (.Call (.Attribute o m apos) (e :: es) [] pos) (tMethX C m sp E ta t) := by
  refine ⟨fun pins s σ H Q I h => ?_⟩
  refine PySem.W.methodCall_KW (pl := pl) (thn (he.run pins s σ H _ I h) fun u s1 ⟨x, H1, I1, rx, a, dx, fs, ex, ea, l, q⟩ => ?_) ht
  subst ex
  obtain rfl : u = Value.ref a := rx
  refine getmeth_ok I1 ea c hm l ?_
  refine PySem.W.callWith_K (h₀ := X.base) I1.ok.mod.kin hm.kp (thn (ha.run pos pins s1 σ H1 _ I1 q) fun us s2 ⟨vs, H2, I2, r, q2⟩ => ⟨I2.kIn, ?_⟩) hst hpl
  exact run_fnS (us := .ref a :: us) (vs := .ref a :: vs) F hr hb (hx σ) I2 (.cons rfl r) q2
end
/-- a class that is only named -/
structure GCls (mg : Str → Option Value) (nm : Str) (C : Addr) : Prop where
  g : mg nm = some (.ref C)
/-- what a callee lets out, whatever the slots hold -/
def anyW (n : Nat) (W : WX) : XK := fun cls d H => ∀ σ : L2.St, σ.length = n → W cls d σ H
theorem passes_any {X : Cx} {W : WX} (n : Nat) (tk : Takes X W) (hn : X.N.length = n := by rfl) : Passes (L2.CX X.prog X.w) X (anyW n W) :=
  fun _ σ _ _ e s' I c => tk e s' (XE.of_call I (fun cls d H' h => h σ (I.len.trans hn)) c)
/-! ### defs that ask for a text of data: nothing is being shown meanwhile -/
section
open PySem.Spec PyProof.Rows
section
variable {P : Program} {w : World} {K : PySem.W.Frag} {mg : Str → Option Value} {base : Heap}
/-- a def's promise, wanted only while no repr is under way -/
structure FnStill (P : Program) (w : World) (K : PySem.W.Frag) (mg : Str → Option Value) (base : Heap) (k : Nat) (f : Addr) (fd : FuncData) (ps : List Str) (sp : Sp) : Prop where
  count : ∀ vs H Q E, sp vs H Q E → vs.length = ps.length
  go : ∀ (A : Around) (outer : List Env) (s : Shared) (H : Hp) (args : Args) (us : List Value) (vs : List V) (Q : VK) (E : XK), A.guards = some [] → Room k A → Env0 P w K mg base A outer s H →
    BindsTo s fd args (ps.zip us) → Vals vs us → sp vs H Q E → codeAny (model P w) A (.call (.ref f) args) (CR CX0 outer P w H s Q E) s
theorem still_fn {x qual : Str} {st : Stmt} {f : Addr} {fd : FuncData} {N ps : List Str} {k : Nat} {sp : Sp} (F : Fun K x qual st f fd) (S : FnScope N ps (defScope st)) (cnt : ∀ vs H Q E, sp vs H Q E → vs.length = ps.length)
    (bod : ∀ (cdv : Value) (A : Around) (outer : List Env) (s : Shared) (H : Hp) (vs : List V) (Q : VK) (E : XK), A.guards = some [] → Room k (A.deeper (envOfC qual (defScope st) s.heap.objs.size f cdv)) → sp vs H Q E →
      ∃ t, PSs (cxOf CX0 P w K mg base N qual (defScope st) f cdv A outer s H E).nox (defBody st) t ∧ t { nx := fun _ H' => Q .non H', rt := Q } (start N vs) H) : FnStill P w K mg base (k + 1) f fd ps sp := by
  obtain ⟨oc, od, kV, doc, pm, an, cdv, ct, osl, rfl, lk, hcd⟩ := F.ex
  refine ⟨cnt, fun A outer s H args us vs Q E still room e0 bnd rv want => ?_⟩
  have kin : K.In s.heap := e0.mod.kin.keeps fun b o hb => (e0.bs b o hb).1
  have limit : s.heap.NoLimit := e0.mod.nolimit.keeps fun b o hb => (e0.bs b o hb).1
  have param : ∀ y ∈ ps.zip us, (defScope st).names.lookup y.1 = some .local ∨ ((defScope st).names.lookup y.1 = some .cell ∧ ((cellsFrom (s.heap.objs.size + 1) (defScope st).names []).lookup y.1).isSome = true) := by
    rintro ⟨n, v⟩ hy
    refine (S.par n (List.of_mem_zip hy).1).imp id fun c => ⟨c, PySem.W.cellsFrom_some _ _ _ (.inl c)⟩
  refine codeAny_call_function room.depth (kin _ _ lk) rfl S.co S.gen rfl (PySem.W.codeRec_of kin hcd) (bnd _ _ _ _ (wpAny_newFunctionEnv_cells S.kind param fun env he s1 x => ?_))
  subst he
  refine ⟨limit.keeps x.toInCall.keep, codeAny_func ?_⟩
  obtain ⟨t, ht, hq⟩ := bod cdv A outer s H vs Q E still (room.deeper _) want
  refine wpAny_mono (ht.nox.run [] s1 (start N vs) H _ (inv_start S room.hd e0 (cnt _ _ _ _ want) rv x) hq) (fun fl s' hs => ?_) fun _ _ z => z
  cases fl with
  | ret u => exact let ⟨v, _, H', J, rr, q⟩ := hs; ⟨v, H', J.os, J.bare, J.base, J.hok, rr, q⟩
  | next => exact let ⟨_, H', J, q⟩ := hs; ⟨V.non, H', J.os, J.bare, J.base, J.hok, rfl, q⟩
  | brk => exact let ⟨_, _, _, q⟩ := hs; False.elim q
  | cont => exact let ⟨_, _, _, q⟩ := hs; False.elim q
end
section
variable {X : Cx} {k : Nat} {f : Addr} {fd : FuncData} {ps : List Str} {sp : Sp} {dvs : List V} {ds : List Value} {E : XK} {x : Str} {p pos : Pos} {e : Expr} {es : List Expr} {t : TA}
/-- f(e, ..) of such a def -/
theorem pe_still (still : X.A.guards = some []) (F : FnStill X.prog X.w X.K X.mg X.base k f fd ps sp) (hr : Room k X.A) (hg : Gl X x) (hm : X.mg x = some (.ref f)) (hk : PySem.W.keepIn X.K (.ref f) = true) (hb : Binds X.K fd ps ds) (hd : Vals dvs ds) (hx : Passes CX0 X E)
    (ha : PA X (e :: es) t) (hdb : (x == ("__debug__" : Str)) = false := by decide) (he : starEach (e :: es) X.env = (false, eval e X.env) :: starEach es X.env := by rfl) (hpl : (backTo pos (starEach es X.env)).any (·.1) = false := by rfl) :
    PE X (.Call (.Name x p) (e :: es) [] pos) (tCall sp dvs E t) := by
  refine ⟨fun pins s σ H Q I h => wpAny_Call_Name_kw (ld_glob I hg hm ?_ hdb)⟩
  refine PySem.W.callWith_K (h₀ := X.base) I.ok.mod.kin hk (thn (ha.run pos pins s σ H _ I h) fun us s1 ⟨vs, H1, I1, rv, q⟩ => ⟨I1.kIn, ?_⟩) he hpl
  have both : Vals (vs ++ dvs) (us ++ ds) := rv.append hd
  have many : (us ++ ds).length = ps.length := both.length ▸ F.count _ _ _ _ q
  refine wpAny_call (codeAny_mono (F.go X.A X.stack s1 H1 ⟨us, []⟩ (us ++ ds) (vs ++ dvs) Q E still hr I1.env0 (hb s1 us I1.kIn many) both q) fun r s' hq => ?_)
  rcases r with er | fl
  · exact hx pins σ H1 s1 _ s' I1 hq
  · cases fl with
    | ret u => exact I1.after hq
    | next => exact hq.elim
    | brk => exact hq.elim
    | cont => exact hq.elim
end
/-- the law's def from the claim's caller: nothing is being shown there -/
theorem still_core {P : Program} {w : World} {K : PySem.W.Frag} {mg mb : Str → Option Value} {k : Nat} {fa a : Addr} {fd : FuncData} {x : Str} {sp : Sp} {s₁ : Shared} {vs : List Value} {H : Hp}
    (KX : K.In s₁.heap) (hns : s₁.heap.Ns mainGlobals mg) (hb : s₁.heap.Ns builtinsNs mb) (hbb : ∀ x : Str, x ≠ "__name__" → mb x = bootBuiltins x) (hlim : s₁.heap.NoLimit) (hg : s₁.gens = #[]) (ha : s₁.heap.get? a = some { cls := .type "list", data := .seq vs.toArray }) (hr : Room k callerA)
    (F : ∀ base : Heap, K.In base → base.Ns mainGlobals mg → FnStill P w K mg base k fa fd [x] sp) (hbind : ∀ (s : Shared) (u : Value), BindsTo s fd ⟨[u], []⟩ [(x, u)]) (hO : Only H) (hok : HOk P w H s₁.heap) (hA : ∀ b, b ≠ a → H b = none) (hK : H a ≠ none → K.lookup a = none)
    (hsp : sp [.ref a] H (fun v _ => v = .bl true) fun _ _ _ => False) (hCX : ∀ e s', CX0 [] H s₁ (fun _ _ _ => False) e s' → False) :
    codeAny (model P w) callerA (.call (.ref fa) ⟨[.ref a], []⟩) (fun r s' => r = .ok (.ret (.bool true)) ∧ OldK s₁.heap s'.heap ∧ s'.os = s₁.os ∧ AllBare s'.gens) s₁ := by
  have free : ∀ {b : Addr} {o : Obj}, s₁.heap.get? b = some o → (b = a → H a = none) → (hidT s₁.heap H).get? b = some o := fun {b o} hb z => hidT_get hb (by
    by_cases q : b = a
    · rw [q]
      exact z q
    · exact hA b q)
  have nm : ∀ {b : Addr} {m : Str → Option Value}, s₁.heap.Ns b m → (hidT s₁.heap H).Ns b m := by
    rintro b m ⟨o, es, ep, hb, d, rr⟩
    refine ⟨o, es, ep, free hb fun q => ?_, d, rr⟩
    subst q
    rw [ha] at hb
    cases hb
    cases (show Data.seq vs.toArray _ = Data.dict es ep from d)
  have kb : K.In (hidT s₁.heap H) := fun b o hb => free (KX b o hb) fun q => by
    subst q
    refine Classical.byContradiction fun z => ?_
    rw [hK z] at hb
    cases hb
  obtain ⟨mc, c1, c2⟩ := hlim
  have e0 : Env0 P w K mg (hidT s₁.heap H) callerA [] s₁ H := ⟨rfl, ⟨kb, nm hns, ⟨mb, nm hb, hbb⟩, ⟨mc, nm c1, c2⟩⟩, fun b o hb => of_hidT hb, Nat.le_of_eq (hidT_size _ _), trivial, fun b z => (List.not_mem_nil z).elim, hok, .of_eq hg⟩
  refine codeAny_mono ((F _ kb (nm hns)).go callerA [] s₁ H ⟨[.ref a], []⟩ [.ref a] [.ref a] _ _ rfl hr e0 (hbind s₁ (.ref a)) (.cons rfl .nil) hsp) fun r s' h => ?_
  rcases r with er | fl
  · exact (hCX er s' h).elim
  cases fl with
  | next => exact h.elim
  | brk => exact h.elim
  | cont => exact h.elim
  | ret u =>
    obtain ⟨v, H', os, bare, un, hok', rr, q⟩ := h
    obtain rfl : v = .bl true := q
    cases (show u = Value.bool true from rr)
    refine ⟨rfl, OldK.of_keep fun b o hb => ?_, os, bare⟩
    rcases hO b with z | ⟨ob, xs, z⟩
    · exact un.keep b o hb z (fun y => (List.not_mem_nil y).elim) List.not_mem_nil
    · have was := (hok b _ z).1
      rw [hb] at was
      cases was
      exact (hok' b _ (un.frzs b _ _ z)).1
theorem still_law {P : Program} {w : World} {K : PySem.W.Frag} {mg mb : Str → Option Value} {k : Nat} {fa a : Addr} {fd : FuncData} {x : Str} {sp : Sp} {s₁ : Shared} {vs : List Value} {ns : List Int}
    (KX : K.In s₁.heap) (hns : s₁.heap.Ns mainGlobals mg) (hb : s₁.heap.Ns builtinsNs mb) (hbb : ∀ x : Str, x ≠ "__name__" → mb x = bootBuiltins x) (hlim : s₁.heap.NoLimit) (hg : s₁.gens = #[]) (ha : s₁.heap.get? a = some { cls := .type "list", data := .seq vs.toArray }) (hi : IntsAre vs ns) (hl : ns.length ≤ sizeLine) (hr : Room k callerA)
    (F : ∀ base : Heap, K.In base → base.Ns mainGlobals mg → FnStill P w K mg base k fa fd [x] sp) (hbind : ∀ (s : Shared) (u : Value), BindsTo s fd ⟨[u], []⟩ [(x, u)])
    (hsp : ∀ H : Hp, Only H → SqL K H a (ns.map V.int) → sp [.ref a] H (fun v _ => v = .bl true) fun _ _ _ => False) (hCX : ∀ H e s', CX0 [] H s₁ (fun _ _ _ => False) e s' → False) :
    codeAny (model P w) callerA (.call (.ref fa) ⟨[.ref a], []⟩) (fun r s' => r = .ok (.ret (.bool true)) ∧ OldK s₁.heap s'.heap ∧ s'.os = s₁.os ∧ AllBare s'.gens) s₁ := by
  rcases hk : K.lookup a with _ | o
  · have now : ∀ b u, (fun b => if b = a then some (HO.frz { cls := .type "list", data := .seq vs.toArray } (.lst (ns.map V.int))) else none) b = some u → b = a ∧ u = HO.frz { cls := .type "list", data := .seq vs.toArray } (.lst (ns.map V.int)) := fun b u z => by
      dsimp only at z
      split at z
      · rename_i q
        exact ⟨q, (Option.some.inj z).symm⟩
      · cases z
    refine still_core (H := fun b => if b = a then some (.frz { cls := .type "list", data := .seq vs.toArray } (.lst (ns.map V.int))) else none) KX hns hb hbb hlim hg ha hr F hbind (fun b => ?_) (fun b u z => ?_) (fun b z => if_neg z) (fun _ => hk) (hsp _ (fun b => ?_) (.inl (.inr ⟨_, if_pos rfl⟩))) (hCX _)
    · exact (Classical.em (b = a)).elim (fun q => .inr ⟨_, _, if_pos q⟩) fun q => .inl (if_neg q)
    · obtain ⟨rfl, rfl⟩ := now b u z
      exact ⟨ha, by rw [List.length_map]; exact hl, vs, _, vals_ints hi, ha⟩
    · exact (Classical.em (b = a)).elim (fun q => .inr ⟨_, _, if_pos q⟩) fun q => .inl (if_neg q)
  · have at_ := KX a o hk
    rw [ha] at at_
    cases at_
    refine still_core (H := fun _ => none) KX hns hb hbb hlim hg ha hr F hbind (fun _ => .inl rfl) (fun b u z => nomatch z) (fun _ _ => rfl) (fun z => (z rfl).elim) (hsp _ (fun _ => .inl rfl) (.inr ⟨_, vs.toArray, _, hk, rfl, rfl, rfl, ?_, ?_⟩)) (hCX _)
    · rw [List.size_toArray, hi.length]
      exact hl
    · simpa using vals_ints hi
theorem still_walk {l : PySem.W.OpenLaw} {n k : Nat} {q : Program} {loose : List Str} {XP : (Str → Option Value) → Heap → Prop} {YP : World → Heap → Prop} {d : DefRec} {K : Params → PySem.W.Frag} {sp : World → Sp} {x : Str}
    (hn : l.most = some n) (hn2 : n ≤ sizeLine) (hdf : d.params.defaults = []) (hr : Room k callerA) (hY : ∀ (w : World) (h : Heap), YP w h → (K w.params).In h)
    (F : ∀ (w : World) (mg : Str → Option Value) (fa : Addr) (h : Heap), (K w.params).In h → h.Ns mainGlobals mg → mg d.name = some (.ref fa) → ∃ fd : FuncData, (∀ (s : Shared) (u : Value), BindsTo s fd ⟨[u], []⟩ [(x, u)]) ∧
      ∀ base : Heap, (K w.params).In base → base.Ns mainGlobals mg → FnStill l.prog w (K w.params) mg base k fa fd [x] (sp w))
    (hsp : ∀ (w : World) (H : Hp) (a : Addr) (ns : List Int), ns.length ≤ n → Only H → SqL (K w.params) H a (ns.map V.int) → sp w [.ref a] H (fun v _ => v = .bl true) fun _ _ _ => False)
    (hCX : ∀ (H : Hp) (s : Shared) (e : Value) (s' : Shared), CX0 [] H s (fun _ _ _ => False) e s' → False) : PySem.W.WalkO q loose XP YP l.row.toRowW d [] (fun f vs => PySem.call f vs) := by
  refine Att.attach_call hn hdf fun w s₀ s₁ mg mb fa o pm cd doc a vs ns G Y ho hd hcd hmg hobj hints many gs => ?_
  obtain ⟨fd, bnd, hF⟩ := F w mg fa _ (hY w _ Y) G.T.g hmg
  exact still_law (hY w _ Y) G.T.g G.T.b G.T.builtins G.T.nolimit gs hobj hints (Nat.le_trans many hn2) hr hF bnd (fun H hO hS => hsp w H a ns many hO hS) fun H e s' => hCX H s₁ e s'
/-! ### the text of data -/
section
variable {X : Cx}
/-- repr(x) of data: its own text, nothing changed -/
def rRepr (K : PySem.W.Frag) : List V → Hp → VK → Prop := fun xs H Q => ∃ (a : Addr) (d : PyData), xs = [.ref a] ∧ Dp K H (.ref a) d ∧ d.showable = true ∧ d.hasDict = false ∧ d.depth ≤ 100 ∧ d.shown.length ≤ sizeLine ∧ Q (.str d.shown) H
theorem call_repr (still : X.A.guards = some []) (un : X.A.units + 150 < cLine) : CallR X (.builtin "repr") (rRepr X.K) := by
  intro pins s σ H xs us Q I rv h
  obtain ⟨a, d, rfl, hd, sh, nd, dp, sz, q⟩ := h
  rcases rv with _ | ⟨r1, r2⟩
  cases r2
  cases r1
  obtain ⟨as, hr⟩ := Dp.reads I d _ _ hd rfl
  exact repr_of_reads' hr sh (fun z => by rw [nd] at z; cases z) still (by omega) (fun _ _ z => z) (fun h' u tk keep => ⟨.str d.shown, H, I.kept keep, ⟨u, rfl⟩, q⟩) sz
end
end
/-! ### defs with a star parameter -/
section
open PySem.Spec PyProof.Rows
structure StarB (fd : FuncData) (ps : List Str) (pv : Str) : Prop where
  b : ∀ us rest : List Value, us.length = ps.length → bindArgs fd ⟨us ++ rest, []⟩ = (newTuple rest >>= fun t => pure (ps.zip us ++ [(pv, t)]))
def starSp (n : Nat) (sp : Sp) : Sp := fun vs H Q E => ∃ ws rest, vs = ws ++ rest ∧ ws.length = n ∧ rest.length ≤ sizeLine ∧ ∀ p, H p = none → sp (ws ++ [V.ref p]) (upd H p (.tup rest)) Q E
variable {P : Program} {w : World} {K : PySem.W.Frag} {mg : Str → Option Value} {base : Heap} {x qual : Str} {st : Stmt} {f : Addr} {fd : FuncData} {N ps : List Str} {pv : Str} {k : Nat} {sp : Sp}
theorem okStar (F : Fun K x qual st f fd) (B : StarB fd ps pv) (S : FnScope N (ps ++ [pv]) (defScope st))
    (hbody : ∀ (cdv : Value) (A : Around) (outer : List Env) (s : Shared) (H : Hp) (vs : List V) (Q : VK) (E : XK), Room k (A.deeper (envOfC qual (defScope st) s.heap.objs.size f cdv)) → sp vs H Q E →
      ∃ t, PSs (cxOf CX0 P w K mg base N qual (defScope st) f cdv A outer s H E).nox (defBody st) t ∧ t { nx := fun _ H' => Q .non H', rt := Q } (start N vs) H) : FnR P w K mg base CX0 (k + 1) f (starSp ps.length sp) := by
  obtain ⟨oc, od, kV, doc, pm, an, cdv, ct, osl, rfl, lk, hcd⟩ := F.ex
  refine StX.fn_star lk hcd S StX.cxUp_none B.b fun A outer s H vs Q E hr hsp => ?_
  obtain ⟨t, h, q⟩ := hbody cdv A outer s H vs Q E hr hsp
  exact ⟨t, h.nox, q⟩
theorem okStarX (F : Fun K x qual st f fd) (B : StarB fd ps pv) (S : FnScope N (ps ++ [pv]) (defScope st))
    (hbody : ∀ (cdv : Value) (A : Around) (outer : List Env) (s : Shared) (H : Hp) (vs : List V) (Q : VK) (E : XK), Room k (A.deeper (envOfC qual (defScope st) s.heap.objs.size f cdv)) → sp vs H Q E →
      ∃ t, PSs (cxOf (L2.CX P w) P w K mg base N qual (defScope st) f cdv A outer s H E) (defBody st) t ∧ t { nx := fun _ H' => Q .non H', rt := Q } (start N vs) H) : FnR P w K mg base (L2.CX P w) (k + 1) f (starSp ps.length sp) := by
  obtain ⟨oc, od, kV, doc, pm, an, cdv, ct, osl, rfl, lk, hcd⟩ := F.ex
  exact StX.fn_star lk hcd S StX.cxUp B.b fun A outer s H vs Q E hr hsp => hbody cdv A outer s H vs Q E hr hsp
end
section
variable {X : Cx} {CX : CXT} {k : Nat} {f C : Addr} {sp : Sp} {E : XK} {x : Str} {p pos : Pos}
/-- C(), C's __init__ with a star parameter -/
theorem pe_makeR0 (M : Mk X.K C f) (F : FnR X.prog X.w X.K X.mg X.base CX k f sp) (hr : Room (k + 1) X.A) (hg : Gl X x) (hm : X.mg x = some (.ref C)) (hx : Passes CX X E) (hdb : (x == ("__debug__" : Str)) = false := by decide) :
    PE X (.Call (.Name x p) [] [] pos) (StX.tMakeR C sp E tNil) := by
  refine ⟨fun pins s σ H Q I h => ?_⟩
  refine wpAny_Call_Name_kw (ld_glob I hg hm ?_ hdb)
  exact PySem.W.callWith_K0 I.kIn M.kp (StX.run_makeR (us := []) M F hr hx I .nil h)
theorem x_makeR {σ : L2.St} {H : Hp} {Q : VK} {t : TA} (q : t σ H fun vs H1 => ∀ x dx, H1 x = none → H1 dx = none → dx ≠ x → sp (.ref x :: vs) (upd (upd H1 dx (.own x)) x (.ins C dx [])) (fun v H2 => v = .non ∧ Q (.ref x) H2) E) : StX.tMakeR C sp E t σ H Q := q
theorem x_star {K : PySem.W.Frag} {σ : L2.St} {H : Hp} {te : TE} {t : TA} {QL : List V → Hp → Prop} (q : te σ H fun x H1 => ∃ p xs, x = V.ref p ∧ (SqT K H1 p xs ∨ SqL K H1 p xs) ∧ t σ H1 fun ys H2 => QL (xs ++ ys) H2) : StX.tStar K te t σ H QL := q
end
/-! ### len of an object with __len__ -/
section
open PySem.Spec PyProof.Rows
variable {X : Cx} {CX : CXT} {k : Nat} {C g : Addr} {fd : FuncData} {ps : List Str} {sp : Sp} {E : XK}
def rLenOwn (C : Addr) (sp : Sp) (E : XK) : List V → Hp → VK → Prop := fun xs H Q => ∃ a dx fs, xs = [.ref a] ∧ H a = some (.ins C dx fs) ∧ sp [.ref a] H (fun v H' => ∃ n : Int, v = .int n ∧ 0 ≤ n ∧ n < 2 ^ 63 ∧ Q (.int n) H') E
theorem call_lenOwn (mm : Meth X.K C "__len__" g) (F : FnOk X.prog X.w X.K X.mg X.base CX k g fd ps sp) (hr : Room (k + 1) X.A) (hb : Binds X.K fd ps []) (hx : Passes CX X E) : CallR X (.builtin "len") (rLenOwn C sp E) := by
  intro pins s σ H xs us Q I rx h
  obtain ⟨a, dx, fs, rfl, ha, q⟩ := h
  obtain ⟨u, rfl, ru⟩ := vals1 rx
  cases (show u = Value.ref a from ru)
  obtain ⟨mA, O, _⟩ := ins_get I.hok ha
  obtain ⟨od, J, _⟩ := O.look
  refine PySem.Calls.call_function_entry PySem.kind_len PySem.plain_len PySem.entry_len (PySem.args_len1 _) ?_
  unfold PySem.Builtin.«len»
  refine wpAny_bind (m := PySem.oneArg "len" _) (wpAny_pure ?_)
  refine wpAny_bind (m := PySem.callSpecial? (.ref a) (Str.ofString "__len__")) (PySem.W.special_fn I.kIn J mm.at_ (beq_iff_eq.mp mm.fn) ?_)
  have r2 : Vals [V.ref a] [Value.ref a] := .cons rfl .nil
  have hl : ([Value.ref a] : List Value).length = ps.length := by rw [← r2.length]; exact F.len _ _ _ _ q
  have hbb := hb s [Value.ref a] I.kIn (by rw [List.append_nil]; exact hl)
  rw [List.append_nil] at hbb
  refine wpAny_call (codeAny_mono (F.run X.A.in1 X.stack s H ⟨[Value.ref a], []⟩ [Value.ref a] [V.ref a] _ E hr.in1 I.env0.in1 hbb r2 q) fun r s' hq => ?_)
  cases r with
  | error e => exact hx pins σ H s e s' I hq
  | ok fl =>
    cases fl with
    | next => exact False.elim hq
    | brk => exact False.elim hq
    | cont => exact False.elim hq
    | ret u =>
      obtain ⟨v, H', I', rv, n, rfl, n0, n1, qn⟩ := I.after hq
      obtain ⟨t, rfl⟩ := rv
      refine wpAny_bind (wpAny_holding (wpAny_pure ?_))
      refine wpAny_bind (wpAny_letGo ?_)
      show wpAny _ _ (if n < 0 then _ else _) _ _ _
      rw [if_neg (by omega)]
      show wpAny _ _ (if n ≥ 2 ^ 63 then _ else _) _ _ _
      rw [if_neg (by omega)]
      exact wpAny_bind (wpAny_mkInt (wpAny_pure ⟨_, rfl, .int n, H', I'.tok _, ⟨_, rfl⟩, qn⟩))
end
/-! ### C(..) with a star parameter in a try -/
section
open PySem.Spec PyProof.Rows
variable {X : Cx} {CX' : CXT} {k : Nat} {f C : Addr} {sp : Sp} {E : L2.St → XK} {x : Str} {e : Expr} {es : List Expr} {t : TA} {p pos : Pos}
/-- C(e, ..), what it lets out wished for at the caller's slots -/
def tMakeRX (C : Addr) (sp : Sp) (E : L2.St → XK) (t : TA) : TE := fun σ H Q => t σ H fun vs H1 => ∀ x dx, H1 x = none → H1 dx = none → dx ≠ x → sp (.ref x :: vs) (upd (upd H1 dx (.own x)) x (.ins C dx [])) (fun v H2 => v = .non ∧ Q (.ref x) H2) (E σ)
theorem pe_makeRX (M : Mk X.K C f) (F : FnR X.prog X.w X.K X.mg X.base CX' k f sp) (hr : Room (k + 1) X.A) (hg : Gl X x) (hm : X.mg x = some (.ref C)) (hx : ∀ σ, PassesAt CX' X σ (E σ)) (ha : PA X (e :: es) t) (hdb : (x == ("__debug__" : Str)) = false := by decide)
    (he : starEach (e :: es) X.env = (false, eval e X.env) :: starEach es X.env := by rfl) (hpl : (PySem.backTo pos (starEach es X.env)).any (·.1) = false := by rfl) : PE X (.Call (.Name x p) (e :: es) [] pos) (tMakeRX C sp E t) := by
  refine ⟨fun pins s σ H Q I h => wpAny_Call_Name_kw (ld_glob I hg hm ?_ hdb)⟩
  refine PySem.W.callWith_K (h₀ := X.base) I.ok.mod.kin M.kp (thn (ha.run pos pins s σ H _ I h) fun us s1 ⟨vs, H1, I1, r, q⟩ => ⟨I1.kIn, ?_⟩) he hpl
  have q1 := q (s1.heap.objs.size + 1) s1.heap.objs.size (I1.hok.fresh (Nat.le_succ _)) (I1.hok.fresh (Nat.le_refl _)) (Nat.ne_of_lt (Nat.lt_succ_self _))
  have I2 := Inv.made (C := C) I1
  have r2 : Vals (V.ref (s1.heap.objs.size + 1) :: vs) (Value.ref (s1.heap.objs.size + 1) :: us) := .cons rfl r
  refine wpAny_call (make_map (f := f) I1.kIn M.makes M.init (beq_iff_eq.mp M.fn) (codeAny_mono (F _ X.stack _ _ (Value.ref (s1.heap.objs.size + 1) :: us) _ _ (E σ) (hr.make C us []) (I2.env0.make C us []) r2 q1) fun z s' hz => ?_))
  match z, hz with
  | .error e, hz => exact hx σ pins _ _ e s' I2 hz
  | .ok (.ret u), hz =>
    obtain ⟨v, H', I3, rv, ev, q3⟩ := I2.after hz
    subst ev
    exact ⟨rv, ⟨V.ref (s1.heap.objs.size + 1), H', I3, rfl, q3⟩⟩
theorem x_makeRX {σ : L2.St} {H : Hp} {Q : VK} (q : t σ H fun vs H1 => ∀ x dx, H1 x = none → H1 dx = none → dx ≠ x → sp (.ref x :: vs) (upd (upd H1 dx (.own x)) x (.ins C dx [])) (fun v H2 => v = .non ∧ Q (.ref x) H2) (E σ)) : tMakeRX C sp E t σ H Q := q
end
/-! ### a property that is set -/
section
open PySem.Spec PyProof.Rows
/-- the class has the name as a property at p, with the getter at g and the setter at t -/
structure SetOf (K : PySem.W.Frag) (C : Addr) (f : Str) (p t : Addr) : Prop where
  at_ : PySem.W.findIn K (.ref C) f = some (some (.ref p))
  tak : PySem.W.takesIn K (.ref p) = some true
  ty : PySem.W.typeIn K (.ref p) = some (.type "property")
  rec_ : ∃ g rest, PySem.W.recIn K p "property" = some (g :: .ref t :: rest)
theorem SetOf.taker {K : PySem.W.Frag} {C : Addr} {f : Str} {p t : Addr} (P : SetOf K C f p t) : PySem.W.takerIn K C f = some (some (.ref p)) := by
  unfold PySem.W.takerIn
  rw [P.at_]
  show (PySem.W.takesIn K (.ref p)).map _ = _
  rw [P.tak]
  rfl
/-- o.f = value, f a property: the setter's promise -/
def sProp (sp : Sp) (C : Addr) (E : XK) (ta tv : TE) : TS := fun D σ H => tv σ H fun y H1 => ta σ H1 fun x H2 => ∃ a dx fs, x = .ref a ∧ H2 a = some (.ins C dx fs) ∧ sp [.ref a, y] H2 (fun _ H3 => D.nx σ H3) E
variable {X : Cx} {CX : CXT} {k : Nat} {C p t a dx : Addr} {fs : List (Str × V)} {f : Str} {fd : FuncData} {ps : List Str} {sp : Sp} {E : XK} {o value : Expr} {pos pos' : Pos} {ta tv : TE}
theorem setprop_ok {pins : List (Addr × Obj)} {σ : L2.St} {H : Hp} {s : Shared} {Q : Unit → Shared → Prop} {y : V} {u : Value} {QH : Hp → Prop} (I : Inv X pins σ H s) (ea : H a = some (.ins C dx fs)) (c : Cls X.K C) (P : SetOf X.K C f p t)
    (F : FnOk X.prog X.w X.K X.mg X.base CX k t fd ps sp) (hr : Room (k + 2) X.A) (hb : Binds X.K fd ps []) (hx : Passes CX X E) (ry : RelV y u) (h : sp [.ref a, y] H (fun _ H3 => QH H3) E) (q : ∀ H' s', Inv X pins σ H' s' → QH H' → Q () s') :
    wpAny (model X.prog X.w) X.A (setAttr (.ref a) f u) Q X.xe s := by
  obtain ⟨mA, O, _, _, _, _⟩ := ins_get I.hok ea
  obtain ⟨od, J, _⟩ := O.look
  obtain ⟨g, rest, hrec⟩ := P.rec_
  have I1 := I.tok (s.toks + 1)
  have hl : ([Value.ref a, u] ++ []).length = ps.length := (F.len _ _ _ _ h)
  have run := F.run X.A.in1.in1 X.stack { s with toks := s.toks + 1 } H ⟨[.ref a, u], []⟩ [.ref a, u] [.ref a, y] _ E hr.in1.in1 I1.env0.in1.in1 (hb _ [.ref a, u] I1.kIn hl) (.cons rfl (.cons ry .nil)) h
  refine PySem.W.set_plain I.kIn J c.sa (PySem.W.osa_descr (s := { s with toks := s.toks + 1 }) PySem.W.KF.slot_pset I1.kIn J c.po P.taker P.ty (PySem.W.prop_set (s := { s with toks := s.toks + 1 }) I1.kIn hrec (codeAny_mono run fun r s' hq => ?_)))
  cases r with
  | error er => exact hx pins σ H { s with toks := s.toks + 1 } er s' I1 hq
  | ok fl =>
    cases fl with
    | ret u' =>
      obtain ⟨v, H', I3, rv, q3⟩ := I1.after hq
      exact q H' s' I3 q3
    | next => exact False.elim hq
    | brk => exact False.elim hq
    | cont => exact False.elim hq
theorem ps_setp (ha : PE X o ta) (hv : PE X value tv) (c : Cls X.K C) (P : SetOf X.K C f p t) (F : FnOk X.prog X.w X.K X.mg X.base CX k t fd ps sp) (hr : Room (k + 2) X.A) (hb : Binds X.K fd ps []) (hx : Passes CX X E)
    (hs : swapsWith value (some (.Attribute o f pos')) pos.line X.env = pure false) : PS X (.Assign [.Attribute o f pos'] value pos) (sProp sp C E ta tv) := by
  refine ⟨fun pins s σ H D I h => ?_⟩
  refine plainObj_wpAny_Assign_Attribute (thn (hv.run pins s σ H _ I h) fun u s1 ⟨y, H1, I1, ry, q⟩ => thn (ha.run pins s1 σ H1 _ I1 q) fun ov s2 ⟨x, H2, I2, rx, a, dx, fs, ex, ea, q2⟩ => ?_) hs
  subst ex
  obtain rfl : ov = Value.ref a := rx
  exact setprop_ok I2 ea c P F hr hb hx ry q2 fun H' s' I' q => ⟨σ, H', I', q⟩
end
theorem x_setp {sp : Sp} {C : Addr} {E : XK} {ta tv : TE} {D : Ends} {σ : L2.St} {H : Hp} (q : tv σ H fun y H1 => ta σ H1 fun x H2 => ∃ a dx fs, x = .ref a ∧ H2 a = some (.ins C dx fs) ∧ sp [.ref a, y] H2 (fun _ H3 => D.nx σ H3) E) : sProp sp C E ta tv D σ H := q
def top (i : Nat) : Stmt := PySem.Challenge.pw_lossway_k14_whole_buffers_carry.main.body.getD i (.Pass ⟨0, 0, 0, 0⟩)
abbrev s_InvalidNumber_init_ : Stmt := inClass (top 3) 0
theorem st_InvalidNumber_init_ {t : TS} {D : Ends} {H : Hp} {v0 v1 : V} (h : t D [some v0, some v1] H) : t D (L2.start ["self", "number"] [v0, v1]) H := h
theorem sc_InvalidNumber_init_ : FnScope ["self", "number"] ["self", "number"] (defScope s_InvalidNumber_init_) := ⟨rfl, rfl, rfl, by decide +kernel, rfl, by decide +kernel, by decide +kernel⟩
abbrev s_InvalidSetting_init_ : Stmt := inClass (top 4) 0
theorem st_InvalidSetting_init_ {t : TS} {D : Ends} {H : Hp} {v0 v1 : V} (h : t D [some v0, some v1] H) : t D (L2.start ["self", "setting"] [v0, v1]) H := h
theorem sc_InvalidSetting_init_ : FnScope ["self", "setting"] ["self", "setting"] (defScope s_InvalidSetting_init_) := ⟨rfl, rfl, rfl, by decide +kernel, rfl, by decide +kernel, by decide +kernel⟩
abbrev s_NotAllowed_init_ : Stmt := inClass (top 5) 0
theorem st_NotAllowed_init_ {t : TS} {D : Ends} {H : Hp} {v0 v1 : V} (h : t D [some v0, some v1] H) : t D (L2.start ["self", "state"] [v0, v1]) H := h
theorem sc_NotAllowed_init_ : FnScope ["self", "state"] ["self", "state"] (defScope s_NotAllowed_init_) := ⟨rfl, rfl, rfl, by decide +kernel, rfl, by decide +kernel, by decide +kernel⟩
abbrev s_is_integer : Stmt := top 7
theorem st_is_integer {t : TS} {D : Ends} {H : Hp} {v0 : V} (h : t D [some v0] H) : t D (L2.start ["value"] [v0]) H := h
theorem sc_is_integer : FnScope ["value"] ["value"] (defScope s_is_integer) := ⟨rfl, rfl, rfl, by decide +kernel, rfl, by decide +kernel, by decide +kernel⟩
abbrev s_is_between : Stmt := top 8
theorem st_is_between {t : TS} {D : Ends} {H : Hp} {v0 v1 v2 : V} (h : t D [some v0, some v1, some v2] H) : t D (L2.start ["value", "low", "high"] [v0, v1, v2]) H := h
theorem sc_is_between : FnScope ["value", "low", "high"] ["value", "low", "high"] (defScope s_is_between) := ⟨rfl, rfl, rfl, by decide +kernel, rfl, by decide +kernel, by decide +kernel⟩
abbrev s_is_at_least : Stmt := top 9
theorem st_is_at_least {t : TS} {D : Ends} {H : Hp} {v0 v1 : V} (h : t D [some v0, some v1] H) : t D (L2.start ["value", "low"] [v0, v1]) H := h
theorem sc_is_at_least : FnScope ["value", "low"] ["value", "low"] (defScope s_is_at_least) := ⟨rfl, rfl, rfl, by decide +kernel, rfl, by decide +kernel, by decide +kernel⟩
abbrev s_is_byte : Stmt := top 10
theorem st_is_byte {t : TS} {D : Ends} {H : Hp} {v0 : V} (h : t D [some v0] H) : t D (L2.start ["value"] [v0]) H := h
theorem sc_is_byte : FnScope ["value"] ["value"] (defScope s_is_byte) := ⟨rfl, rfl, rfl, by decide +kernel, rfl, by decide +kernel, by decide +kernel⟩
abbrev s_is_sequence : Stmt := top 11
theorem st_is_sequence {t : TS} {D : Ends} {H : Hp} {v0 : V} (h : t D [some v0] H) : t D (L2.start ["value"] [v0]) H := h
theorem sc_is_sequence : FnScope ["value"] ["value"] (defScope s_is_sequence) := ⟨rfl, rfl, rfl, by decide +kernel, rfl, by decide +kernel, by decide +kernel⟩
abbrev s_require_data : Stmt := top 12
theorem st_require_data {t : TS} {D : Ends} {H : Hp} {v0 : V} (h : t D [some v0, none] H) : t D (L2.start ["data", "item"] [v0]) H := h
theorem sc_require_data : FnScope ["data", "item"] ["data"] (defScope s_require_data) := ⟨rfl, rfl, rfl, by decide +kernel, rfl, by decide +kernel, by decide +kernel⟩
abbrev s_require_limit : Stmt := top 13
theorem st_require_limit {t : TS} {D : Ends} {H : Hp} {v0 : V} (h : t D [some v0] H) : t D (L2.start ["limit"] [v0]) H := h
theorem sc_require_limit : FnScope ["limit"] ["limit"] (defScope s_require_limit) := ⟨rfl, rfl, rfl, by decide +kernel, rfl, by decide +kernel, by decide +kernel⟩
abbrev s_is_run : Stmt := top 15
theorem st_is_run {t : TS} {D : Ends} {H : Hp} {v0 : V} (h : t D [some v0] H) : t D (L2.start ["pair"] [v0]) H := h
theorem sc_is_run : FnScope ["pair"] ["pair"] (defScope s_is_run) := ⟨rfl, rfl, rfl, by decide +kernel, rfl, by decide +kernel, by decide +kernel⟩
abbrev s_joined : Stmt := top 16
theorem st_joined {t : TS} {D : Ends} {H : Hp} {v0 : V} (h : t D [some v0, none, none, none, none] H) : t D (L2.start ["pairs", "runs", "low", "high", "pair"] [v0]) H := h
theorem sc_joined : FnScope ["pairs", "runs", "low", "high", "pair"] ["pairs"] (defScope s_joined) := ⟨rfl, rfl, rfl, by decide +kernel, rfl, by decide +kernel, by decide +kernel⟩
abbrev s_missing : Stmt := top 17
theorem st_missing {t : TS} {D : Ends} {H : Hp} {v0 v1 v2 : V} (h : t D [some v0, some v1, some v2, none, none, none, none] H) : t D (L2.start ["runs", "low", "high", "found", "at", "start", "end"] [v0, v1, v2]) H := h
theorem sc_missing : FnScope ["runs", "low", "high", "found", "at", "start", "end"] ["runs", "low", "high"] (defScope s_missing) := ⟨rfl, rfl, rfl, by decide +kernel, rfl, by decide +kernel, by decide +kernel⟩
abbrev s_common : Stmt := top 18
theorem st_common {t : TS} {D : Ends} {H : Hp} {v0 v1 : V} (h : t D [some v0, some v1, none, none, none, none, none] H) : t D (L2.start ["first", "second", "found", "one", "two", "low", "high"] [v0, v1]) H := h
theorem sc_common : FnScope ["first", "second", "found", "one", "two", "low", "high"] ["first", "second"] (defScope s_common) := ⟨rfl, rfl, rfl, by decide +kernel, rfl, by decide +kernel, by decide +kernel⟩
abbrev s_without : Stmt := top 19
theorem st_without {t : TS} {D : Ends} {H : Hp} {v0 v1 : V} (h : t D [some v0, some v1, none] H) : t D (L2.start ["first", "second", "end"] [v0, v1]) H := h
theorem sc_without : FnScope ["first", "second", "end"] ["first", "second"] (defScope s_without) := ⟨rfl, rfl, rfl, by decide +kernel, rfl, by decide +kernel, by decide +kernel⟩
abbrev s_Spans_init_ : Stmt := inClass (top 20) 0
theorem st_Spans_init_ {t : TS} {D : Ends} {H : Hp} {v0 v1 : V} (h : t D [some v0, some v1, none] H) : t D (L2.start ["self", "pairs", "pair"] [v0, v1]) H := h
theorem sc_Spans_init_ : FnScope ["self", "pairs", "pair"] ["self", "pairs"] (defScope s_Spans_init_) := ⟨rfl, rfl, rfl, by decide +kernel, rfl, by decide +kernel, by decide +kernel⟩
abbrev s_Spans_put : Stmt := inClass (top 20) 10
theorem st_Spans_put {t : TS} {D : Ends} {H : Hp} {v0 v1 v2 : V} (h : t D [some v0, some v1, some v2] H) : t D (L2.start ["self", "low", "high"] [v0, v1, v2]) H := h
theorem sc_Spans_put : FnScope ["self", "low", "high"] ["self", "low", "high"] (defScope s_Spans_put) := ⟨rfl, rfl, rfl, by decide +kernel, rfl, by decide +kernel, by decide +kernel⟩
abbrev s_Spans_drop : Stmt := inClass (top 20) 11
theorem st_Spans_drop {t : TS} {D : Ends} {H : Hp} {v0 v1 v2 : V} (h : t D [some v0, some v1, some v2] H) : t D (L2.start ["self", "low", "high"] [v0, v1, v2]) H := h
theorem sc_Spans_drop : FnScope ["self", "low", "high"] ["self", "low", "high"] (defScope s_Spans_drop) := ⟨rfl, rfl, rfl, by decide +kernel, rfl, by decide +kernel, by decide +kernel⟩
abbrev s_Spans_holding : Stmt := inClass (top 20) 12
theorem st_Spans_holding {t : TS} {D : Ends} {H : Hp} {v0 v1 : V} (h : t D [some v0, some v1, none, none] H) : t D (L2.start ["self", "offset", "low", "high"] [v0, v1]) H := h
theorem sc_Spans_holding : FnScope ["self", "offset", "low", "high"] ["self", "offset"] (defScope s_Spans_holding) := ⟨rfl, rfl, rfl, by decide +kernel, rfl, by decide +kernel, by decide +kernel⟩
abbrev s_Spans_gaps : Stmt := inClass (top 20) 13
theorem st_Spans_gaps {t : TGn} {D : GEnds} {ys : List V} {H : Hp} {v0 v1 v2 : V} (h : t D ys [some v0, some v1, some v2, none] H) : t D ys (L2.start ["self", "low", "high", "run"] [v0, v1, v2]) H := h
theorem sc_Spans_gaps : GScope ["self", "low", "high", "run"] ["self", "low", "high"] (defScope s_Spans_gaps) := ⟨rfl, rfl, rfl, by decide +kernel, rfl, by decide +kernel, by decide +kernel⟩
abbrev s_Spans_highest : Stmt := inClass (top 20) 14
theorem st_Spans_highest {t : TS} {D : Ends} {H : Hp} {v0 v1 : V} (h : t D [some v0, some v1, none, none, none] H) : t D (L2.start ["self", "count", "left", "low", "high"] [v0, v1]) H := h
theorem sc_Spans_highest : FnScope ["self", "count", "left", "low", "high"] ["self", "count"] (defScope s_Spans_highest) := ⟨rfl, rfl, rfl, by decide +kernel, rfl, by decide +kernel, by decide +kernel⟩
abbrev s_Inbox_init_ : Stmt := inClass (top 22) 0
theorem st_Inbox_init_ {t : TS} {D : Ends} {H : Hp} {v0 v1 : V} (h : t D [some v0, some v1] H) : t D (L2.start ["self", "limit"] [v0, v1]) H := h
theorem sc_Inbox_init_ : FnScope ["self", "limit"] ["self", "limit"] (defScope s_Inbox_init_) := ⟨rfl, rfl, rfl, by decide +kernel, rfl, by decide +kernel, by decide +kernel⟩
abbrev s_Inbox_limit : Stmt := inClass (top 22) 1
theorem st_Inbox_limit {t : TS} {D : Ends} {H : Hp} {v0 : V} (h : t D [some v0] H) : t D (L2.start ["self"] [v0]) H := h
theorem sc_Inbox_limit : FnScope ["self"] ["self"] (defScope s_Inbox_limit) := ⟨rfl, rfl, rfl, by decide +kernel, rfl, by decide +kernel, by decide +kernel⟩
abbrev s_Inbox_limit_set : Stmt := inClass (top 22) 2
theorem st_Inbox_limit_set {t : TS} {D : Ends} {H : Hp} {v0 v1 : V} (h : t D [some v0, some v1] H) : t D (L2.start ["self", "value"] [v0, v1]) H := h
theorem sc_Inbox_limit_set : FnScope ["self", "value"] ["self", "value"] (defScope s_Inbox_limit_set) := ⟨rfl, rfl, rfl, by decide +kernel, rfl, by decide +kernel, by decide +kernel⟩
abbrev s_Inbox_edge : Stmt := inClass (top 22) 3
theorem st_Inbox_edge {t : TS} {D : Ends} {H : Hp} {v0 : V} (h : t D [some v0] H) : t D (L2.start ["self"] [v0]) H := h
theorem sc_Inbox_edge : FnScope ["self"] ["self"] (defScope s_Inbox_edge) := ⟨rfl, rfl, rfl, by decide +kernel, rfl, by decide +kernel, by decide +kernel⟩
abbrev s_Inbox_ready : Stmt := inClass (top 22) 5
theorem st_Inbox_ready {t : TS} {D : Ends} {H : Hp} {v0 : V} (h : t D [some v0] H) : t D (L2.start ["self"] [v0]) H := h
theorem sc_Inbox_ready : FnScope ["self"] ["self"] (defScope s_Inbox_ready) := ⟨rfl, rfl, rfl, by decide +kernel, rfl, by decide +kernel, by decide +kernel⟩
abbrev s_Inbox_ended : Stmt := inClass (top 22) 6
theorem st_Inbox_ended {t : TS} {D : Ends} {H : Hp} {v0 : V} (h : t D [some v0] H) : t D (L2.start ["self"] [v0]) H := h
theorem sc_Inbox_ended : FnScope ["self"] ["self"] (defScope s_Inbox_ended) := ⟨rfl, rfl, rfl, by decide +kernel, rfl, by decide +kernel, by decide +kernel⟩
abbrev s_Inbox_expected : Stmt := inClass (top 22) 7
theorem st_Inbox_expected {t : TS} {D : Ends} {H : Hp} {v0 : V} (h : t D [some v0] H) : t D (L2.start ["self"] [v0]) H := h
theorem sc_Inbox_expected : FnScope ["self"] ["self"] (defScope s_Inbox_expected) := ⟨rfl, rfl, rfl, by decide +kernel, rfl, by decide +kernel, by decide +kernel⟩
abbrev s_Inbox_urgent_count : Stmt := inClass (top 22) 8
theorem st_Inbox_urgent_count {t : TS} {D : Ends} {H : Hp} {v0 : V} (h : t D [some v0] H) : t D (L2.start ["self"] [v0]) H := h
theorem sc_Inbox_urgent_count : FnScope ["self"] ["self"] (defScope s_Inbox_urgent_count) := ⟨rfl, rfl, rfl, by decide +kernel, rfl, by decide +kernel, by decide +kernel⟩
abbrev s_Inbox_take : Stmt := inClass (top 22) 10
theorem st_Inbox_take {t : TS} {D : Ends} {H : Hp} {v0 v1 v2 : V} (h : t D [some v0, some v1, some v2, none, none, none, none, none, none] H) : t D (L2.start ["self", "offset", "data", "least", "end", "wanted", "low", "high", "at"] [v0, v1, v2]) H := h
theorem sc_Inbox_take : FnScope ["self", "offset", "data", "least", "end", "wanted", "low", "high", "at"] ["self", "offset", "data"] (defScope s_Inbox_take) := ⟨rfl, rfl, rfl, by decide +kernel, rfl, by decide +kernel, by decide +kernel⟩
abbrev s_Inbox_stop : Stmt := inClass (top 22) 11
theorem st_Inbox_stop {t : TS} {D : Ends} {H : Hp} {v0 : V} (h : t D [some v0] H) : t D (L2.start ["self"] [v0]) H := h
theorem sc_Inbox_stop : FnScope ["self"] ["self"] (defScope s_Inbox_stop) := ⟨rfl, rfl, rfl, by decide +kernel, rfl, by decide +kernel, by decide +kernel⟩
abbrev s_Inbox_move_on : Stmt := inClass (top 22) 12
theorem st_Inbox_move_on {t : TS} {D : Ends} {H : Hp} {v0 : V} (h : t D [some v0, none] H) : t D (L2.start ["self", "run"] [v0]) H := h
theorem sc_Inbox_move_on : FnScope ["self", "run"] ["self"] (defScope s_Inbox_move_on) := ⟨rfl, rfl, rfl, by decide +kernel, rfl, by decide +kernel, by decide +kernel⟩
abbrev s_Inbox_finish : Stmt := inClass (top 22) 13
theorem st_Inbox_finish {t : TS} {D : Ends} {H : Hp} {v0 v1 : V} (h : t D [some v0, some v1, none, none] H) : t D (L2.start ["self", "offset", "highest", "least"] [v0, v1]) H := h
theorem sc_Inbox_finish : FnScope ["self", "offset", "highest", "least"] ["self", "offset"] (defScope s_Inbox_finish) := ⟨rfl, rfl, rfl, by decide +kernel, rfl, by decide +kernel, by decide +kernel⟩
abbrev s_Inbox_read : Stmt := inClass (top 22) 14
theorem st_Inbox_read {t : TS} {D : Ends} {H : Hp} {v0 v1 : V} (h : t D [some v0, some v1, none, none, none] H) : t D (L2.start ["self", "count", "low", "found", "at"] [v0, v1]) H := h
theorem sc_Inbox_read : FnScope ["self", "count", "low", "found", "at"] ["self", "count"] (defScope s_Inbox_read) := ⟨rfl, rfl, rfl, by decide +kernel, rfl, by decide +kernel, by decide +kernel⟩
abbrev s_Inbox_mark_urgent : Stmt := inClass (top 22) 16
theorem st_Inbox_mark_urgent {t : TS} {D : Ends} {H : Hp} {v0 v1 : V} (h : t D [some v0, some v1] H) : t D (L2.start ["self", "offset"] [v0, v1]) H := h
theorem sc_Inbox_mark_urgent : FnScope ["self", "offset"] ["self", "offset"] (defScope s_Inbox_mark_urgent) := ⟨rfl, rfl, rfl, by decide +kernel, rfl, by decide +kernel, by decide +kernel⟩
abbrev s_Outbox_init_ : Stmt := inClass (top 24) 0
theorem st_Outbox_init_ {t : TS} {D : Ends} {H : Hp} {v0 v1 : V} (h : t D [some v0, some v1] H) : t D (L2.start ["self", "limit"] [v0, v1]) H := h
theorem sc_Outbox_init_ : FnScope ["self", "limit"] ["self", "limit"] (defScope s_Outbox_init_) := ⟨rfl, rfl, rfl, by decide +kernel, rfl, by decide +kernel, by decide +kernel⟩
abbrev s_Outbox_limit : Stmt := inClass (top 24) 1
theorem st_Outbox_limit {t : TS} {D : Ends} {H : Hp} {v0 : V} (h : t D [some v0] H) : t D (L2.start ["self"] [v0]) H := h
theorem sc_Outbox_limit : FnScope ["self"] ["self"] (defScope s_Outbox_limit) := ⟨rfl, rfl, rfl, by decide +kernel, rfl, by decide +kernel, by decide +kernel⟩
abbrev s_Outbox_limit_set : Stmt := inClass (top 24) 2
theorem st_Outbox_limit_set {t : TS} {D : Ends} {H : Hp} {v0 v1 : V} (h : t D [some v0, some v1] H) : t D (L2.start ["self", "value"] [v0, v1]) H := h
theorem sc_Outbox_limit_set : FnScope ["self", "value"] ["self", "value"] (defScope s_Outbox_limit_set) := ⟨rfl, rfl, rfl, by decide +kernel, rfl, by decide +kernel, by decide +kernel⟩
abbrev s_Outbox_free : Stmt := inClass (top 24) 3
theorem st_Outbox_free {t : TS} {D : Ends} {H : Hp} {v0 : V} (h : t D [some v0] H) : t D (L2.start ["self"] [v0]) H := h
theorem sc_Outbox_free : FnScope ["self"] ["self"] (defScope s_Outbox_free) := ⟨rfl, rfl, rfl, by decide +kernel, rfl, by decide +kernel, by decide +kernel⟩
abbrev s_Outbox_bound : Stmt := inClass (top 24) 4
theorem st_Outbox_bound {t : TS} {D : Ends} {H : Hp} {v0 : V} (h : t D [some v0] H) : t D (L2.start ["self"] [v0]) H := h
theorem sc_Outbox_bound : FnScope ["self"] ["self"] (defScope s_Outbox_bound) := ⟨rfl, rfl, rfl, by decide +kernel, rfl, by decide +kernel, by decide +kernel⟩
abbrev s_Outbox_put : Stmt := inClass (top 24) 6
theorem st_Outbox_put {t : TS} {D : Ends} {H : Hp} {v0 v1 : V} (h : t D [some v0, some v1, none] H) : t D (L2.start ["self", "data", "count"] [v0, v1]) H := h
theorem sc_Outbox_put : FnScope ["self", "data", "count"] ["self", "data"] (defScope s_Outbox_put) := ⟨rfl, rfl, rfl, by decide +kernel, rfl, by decide +kernel, by decide +kernel⟩
abbrev s_Outbox_urge : Stmt := inClass (top 24) 7
theorem st_Outbox_urge {t : TS} {D : Ends} {H : Hp} {v0 v1 : V} (h : t D [some v0, some v1, none] H) : t D (L2.start ["self", "data", "count"] [v0, v1]) H := h
theorem sc_Outbox_urge : FnScope ["self", "data", "count"] ["self", "data"] (defScope s_Outbox_urge) := ⟨rfl, rfl, rfl, by decide +kernel, rfl, by decide +kernel, by decide +kernel⟩
abbrev s_Outbox_shut : Stmt := inClass (top 24) 8
theorem st_Outbox_shut {t : TS} {D : Ends} {H : Hp} {v0 : V} (h : t D [some v0] H) : t D (L2.start ["self"] [v0]) H := h
theorem sc_Outbox_shut : FnScope ["self"] ["self"] (defScope s_Outbox_shut) := ⟨rfl, rfl, rfl, by decide +kernel, rfl, by decide +kernel, by decide +kernel⟩
abbrev s_Outbox_cut : Stmt := inClass (top 24) 9
theorem st_Outbox_cut {t : TS} {D : Ends} {H : Hp} {v0 v1 v2 : V} (h : t D [some v0, some v1, some v2] H) : t D (L2.start ["self", "low", "high"] [v0, v1, v2]) H := h
theorem sc_Outbox_cut : FnScope ["self", "low", "high"] ["self", "low", "high"] (defScope s_Outbox_cut) := ⟨rfl, rfl, rfl, by decide +kernel, rfl, by decide +kernel, by decide +kernel⟩
abbrev s_Outbox_release : Stmt := inClass (top 24) 10
theorem st_Outbox_release {t : TS} {D : Ends} {H : Hp} {v0 v1 : V} (h : t D [some v0, some v1, none] H) : t D (L2.start ["self", "offset", "count"] [v0, v1]) H := h
theorem sc_Outbox_release : FnScope ["self", "offset", "count"] ["self", "offset"] (defScope s_Outbox_release) := ⟨rfl, rfl, rfl, by decide +kernel, rfl, by decide +kernel, by decide +kernel⟩
abbrev s__law_box : Stmt := top 26
theorem st__law_box {t : TS} {D : Ends} {H : Hp} {v0 : V} (h : t D [some v0] H) : t D (L2.start ["script"] [v0]) H := h
theorem sc__law_box : FnScope ["script"] ["script"] (defScope s__law_box) := ⟨rfl, rfl, rfl, by decide +kernel, rfl, by decide +kernel, by decide +kernel⟩
abbrev s__law_draw : Stmt := top 27
theorem st__law_draw {t : TS} {D : Ends} {H : Hp} {v0 v1 : V} (h : t D [some v0, some v1, none, none, none] H) : t D (L2.start ["box", "size", "cell", "digit", "mixed"] [v0, v1]) H := h
theorem sc__law_draw : FnScope ["box", "size", "cell", "digit", "mixed"] ["box", "size"] (defScope s__law_draw) := ⟨rfl, rfl, rfl, by decide +kernel, rfl, by decide +kernel, by decide +kernel⟩
abbrev s__law_is_whole : Stmt := top 28
theorem st__law_is_whole {t : TS} {D : Ends} {H : Hp} {v0 : V} (h : t D [some v0] H) : t D (L2.start ["value"] [v0]) H := h
theorem sc__law_is_whole : FnScope ["value"] ["value"] (defScope s__law_is_whole) := ⟨rfl, rfl, rfl, by decide +kernel, rfl, by decide +kernel, by decide +kernel⟩
abbrev s__law_bytes : Stmt := top 29
theorem st__law_bytes {t : TS} {D : Ends} {H : Hp} {v0 v1 : V} (h : t D [some v0, some v1, none, none, none, none] H) : t D (L2.start ["box", "most", "many", "base", "step", "k"] [v0, v1]) H := h
theorem sc__law_bytes : FnScope ["box", "most", "many", "base", "step", "k"] ["box", "most"] (defScope s__law_bytes) := ⟨rfl, rfl, rfl, by decide +kernel, rfl, by decide +kernel, by decide +kernel⟩
abbrev s__law_tuple_is : Stmt := top 30
theorem st__law_tuple_is {t : TS} {D : Ends} {H : Hp} {v0 v1 : V} (h : t D [some v0, some v1, none] H) : t D (L2.start ["told", "due", "k"] [v0, v1]) H := h
theorem sc__law_tuple_is : FnScope ["told", "due", "k"] ["told", "due"] (defScope s__law_tuple_is) := ⟨rfl, rfl, rfl, by decide +kernel, rfl, by decide +kernel, by decide +kernel⟩
abbrev s__law_receiver : Stmt := top 31
theorem st__law_receiver {t : TS} {D : Ends} {H : Hp} {v0 : V} (h : t D [some v0] H) : t D (L2.start ["most"] [v0]) H := h
theorem sc__law_receiver : FnScope ["most"] ["most"] (defScope s__law_receiver) := ⟨rfl, rfl, rfl, by decide +kernel, rfl, by decide +kernel, by decide +kernel⟩
abbrev s__law_next : Stmt := top 32
theorem st__law_next {t : TS} {D : Ends} {H : Hp} {v0 : V} (h : t D [some v0, none, none] H) : t D (L2.start ["receiver", "seen", "k"] [v0]) H := h
theorem sc__law_next : FnScope ["receiver", "seen", "k"] ["receiver"] (defScope s__law_next) := ⟨rfl, rfl, rfl, by decide +kernel, rfl, by decide +kernel, by decide +kernel⟩
abbrev s__law_sender_is : Stmt := top 33
theorem st__law_sender_is {t : TS} {D : Ends} {H : Hp} {v0 v1 : V} (h : t D [some v0, some v1, none, none, none] H) : t D (L2.start ["outbox", "sender", "end", "numbers", "pair"] [v0, v1]) H := h
theorem sc__law_sender_is : FnScope ["outbox", "sender", "end", "numbers", "pair"] ["outbox", "sender"] (defScope s__law_sender_is) := ⟨rfl, rfl, rfl, by decide +kernel, rfl, by decide +kernel, by decide +kernel⟩
abbrev s__law_receiver_is : Stmt := top 34
theorem st__law_receiver_is {t : TS} {D : Ends} {H : Hp} {v0 v1 v2 : V} (h : t D [some v0, some v1, some v2, none, none, none, none, none, none] H) : t D (L2.start ["inbox", "receiver", "sender", "front", "old", "end", "numbers", "ended", "pair"] [v0, v1, v2]) H := h
theorem sc__law_receiver_is : FnScope ["inbox", "receiver", "sender", "front", "old", "end", "numbers", "ended", "pair"] ["inbox", "receiver", "sender"] (defScope s__law_receiver_is) := ⟨rfl, rfl, rfl, by decide +kernel, rfl, by decide +kernel, by decide +kernel⟩
abbrev s__law_writes : Stmt := top 35
theorem st__law_writes {t : TS} {D : Ends} {H : Hp} {v0 v1 v2 : V} (h : t D [some v0, some v1, some v2, none, none, none, none, none] H) : t D (L2.start ["box", "outbox", "sender", "data", "spare", "many", "urgent", "told"] [v0, v1, v2]) H := h
theorem sc__law_writes : FnScope ["box", "outbox", "sender", "data", "spare", "many", "urgent", "told"] ["box", "outbox", "sender"] (defScope s__law_writes) := ⟨rfl, rfl, rfl, by decide +kernel, rfl, by decide +kernel, by decide +kernel⟩
abbrev s__law_cuts : Stmt := top 36
theorem st__law_cuts {t : TS} {D : Ends} {H : Hp} {v0 v1 v2 : V} (h : t D [some v0, some v1, some v2, none, none, none, none] H) : t D (L2.start ["box", "outbox", "sender", "end", "low", "high", "piece"] [v0, v1, v2]) H := h
theorem sc__law_cuts : FnScope ["box", "outbox", "sender", "end", "low", "high", "piece"] ["box", "outbox", "sender"] (defScope s__law_cuts) := ⟨rfl, rfl, rfl, by decide +kernel, rfl, by decide +kernel, by decide +kernel⟩
abbrev s__law_arrives : Stmt := top 37
theorem st__law_arrives {t : TS} {D : Ends} {H : Hp} {v0 v1 v2 v3 : V} (h : t D [some v0, some v1, some v2, some v3, none, none, none, none, none, none] H) : t D (L2.start ["inbox", "receiver", "offset", "data", "front", "behind", "seen", "many", "k", "told"] [v0, v1, v2, v3]) H := h
theorem sc__law_arrives : FnScope ["inbox", "receiver", "offset", "data", "front", "behind", "seen", "many", "k", "told"] ["inbox", "receiver", "offset", "data"] (defScope s__law_arrives) := ⟨rfl, rfl, rfl, by decide +kernel, rfl, by decide +kernel, by decide +kernel⟩
abbrev s__law_delivers : Stmt := top 38
theorem st__law_delivers {t : TS} {D : Ends} {H : Hp} {v0 v1 v2 v3 v4 : V} (h : t D [some v0, some v1, some v2, some v3, some v4, none, none] H) : t D (L2.start ["box", "outbox", "inbox", "receiver", "sender", "piece", "lost"] [v0, v1, v2, v3, v4]) H := h
theorem sc__law_delivers : FnScope ["box", "outbox", "inbox", "receiver", "sender", "piece", "lost"] ["box", "outbox", "inbox", "receiver", "sender"] (defScope s__law_delivers) := ⟨rfl, rfl, rfl, by decide +kernel, rfl, by decide +kernel, by decide +kernel⟩
abbrev s__law_reads : Stmt := top 39
theorem st__law_reads {t : TS} {D : Ends} {H : Hp} {v0 v1 v2 v3 : V} (h : t D [some v0, some v1, some v2, some v3, none, none, none] H) : t D (L2.start ["inbox", "receiver", "sender", "count", "old", "many", "told"] [v0, v1, v2, v3]) H := h
theorem sc__law_reads : FnScope ["inbox", "receiver", "sender", "count", "old", "many", "told"] ["inbox", "receiver", "sender", "count"] (defScope s__law_reads) := ⟨rfl, rfl, rfl, by decide +kernel, rfl, by decide +kernel, by decide +kernel⟩
abbrev s__law_releases : Stmt := top 40
theorem st__law_releases {t : TS} {D : Ends} {H : Hp} {v0 v1 v2 : V} (h : t D [some v0, some v1, some v2, none, none, none] H) : t D (L2.start ["outbox", "sender", "receivers", "offset", "told", "many"] [v0, v1, v2]) H := h
theorem sc__law_releases : FnScope ["outbox", "sender", "receivers", "offset", "told", "many"] ["outbox", "sender", "receivers"] (defScope s__law_releases) := ⟨rfl, rfl, rfl, by decide +kernel, rfl, by decide +kernel, by decide +kernel⟩
abbrev s__law_deed : Stmt := top 41
theorem st__law_deed {t : TS} {D : Ends} {H : Hp} {v0 v1 v2 v3 v4 : V} (h : t D [some v0, some v1, some v2, some v3, some v4, none, none] H) : t D (L2.start ["box", "outbox", "sender", "inboxes", "receivers", "way", "which"] [v0, v1, v2, v3, v4]) H := h
theorem sc__law_deed : FnScope ["box", "outbox", "sender", "inboxes", "receivers", "way", "which"] ["box", "outbox", "sender", "inboxes", "receivers"] (defScope s__law_deed) := ⟨rfl, rfl, rfl, by decide +kernel, rfl, by decide +kernel, by decide +kernel⟩
abbrev s__law_brings_all : Stmt := top 42
theorem st__law_brings_all {t : TS} {D : Ends} {H : Hp} {v0 v1 v2 v3 : V} (h : t D [some v0, some v1, some v2, some v3, none, none, none, none] H) : t D (L2.start ["outbox", "inbox", "receiver", "sender", "end", "k", "front", "piece"] [v0, v1, v2, v3]) H := h
theorem sc__law_brings_all : FnScope ["outbox", "inbox", "receiver", "sender", "end", "k", "front", "piece"] ["outbox", "inbox", "receiver", "sender"] (defScope s__law_brings_all) := ⟨rfl, rfl, rfl, by decide +kernel, rfl, by decide +kernel, by decide +kernel⟩
abbrev s_law : Stmt := top 43
theorem st_law {t : TS} {D : Ends} {H : Hp} {v0 : V} (h : t D [some v0, none, none, none, none, none, none, none, none, none, none] H) : t D (L2.start ["script", "box", "many", "least", "wide", "sender", "outbox", "k", "receivers", "inboxes", "which"] [v0]) H := h
theorem sc_law : FnScope ["script", "box", "many", "least", "wide", "sender", "outbox", "k", "receivers", "inboxes", "which"] ["script"] (defScope s_law) := ⟨rfl, rfl, rfl, by decide +kernel, rfl, by decide +kernel, by decide +kernel⟩

set_option maxHeartbeats 0 in
structure Txt (K : PySem.W.Frag) (mg : Str → Option Value) where
  c_Spans : Addr
  g_Spans : mg "Spans" = some (.ref c_Spans)
  cl_Spans : Cls K c_Spans
  n_Spans__runs : NoAttr K c_Spans "_runs"
  c_Inbox : Addr
  g_Inbox : mg "Inbox" = some (.ref c_Inbox)
  cl_Inbox : Cls K c_Inbox
  n_Inbox__limit : NoAttr K c_Inbox "_limit"
  n_Inbox_next_offset : NoAttr K c_Inbox "next_offset"
  n_Inbox_read_offset : NoAttr K c_Inbox "read_offset"
  n_Inbox_final : NoAttr K c_Inbox "final"
  n_Inbox_urgent_end : NoAttr K c_Inbox "urgent_end"
  n_Inbox__stored : NoAttr K c_Inbox "_stored"
  n_Inbox__ahead : NoAttr K c_Inbox "_ahead"
  n_Inbox__latest : NoAttr K c_Inbox "_latest"
  c_Outbox : Addr
  g_Outbox : mg "Outbox" = some (.ref c_Outbox)
  cl_Outbox : Cls K c_Outbox
  n_Outbox__limit : NoAttr K c_Outbox "_limit"
  n_Outbox_base : NoAttr K c_Outbox "base"
  n_Outbox_end : NoAttr K c_Outbox "end"
  n_Outbox_closed : NoAttr K c_Outbox "closed"
  n_Outbox_urgent_end : NoAttr K c_Outbox "urgent_end"
  n_Outbox__kept : NoAttr K c_Outbox "_kept"
  c_LossError : Addr
  c_InvalidNumber : Addr
  c_InvalidSetting : Addr
  c_NotAllowed : Addr
  a_InvalidNumber_init_ : Addr
  fd_InvalidNumber_init_ : FuncData
  F_InvalidNumber_init_ : Fun K "__init__" "InvalidNumber.__init__" s_InvalidNumber_init_ a_InvalidNumber_init_ fd_InvalidNumber_init_
  B_InvalidNumber_init_ : Binds K fd_InvalidNumber_init_ ["self", "number"] []
  a_InvalidSetting_init_ : Addr
  fd_InvalidSetting_init_ : FuncData
  F_InvalidSetting_init_ : Fun K "__init__" "InvalidSetting.__init__" s_InvalidSetting_init_ a_InvalidSetting_init_ fd_InvalidSetting_init_
  B_InvalidSetting_init_ : Binds K fd_InvalidSetting_init_ ["self", "setting"] []
  a_NotAllowed_init_ : Addr
  fd_NotAllowed_init_ : FuncData
  F_NotAllowed_init_ : Fun K "__init__" "NotAllowed.__init__" s_NotAllowed_init_ a_NotAllowed_init_ fd_NotAllowed_init_
  B_NotAllowed_init_ : Binds K fd_NotAllowed_init_ ["self", "state"] []
  a_is_integer : Addr
  fd_is_integer : FuncData
  F_is_integer : Fun K "is_integer" "is_integer" s_is_integer a_is_integer fd_is_integer
  B_is_integer : Binds K fd_is_integer ["value"] []
  g_is_integer : mg "is_integer" = some (.ref a_is_integer)
  a_is_between : Addr
  fd_is_between : FuncData
  F_is_between : Fun K "is_between" "is_between" s_is_between a_is_between fd_is_between
  B_is_between : Binds K fd_is_between ["value", "low", "high"] []
  g_is_between : mg "is_between" = some (.ref a_is_between)
  a_is_at_least : Addr
  fd_is_at_least : FuncData
  F_is_at_least : Fun K "is_at_least" "is_at_least" s_is_at_least a_is_at_least fd_is_at_least
  B_is_at_least : Binds K fd_is_at_least ["value", "low"] []
  g_is_at_least : mg "is_at_least" = some (.ref a_is_at_least)
  a_is_byte : Addr
  fd_is_byte : FuncData
  F_is_byte : Fun K "is_byte" "is_byte" s_is_byte a_is_byte fd_is_byte
  B_is_byte : Binds K fd_is_byte ["value"] []
  g_is_byte : mg "is_byte" = some (.ref a_is_byte)
  a_is_sequence : Addr
  fd_is_sequence : FuncData
  F_is_sequence : Fun K "is_sequence" "is_sequence" s_is_sequence a_is_sequence fd_is_sequence
  B_is_sequence : Binds K fd_is_sequence ["value"] []
  g_is_sequence : mg "is_sequence" = some (.ref a_is_sequence)
  a_require_data : Addr
  fd_require_data : FuncData
  F_require_data : Fun K "require_data" "require_data" s_require_data a_require_data fd_require_data
  B_require_data : Binds K fd_require_data ["data"] []
  g_require_data : mg "require_data" = some (.ref a_require_data)
  a_require_limit : Addr
  fd_require_limit : FuncData
  F_require_limit : Fun K "require_limit" "require_limit" s_require_limit a_require_limit fd_require_limit
  B_require_limit : Binds K fd_require_limit ["limit"] []
  g_require_limit : mg "require_limit" = some (.ref a_require_limit)
  a_is_run : Addr
  fd_is_run : FuncData
  F_is_run : Fun K "is_run" "is_run" s_is_run a_is_run fd_is_run
  B_is_run : Binds K fd_is_run ["pair"] []
  g_is_run : mg "is_run" = some (.ref a_is_run)
  a_joined : Addr
  fd_joined : FuncData
  F_joined : Fun K "joined" "joined" s_joined a_joined fd_joined
  B_joined : Binds K fd_joined ["pairs"] []
  g_joined : mg "joined" = some (.ref a_joined)
  a_missing : Addr
  fd_missing : FuncData
  F_missing : Fun K "missing" "missing" s_missing a_missing fd_missing
  B_missing : Binds K fd_missing ["runs", "low", "high"] []
  g_missing : mg "missing" = some (.ref a_missing)
  a_common : Addr
  fd_common : FuncData
  F_common : Fun K "common" "common" s_common a_common fd_common
  B_common : Binds K fd_common ["first", "second"] []
  g_common : mg "common" = some (.ref a_common)
  a_without : Addr
  fd_without : FuncData
  F_without : Fun K "without" "without" s_without a_without fd_without
  B_without : Binds K fd_without ["first", "second"] []
  g_without : mg "without" = some (.ref a_without)
  a_Spans_init_ : Addr
  fd_Spans_init_ : FuncData
  F_Spans_init_ : Fun K "__init__" "Spans.__init__" s_Spans_init_ a_Spans_init_ fd_Spans_init_
  BS_Spans_init_ : StarB fd_Spans_init_ ["self"] "pairs"
  M_Spans : Mk K c_Spans a_Spans_init_
  a_Spans_put : Addr
  fd_Spans_put : FuncData
  F_Spans_put : Fun K "put" "Spans.put" s_Spans_put a_Spans_put fd_Spans_put
  B_Spans_put : Binds K fd_Spans_put ["self", "low", "high"] []
  m_Spans_put : Meth K c_Spans "put" a_Spans_put
  a_Spans_drop : Addr
  fd_Spans_drop : FuncData
  F_Spans_drop : Fun K "drop" "Spans.drop" s_Spans_drop a_Spans_drop fd_Spans_drop
  B_Spans_drop : Binds K fd_Spans_drop ["self", "low", "high"] []
  m_Spans_drop : Meth K c_Spans "drop" a_Spans_drop
  a_Spans_holding : Addr
  fd_Spans_holding : FuncData
  F_Spans_holding : Fun K "holding" "Spans.holding" s_Spans_holding a_Spans_holding fd_Spans_holding
  B_Spans_holding : Binds K fd_Spans_holding ["self", "offset"] []
  m_Spans_holding : Meth K c_Spans "holding" a_Spans_holding
  a_Spans_gaps : Addr
  fd_Spans_gaps : FuncData
  F_Spans_gaps : Fun K "gaps" "Spans.gaps" s_Spans_gaps a_Spans_gaps fd_Spans_gaps
  B_Spans_gaps : Binds K fd_Spans_gaps ["self", "low", "high"] []
  m_Spans_gaps : Meth K c_Spans "gaps" a_Spans_gaps
  a_Spans_highest : Addr
  fd_Spans_highest : FuncData
  F_Spans_highest : Fun K "highest" "Spans.highest" s_Spans_highest a_Spans_highest fd_Spans_highest
  B_Spans_highest : Binds K fd_Spans_highest ["self", "count"] []
  m_Spans_highest : Meth K c_Spans "highest" a_Spans_highest
  a_Inbox_init_ : Addr
  fd_Inbox_init_ : FuncData
  F_Inbox_init_ : Fun K "__init__" "Inbox.__init__" s_Inbox_init_ a_Inbox_init_ fd_Inbox_init_
  B_Inbox_init_ : Binds K fd_Inbox_init_ ["self", "limit"] []
  M_Inbox : Mk K c_Inbox a_Inbox_init_
  a_Inbox_limit : Addr
  fd_Inbox_limit : FuncData
  F_Inbox_limit : Fun K "limit" "Inbox.limit" s_Inbox_limit a_Inbox_limit fd_Inbox_limit
  B_Inbox_limit : Binds K fd_Inbox_limit ["self"] []
  p_Inbox_limit : Addr
  PR_Inbox_limit : PropOf K c_Inbox "limit" p_Inbox_limit a_Inbox_limit
  a_Inbox_limit_set : Addr
  fd_Inbox_limit_set : FuncData
  F_Inbox_limit_set : Fun K "limit" "Inbox.limit" s_Inbox_limit_set a_Inbox_limit_set fd_Inbox_limit_set
  B_Inbox_limit_set : Binds K fd_Inbox_limit_set ["self", "value"] []
  SE_Inbox_limit_set : SetOf K c_Inbox "limit" p_Inbox_limit a_Inbox_limit_set
  a_Inbox_edge : Addr
  fd_Inbox_edge : FuncData
  F_Inbox_edge : Fun K "edge" "Inbox.edge" s_Inbox_edge a_Inbox_edge fd_Inbox_edge
  B_Inbox_edge : Binds K fd_Inbox_edge ["self"] []
  p_Inbox_edge : Addr
  PR_Inbox_edge : PropOf K c_Inbox "edge" p_Inbox_edge a_Inbox_edge
  a_Inbox_ready : Addr
  fd_Inbox_ready : FuncData
  F_Inbox_ready : Fun K "ready" "Inbox.ready" s_Inbox_ready a_Inbox_ready fd_Inbox_ready
  B_Inbox_ready : Binds K fd_Inbox_ready ["self"] []
  p_Inbox_ready : Addr
  PR_Inbox_ready : PropOf K c_Inbox "ready" p_Inbox_ready a_Inbox_ready
  a_Inbox_ended : Addr
  fd_Inbox_ended : FuncData
  F_Inbox_ended : Fun K "ended" "Inbox.ended" s_Inbox_ended a_Inbox_ended fd_Inbox_ended
  B_Inbox_ended : Binds K fd_Inbox_ended ["self"] []
  p_Inbox_ended : Addr
  PR_Inbox_ended : PropOf K c_Inbox "ended" p_Inbox_ended a_Inbox_ended
  a_Inbox_expected : Addr
  fd_Inbox_expected : FuncData
  F_Inbox_expected : Fun K "expected" "Inbox.expected" s_Inbox_expected a_Inbox_expected fd_Inbox_expected
  B_Inbox_expected : Binds K fd_Inbox_expected ["self"] []
  p_Inbox_expected : Addr
  PR_Inbox_expected : PropOf K c_Inbox "expected" p_Inbox_expected a_Inbox_expected
  a_Inbox_urgent_count : Addr
  fd_Inbox_urgent_count : FuncData
  F_Inbox_urgent_count : Fun K "urgent_count" "Inbox.urgent_count" s_Inbox_urgent_count a_Inbox_urgent_count fd_Inbox_urgent_count
  B_Inbox_urgent_count : Binds K fd_Inbox_urgent_count ["self"] []
  p_Inbox_urgent_count : Addr
  PR_Inbox_urgent_count : PropOf K c_Inbox "urgent_count" p_Inbox_urgent_count a_Inbox_urgent_count
  a_Inbox_take : Addr
  fd_Inbox_take : FuncData
  F_Inbox_take : Fun K "take" "Inbox.take" s_Inbox_take a_Inbox_take fd_Inbox_take
  B_Inbox_take : Binds K fd_Inbox_take ["self", "offset", "data"] []
  m_Inbox_take : Meth K c_Inbox "take" a_Inbox_take
  a_Inbox_stop : Addr
  fd_Inbox_stop : FuncData
  F_Inbox_stop : Fun K "_stop" "Inbox._stop" s_Inbox_stop a_Inbox_stop fd_Inbox_stop
  B_Inbox_stop : Binds K fd_Inbox_stop ["self"] []
  m_Inbox_stop : Meth K c_Inbox "_stop" a_Inbox_stop
  a_Inbox_move_on : Addr
  fd_Inbox_move_on : FuncData
  F_Inbox_move_on : Fun K "_move_on" "Inbox._move_on" s_Inbox_move_on a_Inbox_move_on fd_Inbox_move_on
  B_Inbox_move_on : Binds K fd_Inbox_move_on ["self"] []
  m_Inbox_move_on : Meth K c_Inbox "_move_on" a_Inbox_move_on
  a_Inbox_finish : Addr
  fd_Inbox_finish : FuncData
  F_Inbox_finish : Fun K "finish" "Inbox.finish" s_Inbox_finish a_Inbox_finish fd_Inbox_finish
  B_Inbox_finish : Binds K fd_Inbox_finish ["self", "offset"] []
  m_Inbox_finish : Meth K c_Inbox "finish" a_Inbox_finish
  a_Inbox_read : Addr
  fd_Inbox_read : FuncData
  F_Inbox_read : Fun K "read" "Inbox.read" s_Inbox_read a_Inbox_read fd_Inbox_read
  B_Inbox_read : Binds K fd_Inbox_read ["self", "count"] []
  m_Inbox_read : Meth K c_Inbox "read" a_Inbox_read
  a_Inbox_mark_urgent : Addr
  fd_Inbox_mark_urgent : FuncData
  F_Inbox_mark_urgent : Fun K "mark_urgent" "Inbox.mark_urgent" s_Inbox_mark_urgent a_Inbox_mark_urgent fd_Inbox_mark_urgent
  B_Inbox_mark_urgent : Binds K fd_Inbox_mark_urgent ["self", "offset"] []
  m_Inbox_mark_urgent : Meth K c_Inbox "mark_urgent" a_Inbox_mark_urgent
  a_Outbox_init_ : Addr
  fd_Outbox_init_ : FuncData
  F_Outbox_init_ : Fun K "__init__" "Outbox.__init__" s_Outbox_init_ a_Outbox_init_ fd_Outbox_init_
  B_Outbox_init_ : Binds K fd_Outbox_init_ ["self", "limit"] []
  M_Outbox : Mk K c_Outbox a_Outbox_init_
  a_Outbox_limit : Addr
  fd_Outbox_limit : FuncData
  F_Outbox_limit : Fun K "limit" "Outbox.limit" s_Outbox_limit a_Outbox_limit fd_Outbox_limit
  B_Outbox_limit : Binds K fd_Outbox_limit ["self"] []
  p_Outbox_limit : Addr
  PR_Outbox_limit : PropOf K c_Outbox "limit" p_Outbox_limit a_Outbox_limit
  a_Outbox_limit_set : Addr
  fd_Outbox_limit_set : FuncData
  F_Outbox_limit_set : Fun K "limit" "Outbox.limit" s_Outbox_limit_set a_Outbox_limit_set fd_Outbox_limit_set
  B_Outbox_limit_set : Binds K fd_Outbox_limit_set ["self", "value"] []
  SE_Outbox_limit_set : SetOf K c_Outbox "limit" p_Outbox_limit a_Outbox_limit_set
  a_Outbox_free : Addr
  fd_Outbox_free : FuncData
  F_Outbox_free : Fun K "free" "Outbox.free" s_Outbox_free a_Outbox_free fd_Outbox_free
  B_Outbox_free : Binds K fd_Outbox_free ["self"] []
  p_Outbox_free : Addr
  PR_Outbox_free : PropOf K c_Outbox "free" p_Outbox_free a_Outbox_free
  a_Outbox_bound : Addr
  fd_Outbox_bound : FuncData
  F_Outbox_bound : Fun K "bound" "Outbox.bound" s_Outbox_bound a_Outbox_bound fd_Outbox_bound
  B_Outbox_bound : Binds K fd_Outbox_bound ["self"] []
  p_Outbox_bound : Addr
  PR_Outbox_bound : PropOf K c_Outbox "bound" p_Outbox_bound a_Outbox_bound
  a_Outbox_put : Addr
  fd_Outbox_put : FuncData
  F_Outbox_put : Fun K "put" "Outbox.put" s_Outbox_put a_Outbox_put fd_Outbox_put
  B_Outbox_put : Binds K fd_Outbox_put ["self", "data"] []
  m_Outbox_put : Meth K c_Outbox "put" a_Outbox_put
  a_Outbox_urge : Addr
  fd_Outbox_urge : FuncData
  F_Outbox_urge : Fun K "urge" "Outbox.urge" s_Outbox_urge a_Outbox_urge fd_Outbox_urge
  B_Outbox_urge : Binds K fd_Outbox_urge ["self", "data"] []
  m_Outbox_urge : Meth K c_Outbox "urge" a_Outbox_urge
  a_Outbox_shut : Addr
  fd_Outbox_shut : FuncData
  F_Outbox_shut : Fun K "shut" "Outbox.shut" s_Outbox_shut a_Outbox_shut fd_Outbox_shut
  B_Outbox_shut : Binds K fd_Outbox_shut ["self"] []
  m_Outbox_shut : Meth K c_Outbox "shut" a_Outbox_shut
  a_Outbox_cut : Addr
  fd_Outbox_cut : FuncData
  F_Outbox_cut : Fun K "cut" "Outbox.cut" s_Outbox_cut a_Outbox_cut fd_Outbox_cut
  B_Outbox_cut : Binds K fd_Outbox_cut ["self", "low", "high"] []
  m_Outbox_cut : Meth K c_Outbox "cut" a_Outbox_cut
  a_Outbox_release : Addr
  fd_Outbox_release : FuncData
  F_Outbox_release : Fun K "release" "Outbox.release" s_Outbox_release a_Outbox_release fd_Outbox_release
  B_Outbox_release : Binds K fd_Outbox_release ["self", "offset"] []
  m_Outbox_release : Meth K c_Outbox "release" a_Outbox_release
  a__law_box : Addr
  fd__law_box : FuncData
  F__law_box : Fun K "_law_box" "_law_box" s__law_box a__law_box fd__law_box
  B__law_box : Binds K fd__law_box ["script"] []
  g__law_box : mg "_law_box" = some (.ref a__law_box)
  a__law_draw : Addr
  fd__law_draw : FuncData
  F__law_draw : Fun K "_law_draw" "_law_draw" s__law_draw a__law_draw fd__law_draw
  B__law_draw : Binds K fd__law_draw ["box", "size"] []
  g__law_draw : mg "_law_draw" = some (.ref a__law_draw)
  a__law_is_whole : Addr
  fd__law_is_whole : FuncData
  F__law_is_whole : Fun K "_law_is_whole" "_law_is_whole" s__law_is_whole a__law_is_whole fd__law_is_whole
  B__law_is_whole : Binds K fd__law_is_whole ["value"] []
  g__law_is_whole : mg "_law_is_whole" = some (.ref a__law_is_whole)
  a__law_bytes : Addr
  fd__law_bytes : FuncData
  F__law_bytes : Fun K "_law_bytes" "_law_bytes" s__law_bytes a__law_bytes fd__law_bytes
  B__law_bytes : Binds K fd__law_bytes ["box", "most"] []
  g__law_bytes : mg "_law_bytes" = some (.ref a__law_bytes)
  a__law_tuple_is : Addr
  fd__law_tuple_is : FuncData
  F__law_tuple_is : Fun K "_law_tuple_is" "_law_tuple_is" s__law_tuple_is a__law_tuple_is fd__law_tuple_is
  B__law_tuple_is : Binds K fd__law_tuple_is ["told", "due"] []
  g__law_tuple_is : mg "_law_tuple_is" = some (.ref a__law_tuple_is)
  a__law_receiver : Addr
  fd__law_receiver : FuncData
  F__law_receiver : Fun K "_law_receiver" "_law_receiver" s__law_receiver a__law_receiver fd__law_receiver
  B__law_receiver : Binds K fd__law_receiver ["most"] []
  g__law_receiver : mg "_law_receiver" = some (.ref a__law_receiver)
  a__law_next : Addr
  fd__law_next : FuncData
  F__law_next : Fun K "_law_next" "_law_next" s__law_next a__law_next fd__law_next
  B__law_next : Binds K fd__law_next ["receiver"] []
  g__law_next : mg "_law_next" = some (.ref a__law_next)
  a__law_sender_is : Addr
  fd__law_sender_is : FuncData
  F__law_sender_is : Fun K "_law_sender_is" "_law_sender_is" s__law_sender_is a__law_sender_is fd__law_sender_is
  B__law_sender_is : Binds K fd__law_sender_is ["outbox", "sender"] []
  g__law_sender_is : mg "_law_sender_is" = some (.ref a__law_sender_is)
  a__law_receiver_is : Addr
  fd__law_receiver_is : FuncData
  F__law_receiver_is : Fun K "_law_receiver_is" "_law_receiver_is" s__law_receiver_is a__law_receiver_is fd__law_receiver_is
  B__law_receiver_is : Binds K fd__law_receiver_is ["inbox", "receiver", "sender"] []
  g__law_receiver_is : mg "_law_receiver_is" = some (.ref a__law_receiver_is)
  a__law_writes : Addr
  fd__law_writes : FuncData
  F__law_writes : Fun K "_law_writes" "_law_writes" s__law_writes a__law_writes fd__law_writes
  B__law_writes : Binds K fd__law_writes ["box", "outbox", "sender"] []
  g__law_writes : mg "_law_writes" = some (.ref a__law_writes)
  a__law_cuts : Addr
  fd__law_cuts : FuncData
  F__law_cuts : Fun K "_law_cuts" "_law_cuts" s__law_cuts a__law_cuts fd__law_cuts
  B__law_cuts : Binds K fd__law_cuts ["box", "outbox", "sender"] []
  g__law_cuts : mg "_law_cuts" = some (.ref a__law_cuts)
  a__law_arrives : Addr
  fd__law_arrives : FuncData
  F__law_arrives : Fun K "_law_arrives" "_law_arrives" s__law_arrives a__law_arrives fd__law_arrives
  B__law_arrives : Binds K fd__law_arrives ["inbox", "receiver", "offset", "data"] []
  g__law_arrives : mg "_law_arrives" = some (.ref a__law_arrives)
  a__law_delivers : Addr
  fd__law_delivers : FuncData
  F__law_delivers : Fun K "_law_delivers" "_law_delivers" s__law_delivers a__law_delivers fd__law_delivers
  B__law_delivers : Binds K fd__law_delivers ["box", "outbox", "inbox", "receiver", "sender"] []
  g__law_delivers : mg "_law_delivers" = some (.ref a__law_delivers)
  a__law_reads : Addr
  fd__law_reads : FuncData
  F__law_reads : Fun K "_law_reads" "_law_reads" s__law_reads a__law_reads fd__law_reads
  B__law_reads : Binds K fd__law_reads ["inbox", "receiver", "sender", "count"] []
  g__law_reads : mg "_law_reads" = some (.ref a__law_reads)
  a__law_releases : Addr
  fd__law_releases : FuncData
  F__law_releases : Fun K "_law_releases" "_law_releases" s__law_releases a__law_releases fd__law_releases
  B__law_releases : Binds K fd__law_releases ["outbox", "sender", "receivers"] []
  g__law_releases : mg "_law_releases" = some (.ref a__law_releases)
  a__law_deed : Addr
  fd__law_deed : FuncData
  F__law_deed : Fun K "_law_deed" "_law_deed" s__law_deed a__law_deed fd__law_deed
  B__law_deed : Binds K fd__law_deed ["box", "outbox", "sender", "inboxes", "receivers"] []
  g__law_deed : mg "_law_deed" = some (.ref a__law_deed)
  a__law_brings_all : Addr
  fd__law_brings_all : FuncData
  F__law_brings_all : Fun K "_law_brings_all" "_law_brings_all" s__law_brings_all a__law_brings_all fd__law_brings_all
  B__law_brings_all : Binds K fd__law_brings_all ["outbox", "inbox", "receiver", "sender"] []
  g__law_brings_all : mg "_law_brings_all" = some (.ref a__law_brings_all)
  a_law : Addr
  fd_law : FuncData
  F_law : Fun K "law" "law" s_law a_law fd_law
  B_law : Binds K fd_law ["script"] []
  g_law : mg "law" = some (.ref a_law)
  X_LossError : GCls mg "LossError" c_LossError
  X_InvalidNumber : XCls K mg "InvalidNumber" c_InvalidNumber a_InvalidNumber_init_
  nX_InvalidNumber : PySem.W.findIn K (.ref c_InvalidNumber) "number" = some none
  X_InvalidSetting : XCls K mg "InvalidSetting" c_InvalidSetting a_InvalidSetting_init_
  nX_InvalidSetting : PySem.W.findIn K (.ref c_InvalidSetting) "setting" = some none
  X_NotAllowed : XCls K mg "NotAllowed" c_NotAllowed a_NotAllowed_init_
  nX_NotAllowed : PySem.W.findIn K (.ref c_NotAllowed) "state" = some none
  b_NotImplemented : mg "NotImplemented" = none
  b_abs : mg "abs" = none
  b_bool : mg "bool" = none
  b_int : mg "int" = none
  b_isinstance : mg "isinstance" = none
  b_len : mg "len" = none
  b_list : mg "list" = none
  b_max : mg "max" = none
  b_min : mg "min" = none
  b_property : mg "property" = none
  b_range : mg "range" = none
  b_reversed : mg "reversed" = none
  b_sorted : mg "sorted" = none
  b_sum : mg "sum" = none
  b_tuple : mg "tuple" = none

section
variable {P : Program} {w : World} {K : PySem.W.Frag} {mg : Str → Option Value} {base : Heap}
/-! ### kinds of values -/
/-- whether x is an int and no bool, by its kind -/
def IntK (K : PySem.W.Frag) (H : Hp) (x : V) (r : Bool) : Prop := ∃ (t : Value) (i b : Bool), TyX K H x t ∧ PySem.W.kitOne K t (.type "int") = some i ∧ PySem.W.kitOne K t (.type "bool") = some b ∧ r = (i && !b)
theorem intK_int {K : PySem.W.Frag} {H : Hp} (n : Int) : IntK K H (.int n) true := ⟨.type "int", true, false, .base (.int n), kit_ty (by decide +kernel), kit_ty (by decide +kernel), rfl⟩
/-- isinstance(x, int) and not isinstance(x, bool) -/
def sp_is_integer (K : PySem.W.Frag) : Sp := fun vs H Q _ => ∃ (x : V) (r : Bool), vs = [x] ∧ IntK K H x r ∧ Q (.bl r) H
def sp_is_between (K : PySem.W.Frag) : Sp := fun vs H Q _ => ∃ (x : V) (lo hi : Int), vs = [x, .int lo, .int hi] ∧ ((∃ n, x = .int n ∧ Q (.bl (decide (lo ≤ n) && decide (n ≤ hi))) H) ∨ (IntK K H x false ∧ Q (.bl false) H))
theorem ok_is_integer (T : Txt K mg) : FnOk P w K mg base CX0 1 T.a_is_integer T.fd_is_integer ["value"] (sp_is_integer K) := by
  have S := sc_is_integer
  refine T.F_is_integer.ok S (fun vs H Q E h => ?_) (fun cdv A outer s H vs Q E hr h => ?_)
  · obtain ⟨x, r, rfl, _⟩ := h
    rfl
  · obtain ⟨x, r, rfl, ⟨t, i, b, ty, hi, hb, rfl⟩, k⟩ := h
    refine ⟨_, (pss_one (ps_ret (pe_and (pe_callB (id := "isinstance") call_isi (by rfl) T.b_isinstance (by decide +kernel) (pa_cons (pv 0) (pa_cons (pe_bltn (v := .ty "int") (u := .type "int") (by rfl) T.b_int (by decide +kernel) rfl) pa_nil))) (pe_one (pe_not (pe_callB (id := "isinstance") call_isi (by rfl) T.b_isinstance (by decide +kernel) (pa_cons (pv 0) (pa_cons (pe_bltn (v := .ty "bool") (u := .type "bool") (by rfl) T.b_bool (by decide +kernel) rfl) pa_nil)))))))), ?_⟩
    refine ⟨_, rfl, _, _, _, _, i, rfl, .ty _, ty, hi, i, rfl, ?_⟩
    cases i with
    | false => exact iteF k
    | true => exact iteT ⟨_, rfl, _, _, _, _, b, rfl, .ty _, ty, hb, b, rfl, k⟩
theorem ok_is_between (T : Txt K mg) : FnOk P w K mg base CX0 2 T.a_is_between T.fd_is_between ["value", "low", "high"] (sp_is_between K) := by
  have S := sc_is_between
  refine T.F_is_between.ok S (fun vs H Q E h => ?_) (fun cdv A outer s H vs Q E hr h => ?_)
  · obtain ⟨x, lo, hi, rfl, _⟩ := h
    rfl
  · obtain ⟨x, lo, hi, rfl, h⟩ := h
    refine ⟨_, (pss_one (ps_ret (pe_and (pe_call (ok_is_integer T) (hr.mono (by decide)) rfl T.g_is_integer T.F_is_integer.kp T.B_is_integer .nil pass0 (pa_cons (pv 0) pa_nil)) (pe_one (pe_chain op_le op_le (pv 1) (pv 0) (pv 2)))))), ?_⟩
    rcases h with ⟨n, rfl, k⟩ | ⟨hk, k⟩
    · refine ⟨_, rfl, _, true, rfl, intK_int n, true, rfl, iteT ?_⟩
      refine ⟨_, rfl, _, rfl, _, _, rfl, rfl, _, rfl, ?_⟩
      by_cases q : lo ≤ n
      · rw [decide_eq_true q, Bool.true_and] at k
        rw [decide_eq_true q]
        exact iteT ⟨_, rfl, _, _, rfl, rfl, k⟩
      · rw [decide_eq_false q, Bool.false_and] at k
        rw [decide_eq_false q]
        exact iteF k
    · exact ⟨_, rfl, _, false, rfl, hk, false, rfl, iteF k⟩
/-! ### sequences, items by their kinds -/
theorem tyX_same {K : PySem.W.Frag} {H H' : Hp} {x : V} {t : Value} (h : TyX K H x t) (s : Same H H') : TyX K H' x t := by
  cases h with
  | base b =>
    refine .base ?_
    cases b with
    | non => exact .non
    | bl y => exact .bl y
    | int i => exact .int i
    | str y => exact .str y
    | flt y => exact .flt y
    | lst e => exact .lst (s _ _ e)
    | frz e => exact .frz (s _ _ e)
    | tup e => exact .tup (s _ _ e)
    | dK e => exact .dK (s _ _ e)
    | dT e => exact .dT (s _ _ e)
    | ins e cl ha hn ht hm => exact .ins (s _ _ e) cl ha hn ht hm
  | byt b => exact .byt b
  | set e => exact .set (s _ _ e)
  | kList e c => exact .kList e c
  | kTuple e c => exact .kTuple e c
  | kDict e c => exact .kDict e c
  | fTuple e => exact .fTuple (s _ _ e)
  | fDict e => exact .fDict (s _ _ e)
theorem IntK.same {K : PySem.W.Frag} {H H' : Hp} {x : V} {r : Bool} (h : IntK K H x r) (s : Same H H') : IntK K H' x r := by
  obtain ⟨t, i, b, ty, h1, h2, h3⟩ := h
  exact ⟨t, i, b, tyX_same ty s, h1, h2, h3⟩
/-- x is the int n, or no int at all -/
def Kd (K : PySem.W.Frag) (H : Hp) (x : V) : Option Int → Prop
  | some n => x = .int n
  | none => IntK K H x false
theorem Kd.same {K : PySem.W.Frag} {H H' : Hp} {x : V} {o : Option Int} (h : Kd K H x o) (s : Same H H') : Kd K H' x o := by
  cases o with
  | some n => exact h
  | none => exact IntK.same h s
/-- what lies in lo .. hi -/
def inR (lo hi : Int) : Option Int → Bool
  | some n => decide (lo ≤ n) && decide (n ≤ hi)
  | none => false
/-- a list or a tuple -/
def SeqA (K : PySem.W.Frag) (H : Hp) (a : Addr) (xs : List V) : Prop := SqL K H a xs ∨ SqT K H a xs
theorem SeqA.lst {K : PySem.W.Frag} {H : Hp} {a : Addr} {xs : List V} (h : H a = some (.lst xs)) : SeqA K H a xs := .inl (SqL.of h)
theorem SeqA.tup {K : PySem.W.Frag} {H : Hp} {a : Addr} {xs : List V} (h : H a = some (.tup xs)) : SeqA K H a xs := .inr (SqT.of h)
theorem SeqA.sm {K : PySem.W.Frag} {H H' : Hp} {a : Addr} {xs : List V} (h : SeqA K H a xs) (s : Same H H') : SeqA K H' a xs := h.elim (fun h => .inl (s.seq h)) fun h => .inr (sqT_sm h s)
/-- whether x is a sequence, by its kind -/
def SeqK (K : PySem.W.Frag) (H : Hp) (x : V) (r : Bool) : Prop := ∃ t, TyX K H x t ∧ PySem.W.kitAny K t [.type "list", .type "tuple"] = some r
theorem kit2 {K : PySem.W.Frag} {t : Value} {a b : Bool} (h1 : PySem.W.kitOne K t (.type "list") = some a) (h2 : PySem.W.kitOne K t (.type "tuple") = some b) : PySem.W.kitAny K t [.type "list", .type "tuple"] = some (a || b) := by
  unfold PySem.W.kitAny
  rw [h1]
  cases a with
  | true => rfl
  | false =>
    show PySem.W.kitAny K t [.type "tuple"] = some b
    unfold PySem.W.kitAny
    rw [h2]
    cases b <;> rfl
theorem seqK_ty {K : PySem.W.Frag} {H : Hp} {x : V} {n : String} {a b : Bool} (t : TyX K H x (.type n)) (h1 : kitB n "list" = some a) (h2 : kitB n "tuple" = some b) : SeqK K H x (a || b) := ⟨_, t, kit2 (kit_ty h1) (kit_ty h2)⟩
theorem seqK_of {K : PySem.W.Frag} {H : Hp} {a : Addr} {xs : List V} (h : SeqA K H a xs) : SeqK K H (.ref a) true := by
  rcases h with h | h
  · rcases h with (h | ⟨o, h⟩) | ⟨o, its, n, hk, hc, _⟩
    · exact seqK_ty (a := true) (b := false) (.base (.lst h)) (by decide +kernel) (by decide +kernel)
    · exact seqK_ty (a := true) (b := false) (.base (.frz h)) (by decide +kernel) (by decide +kernel)
    · exact seqK_ty (a := true) (b := false) (.kList hk hc) (by decide +kernel) (by decide +kernel)
  · rcases h with (h | ⟨o, h⟩) | ⟨o, its, n, hk, hc, _⟩
    · exact seqK_ty (a := false) (b := true) (.base (.tup h)) (by decide +kernel) (by decide +kernel)
    · exact seqK_ty (a := false) (b := true) (.fTuple h) (by decide +kernel) (by decide +kernel)
    · exact seqK_ty (a := false) (b := true) (.kTuple hk hc) (by decide +kernel) (by decide +kernel)
/-! ### lists stay lists -/
def Typ (H H' : Hp) : Prop := ∀ a o, H a = some o → H' a = some o ∨ ((∃ xs, o = .lst xs) ∧ ∃ ys, H' a = some (.lst ys))
theorem Typ.refl (H : Hp) : Typ H H := fun _ _ h => .inl h
theorem Typ.of {H H' : Hp} (s : Same H H') : Typ H H' := fun _ _ h => .inl (s _ _ h)
theorem Typ.trans {H H1 H2 : Hp} (x : Typ H H1) (y : Typ H1 H2) : Typ H H2 := fun a o h => by
  rcases x a o h with h1 | ⟨hx, ys, h1⟩
  · exact y a o h1
  · rcases y a _ h1 with h2 | ⟨_, zs, h2⟩
    · exact .inr ⟨hx, ys, h2⟩
    · exact .inr ⟨hx, zs, h2⟩
theorem Typ.upd {H : Hp} {a : Addr} {xs ys : List V} (h : H a = some (.lst xs)) : Typ H (L2.upd H a (.lst ys)) := fun b o hb => by
  by_cases q : b = a
  · subst q
    rw [h] at hb
    cases hb
    exact .inr ⟨⟨_, rfl⟩, ys, upd_same⟩
  · exact .inl (by rw [upd_ne q]; exact hb)
theorem Typ.purse {H H' : Hp} {p c : Addr} (P : Purse p c H) (P' : Purse p c H') (s : SameX p H H') : Typ H H' := fun b o hb => by
  by_cases q : b = p
  · subst q
    obtain ⟨⟨xs, h⟩, _⟩ := P.there
    obtain ⟨⟨ys, h'⟩, _⟩ := P'.there
    rw [h] at hb
    cases hb
    exact .inr ⟨⟨_, rfl⟩, ys, h'⟩
  · exact .inl (s b o q hb)
theorem tyX_typ {K : PySem.W.Frag} {H H' : Hp} {x : V} {t : Value} (h : TyX K H x t) (s : Typ H H') : TyX K H' x t := by
  cases h with
  | base b =>
    refine .base ?_
    cases b with
    | non => exact .non
    | bl y => exact .bl y
    | int i => exact .int i
    | str y => exact .str y
    | flt y => exact .flt y
    | lst e => exact (s _ _ e).elim (fun h => .lst h) fun ⟨_, ys, h⟩ => .lst h
    | frz e => exact (s _ _ e).elim (fun h => .frz h) fun ⟨⟨_, z⟩, _⟩ => nomatch z
    | tup e => exact (s _ _ e).elim (fun h => .tup h) fun ⟨⟨_, z⟩, _⟩ => nomatch z
    | dK e => exact (s _ _ e).elim (fun h => .dK h) fun ⟨⟨_, z⟩, _⟩ => nomatch z
    | dT e => exact (s _ _ e).elim (fun h => .dT h) fun ⟨⟨_, z⟩, _⟩ => nomatch z
    | ins e cl ha hn ht hm => exact (s _ _ e).elim (fun h => .ins h cl ha hn ht hm) fun ⟨⟨_, z⟩, _⟩ => nomatch z
  | byt b => exact .byt b
  | set e => exact (s _ _ e).elim (fun h => .set h) fun ⟨⟨_, z⟩, _⟩ => nomatch z
  | kList e c => exact .kList e c
  | kTuple e c => exact .kTuple e c
  | kDict e c => exact .kDict e c
  | fTuple e => exact (s _ _ e).elim (fun h => .fTuple h) fun ⟨⟨_, z⟩, _⟩ => nomatch z
  | fDict e => exact (s _ _ e).elim (fun h => .fDict h) fun ⟨⟨_, z⟩, _⟩ => nomatch z
theorem Kd.typ {K : PySem.W.Frag} {H H' : Hp} {x : V} {o : Option Int} (h : Kd K H x o) (s : Typ H H') : Kd K H' x o := by
  cases o with
  | some n => exact h
  | none =>
    obtain ⟨t, i, b, ty, h1, h2, h3⟩ := (show IntK K H x false from h)
    exact ⟨t, i, b, tyX_typ ty s, h1, h2, h3⟩
theorem intK_no {K : PySem.W.Frag} {H : Hp} {x : V} {n : String} {i b : Bool} (t : TyX K H x (.type n)) (h1 : kitB n "int" = some i) (h2 : kitB n "bool" = some b) (h : (i && !b) = false) : IntK K H x false := ⟨_, i, b, t, kit_ty h1, kit_ty h2, h.symm⟩
theorem ixN_nat {n j : Nat} {z : Int} (e : z = (j : Int)) (h : j < n) : ixN n z = some j := by
  subst e
  unfold ixN
  rw [if_pos (by omega), if_pos (by omega)]
  rfl
/-! ### equality of words -/
theorem dec_int (a b : Int) : decide (V.int a = V.int b) = decide (a = b) := by
  by_cases e : a = b
  · rw [decide_eq_true e, decide_eq_true (congrArg V.int e)]
  · rw [decide_eq_false e, decide_eq_false (fun q => e (V.int.inj q))]
theorem dec_bl (a b : Bool) : decide (V.bl a = V.bl b) = (a == b) := by
  cases a <;> cases b <;> rfl
/-! ### steps: readings by their form -/
section
variable {K : PySem.W.Frag} {σ : L2.St} {H : Hp} {Q : VK} {QL : List V → Hp → Prop} {QB : Bool → Hp → Prop} {QO : Option Int → Hp → Prop} {QS : L2.St → Hp → Prop} {v w : V} {a0 a1 a2 a3 a4 a5 a6 a7 a8 a9 a10 a11 a12 a13 a14 a15 a16 a17 a18 a19 : Option V} {te tb tc : TE} {ta : TA} {t u : TT} {ts us : TS} {D : Ends} {g : TG}
def rTupOf (K : PySem.W.Frag) : List V → Hp → VK → Prop := fun xs H Q => ∃ p ys, xs = [.ref p] ∧ ((SqL K H p ys ∧ ∀ l, H l = none → Q (.ref l) (L2.upd H l (.tup ys))) ∨ SqT K H p ys ∧ Q (.ref p) H)
theorem call_tupK {X : Cx} {K : PySem.W.Frag} (e : X.K = K) : CallR X (.type "tuple") (rTupOf K) := e ▸ call_tuple_of
def rLstOf (K : PySem.W.Frag) : List V → Hp → VK → Prop := fun xs H Q => ∃ p ys, xs = [.ref p] ∧ (SqL K H p ys ∨ SqT K H p ys) ∧ ∀ l, H l = none → Q (.ref l) (L2.upd H l (.lst ys))
theorem call_listK {X : Cx} {K : PySem.W.Frag} (e : X.K = K) : CallR X (.type "list") (rLstOf K) := e ▸ call_list_of
def rLenOf (K : PySem.W.Frag) : List V → Hp → VK → Prop := fun xs H Q => ∃ p ys, xs = [.ref p] ∧ (SqL K H p ys ∨ SqT K H p ys) ∧ Q (.int (ys.length : Int)) H
theorem call_lenK {X : Cx} {K : PySem.W.Frag} (e : X.K = K) : CallR X (.builtin "len") (rLenOf K) := e ▸ call_len_seq
theorem all_cons {α : Type} {p : α → Prop} {a : α} {l : List α} (h : p a) (r : ∀ q ∈ l, p q) : ∀ q ∈ a :: l, p q := fun q hq => by
  rcases List.mem_cons.mp hq with e | e
  · rw [e]; exact h
  · exact r q e
theorem x_v0 (q : Q v H) : tVar 0 (some v :: σ) H Q := ⟨_, rfl, q⟩
theorem x_g0 (q : QS (some v :: σ) H) : gName 0 v (a0 :: σ) H QS := q
theorem x_v1 (q : Q v H) : tVar 1 (a0 :: some v :: σ) H Q := ⟨_, rfl, q⟩
theorem x_g1 (q : QS (a0 :: some v :: σ) H) : gName 1 v (a0 :: a1 :: σ) H QS := q
theorem x_v2 (q : Q v H) : tVar 2 (a0 :: a1 :: some v :: σ) H Q := ⟨_, rfl, q⟩
theorem x_g2 (q : QS (a0 :: a1 :: some v :: σ) H) : gName 2 v (a0 :: a1 :: a2 :: σ) H QS := q
theorem x_v3 (q : Q v H) : tVar 3 (a0 :: a1 :: a2 :: some v :: σ) H Q := ⟨_, rfl, q⟩
theorem x_g3 (q : QS (a0 :: a1 :: a2 :: some v :: σ) H) : gName 3 v (a0 :: a1 :: a2 :: a3 :: σ) H QS := q
theorem x_v4 (q : Q v H) : tVar 4 (a0 :: a1 :: a2 :: a3 :: some v :: σ) H Q := ⟨_, rfl, q⟩
theorem x_g4 (q : QS (a0 :: a1 :: a2 :: a3 :: some v :: σ) H) : gName 4 v (a0 :: a1 :: a2 :: a3 :: a4 :: σ) H QS := q
theorem x_v5 (q : Q v H) : tVar 5 (a0 :: a1 :: a2 :: a3 :: a4 :: some v :: σ) H Q := ⟨_, rfl, q⟩
theorem x_g5 (q : QS (a0 :: a1 :: a2 :: a3 :: a4 :: some v :: σ) H) : gName 5 v (a0 :: a1 :: a2 :: a3 :: a4 :: a5 :: σ) H QS := q
theorem x_v6 (q : Q v H) : tVar 6 (a0 :: a1 :: a2 :: a3 :: a4 :: a5 :: some v :: σ) H Q := ⟨_, rfl, q⟩
theorem x_g6 (q : QS (a0 :: a1 :: a2 :: a3 :: a4 :: a5 :: some v :: σ) H) : gName 6 v (a0 :: a1 :: a2 :: a3 :: a4 :: a5 :: a6 :: σ) H QS := q
theorem x_v7 (q : Q v H) : tVar 7 (a0 :: a1 :: a2 :: a3 :: a4 :: a5 :: a6 :: some v :: σ) H Q := ⟨_, rfl, q⟩
theorem x_g7 (q : QS (a0 :: a1 :: a2 :: a3 :: a4 :: a5 :: a6 :: some v :: σ) H) : gName 7 v (a0 :: a1 :: a2 :: a3 :: a4 :: a5 :: a6 :: a7 :: σ) H QS := q
theorem x_v8 (q : Q v H) : tVar 8 (a0 :: a1 :: a2 :: a3 :: a4 :: a5 :: a6 :: a7 :: some v :: σ) H Q := ⟨_, rfl, q⟩
theorem x_g8 (q : QS (a0 :: a1 :: a2 :: a3 :: a4 :: a5 :: a6 :: a7 :: some v :: σ) H) : gName 8 v (a0 :: a1 :: a2 :: a3 :: a4 :: a5 :: a6 :: a7 :: a8 :: σ) H QS := q
theorem x_v9 (q : Q v H) : tVar 9 (a0 :: a1 :: a2 :: a3 :: a4 :: a5 :: a6 :: a7 :: a8 :: some v :: σ) H Q := ⟨_, rfl, q⟩
theorem x_g9 (q : QS (a0 :: a1 :: a2 :: a3 :: a4 :: a5 :: a6 :: a7 :: a8 :: some v :: σ) H) : gName 9 v (a0 :: a1 :: a2 :: a3 :: a4 :: a5 :: a6 :: a7 :: a8 :: a9 :: σ) H QS := q
theorem x_v10 (q : Q v H) : tVar 10 (a0 :: a1 :: a2 :: a3 :: a4 :: a5 :: a6 :: a7 :: a8 :: a9 :: some v :: σ) H Q := ⟨_, rfl, q⟩
theorem x_g10 (q : QS (a0 :: a1 :: a2 :: a3 :: a4 :: a5 :: a6 :: a7 :: a8 :: a9 :: some v :: σ) H) : gName 10 v (a0 :: a1 :: a2 :: a3 :: a4 :: a5 :: a6 :: a7 :: a8 :: a9 :: a10 :: σ) H QS := q
theorem x_v11 (q : Q v H) : tVar 11 (a0 :: a1 :: a2 :: a3 :: a4 :: a5 :: a6 :: a7 :: a8 :: a9 :: a10 :: some v :: σ) H Q := ⟨_, rfl, q⟩
theorem x_g11 (q : QS (a0 :: a1 :: a2 :: a3 :: a4 :: a5 :: a6 :: a7 :: a8 :: a9 :: a10 :: some v :: σ) H) : gName 11 v (a0 :: a1 :: a2 :: a3 :: a4 :: a5 :: a6 :: a7 :: a8 :: a9 :: a10 :: a11 :: σ) H QS := q
theorem x_v12 (q : Q v H) : tVar 12 (a0 :: a1 :: a2 :: a3 :: a4 :: a5 :: a6 :: a7 :: a8 :: a9 :: a10 :: a11 :: some v :: σ) H Q := ⟨_, rfl, q⟩
theorem x_g12 (q : QS (a0 :: a1 :: a2 :: a3 :: a4 :: a5 :: a6 :: a7 :: a8 :: a9 :: a10 :: a11 :: some v :: σ) H) : gName 12 v (a0 :: a1 :: a2 :: a3 :: a4 :: a5 :: a6 :: a7 :: a8 :: a9 :: a10 :: a11 :: a12 :: σ) H QS := q
theorem x_v13 (q : Q v H) : tVar 13 (a0 :: a1 :: a2 :: a3 :: a4 :: a5 :: a6 :: a7 :: a8 :: a9 :: a10 :: a11 :: a12 :: some v :: σ) H Q := ⟨_, rfl, q⟩
theorem x_g13 (q : QS (a0 :: a1 :: a2 :: a3 :: a4 :: a5 :: a6 :: a7 :: a8 :: a9 :: a10 :: a11 :: a12 :: some v :: σ) H) : gName 13 v (a0 :: a1 :: a2 :: a3 :: a4 :: a5 :: a6 :: a7 :: a8 :: a9 :: a10 :: a11 :: a12 :: a13 :: σ) H QS := q
theorem x_v14 (q : Q v H) : tVar 14 (a0 :: a1 :: a2 :: a3 :: a4 :: a5 :: a6 :: a7 :: a8 :: a9 :: a10 :: a11 :: a12 :: a13 :: some v :: σ) H Q := ⟨_, rfl, q⟩
theorem x_g14 (q : QS (a0 :: a1 :: a2 :: a3 :: a4 :: a5 :: a6 :: a7 :: a8 :: a9 :: a10 :: a11 :: a12 :: a13 :: some v :: σ) H) : gName 14 v (a0 :: a1 :: a2 :: a3 :: a4 :: a5 :: a6 :: a7 :: a8 :: a9 :: a10 :: a11 :: a12 :: a13 :: a14 :: σ) H QS := q
theorem x_v15 (q : Q v H) : tVar 15 (a0 :: a1 :: a2 :: a3 :: a4 :: a5 :: a6 :: a7 :: a8 :: a9 :: a10 :: a11 :: a12 :: a13 :: a14 :: some v :: σ) H Q := ⟨_, rfl, q⟩
theorem x_g15 (q : QS (a0 :: a1 :: a2 :: a3 :: a4 :: a5 :: a6 :: a7 :: a8 :: a9 :: a10 :: a11 :: a12 :: a13 :: a14 :: some v :: σ) H) : gName 15 v (a0 :: a1 :: a2 :: a3 :: a4 :: a5 :: a6 :: a7 :: a8 :: a9 :: a10 :: a11 :: a12 :: a13 :: a14 :: a15 :: σ) H QS := q
theorem x_v16 (q : Q v H) : tVar 16 (a0 :: a1 :: a2 :: a3 :: a4 :: a5 :: a6 :: a7 :: a8 :: a9 :: a10 :: a11 :: a12 :: a13 :: a14 :: a15 :: some v :: σ) H Q := ⟨_, rfl, q⟩
theorem x_g16 (q : QS (a0 :: a1 :: a2 :: a3 :: a4 :: a5 :: a6 :: a7 :: a8 :: a9 :: a10 :: a11 :: a12 :: a13 :: a14 :: a15 :: some v :: σ) H) : gName 16 v (a0 :: a1 :: a2 :: a3 :: a4 :: a5 :: a6 :: a7 :: a8 :: a9 :: a10 :: a11 :: a12 :: a13 :: a14 :: a15 :: a16 :: σ) H QS := q
theorem x_v17 (q : Q v H) : tVar 17 (a0 :: a1 :: a2 :: a3 :: a4 :: a5 :: a6 :: a7 :: a8 :: a9 :: a10 :: a11 :: a12 :: a13 :: a14 :: a15 :: a16 :: some v :: σ) H Q := ⟨_, rfl, q⟩
theorem x_g17 (q : QS (a0 :: a1 :: a2 :: a3 :: a4 :: a5 :: a6 :: a7 :: a8 :: a9 :: a10 :: a11 :: a12 :: a13 :: a14 :: a15 :: a16 :: some v :: σ) H) : gName 17 v (a0 :: a1 :: a2 :: a3 :: a4 :: a5 :: a6 :: a7 :: a8 :: a9 :: a10 :: a11 :: a12 :: a13 :: a14 :: a15 :: a16 :: a17 :: σ) H QS := q
theorem x_v18 (q : Q v H) : tVar 18 (a0 :: a1 :: a2 :: a3 :: a4 :: a5 :: a6 :: a7 :: a8 :: a9 :: a10 :: a11 :: a12 :: a13 :: a14 :: a15 :: a16 :: a17 :: some v :: σ) H Q := ⟨_, rfl, q⟩
theorem x_g18 (q : QS (a0 :: a1 :: a2 :: a3 :: a4 :: a5 :: a6 :: a7 :: a8 :: a9 :: a10 :: a11 :: a12 :: a13 :: a14 :: a15 :: a16 :: a17 :: some v :: σ) H) : gName 18 v (a0 :: a1 :: a2 :: a3 :: a4 :: a5 :: a6 :: a7 :: a8 :: a9 :: a10 :: a11 :: a12 :: a13 :: a14 :: a15 :: a16 :: a17 :: a18 :: σ) H QS := q
theorem x_v19 (q : Q v H) : tVar 19 (a0 :: a1 :: a2 :: a3 :: a4 :: a5 :: a6 :: a7 :: a8 :: a9 :: a10 :: a11 :: a12 :: a13 :: a14 :: a15 :: a16 :: a17 :: a18 :: some v :: σ) H Q := ⟨_, rfl, q⟩
theorem x_g19 (q : QS (a0 :: a1 :: a2 :: a3 :: a4 :: a5 :: a6 :: a7 :: a8 :: a9 :: a10 :: a11 :: a12 :: a13 :: a14 :: a15 :: a16 :: a17 :: a18 :: some v :: σ) H) : gName 19 v (a0 :: a1 :: a2 :: a3 :: a4 :: a5 :: a6 :: a7 :: a8 :: a9 :: a10 :: a11 :: a12 :: a13 :: a14 :: a15 :: a16 :: a17 :: a18 :: a19 :: σ) H QS := q
theorem x_c (q : Q v H) : tC v σ H Q := q
theorem x_op {r : R2} (q : te σ H fun x H1 => tb σ H1 fun y H2 => r x y H2 Q) : tOp r te tb σ H Q := q
theorem x_un {r : V → Hp → VK → Prop} (q : te σ H fun x H1 => r x H1 Q) : tUn r te σ H Q := q
theorem x_test (q : te σ H fun x H1 => ∃ k, x = .bl k ∧ QB k H1) : tTest te σ H QB := q
theorem x_tB (q : te σ H fun x H1 => ∃ k, x = .bl k ∧ QB k H1) : tB te σ H QB := q
theorem x_and (q : t σ H fun c H1 => if c = true then u σ H1 QB else QB false H1) : tAnd t u σ H QB := q
theorem x_or (q : t σ H fun c H1 => if c = true then QB true H1 else u σ H1 QB) : tOr t u σ H QB := q
theorem x_not (q : t σ H fun c H1 => QB (!c) H1) : tNot t σ H QB := q
theorem x_andV (q : te σ H fun x H1 => ∃ c, x = .bl c ∧ if c = true then tb σ H1 Q else Q (.bl false) H1) : tAndV te tb σ H Q := q
theorem x_orV (q : te σ H fun x H1 => ∃ c, x = .bl c ∧ if c = true then Q (.bl true) H1 else tb σ H1 Q) : tOrV te tb σ H Q := q
theorem x_notV (q : te σ H fun x H1 => ∃ c, x = .bl c ∧ Q (.bl (!c)) H1) : tNotV te σ H Q := q
theorem x_if (q : t σ H fun c H1 => if c = true then te σ H1 Q else tb σ H1 Q) : tIf t te tb σ H Q := q
theorem x_ifS (q : t σ H fun b H1 => if b = true then ts D σ H1 else us D σ H1) : tIfS t ts us D σ H := q
theorem x_seq (q : ts ⟨us D, D.rt, D.bk, D.ct⟩ σ H) : tSeq ts us D σ H := q
theorem x_next (q : D.nx σ H) : tNext D σ H := q
theorem x_brk (q : D.bk σ H) : tBreak D σ H := q
theorem x_cont (q : D.ct σ H) : tCont D σ H := q
theorem x_nx {f : L2.St → Hp → Prop} {r : VK} {b c : L2.St → Hp → Prop} (q : f σ H) : Ends.nx ⟨f, r, b, c⟩ σ H := q
theorem x_rt {f : VK} {n b c : L2.St → Hp → Prop} (q : f v H) : Ends.rt ⟨n, f, b, c⟩ v H := q
theorem x_bk {f : L2.St → Hp → Prop} {r : VK} {n c : L2.St → Hp → Prop} (q : f σ H) : Ends.bk ⟨n, r, f, c⟩ σ H := q
theorem x_ct {f : L2.St → Hp → Prop} {r : VK} {n b : L2.St → Hp → Prop} (q : f σ H) : Ends.ct ⟨n, r, b, f⟩ σ H := q
theorem x_drop (q : te σ H fun _ H1 => D.nx σ H1) : tDrop te D σ H := q
theorem x_ret (q : te σ H fun x H1 => D.rt x H1) : tRet te D σ H := q
theorem x_retN (q : D.rt .non H) : tRetN D σ H := q
theorem x_asg (q : te σ H fun x H1 => g x σ H1 D.nx) : tAsg te g D σ H := q
theorem x_nil (q : QL [] H) : tNil σ H QL := q
theorem x_cons (q : te σ H fun x H1 => ta σ H1 fun xs H2 => QL (x :: xs) H2) : tCons te ta σ H QL := q
theorem x_call {sp : Sp} {dvs : List V} {E : XK} (q : ta σ H fun vs H1 => sp (vs ++ dvs) H1 Q E) : tCall sp dvs E ta σ H Q := q
theorem x_cb {r : List V → Hp → VK → Prop} (q : ta σ H fun vs H1 => r vs H1 Q) : tCB r ta σ H Q := q
theorem x_bm {T : String} {r : V → List V → Hp → VK → Prop} (q : te σ H fun x H1 => tyV K T x H1 ∧ ta σ H1 fun xs H2 => r x xs H2 Q) : tBM K T r te ta σ H Q := q
theorem x_sl {r : V → Option Int → Option Int → Hp → VK → Prop} {tl th : TO} (q : te σ H fun x H1 => tl σ H1 fun l H2 => th σ H2 fun u H3 => r x l u H3 Q) : tSl r te tl th σ H Q := q
theorem x_np (q : QO none H) : tNoPart σ H QO := q
theorem x_pt (q : te σ H fun x H1 => ∃ i, x = .int i ∧ QO (some i) H1) : tPart te σ H QO := q
theorem x_exI {P : Int → Prop} {i : Int} (q : P i) : ∃ k, V.int i = V.int k ∧ P k := ⟨_, rfl, q⟩
theorem x_exB {P : Bool → Prop} {b : Bool} (q : P b) : ∃ k, V.bl b = V.bl k ∧ P k := ⟨_, rfl, q⟩
theorem x_I0 {f : Int → Int → V} {i j : Int} (q : Q (f i j) H) : rI0 f (.int i) (.int j) H Q := ⟨_, _, rfl, rfl, q⟩
theorem x_eqI {i j : Int} (q : Q (.bl (decide (i = j))) H) : rEq (.int i) (.int j) H Q := ⟨rfl, by rw [My.dec_int]; exact q⟩
theorem x_neI {i j : Int} (q : Q (.bl (!decide (i = j))) H) : rNe (.int i) (.int j) H Q := ⟨rfl, by rw [My.dec_int]; exact q⟩
theorem x_eqS {i j : Str} (q : Q (.bl (decide (i = j))) H) : rEq (.str i) (.str j) H Q := ⟨rfl, by
  have e : decide (V.str i = V.str j) = decide (i = j) := by
    by_cases h : i = j
    · rw [decide_eq_true h, decide_eq_true (congrArg V.str h)]
    · rw [decide_eq_false h, decide_eq_false (fun z => h (V.str.inj z))]
  rw [e]; exact q⟩
theorem x_neS {i j : Str} (q : Q (.bl (!decide (i = j))) H) : rNe (.str i) (.str j) H Q := ⟨rfl, by
  have e : decide (V.str i = V.str j) = decide (i = j) := by
    by_cases h : i = j
    · rw [decide_eq_true h, decide_eq_true (congrArg V.str h)]
    · rw [decide_eq_false h, decide_eq_false (fun z => h (V.str.inj z))]
  rw [e]; exact q⟩
def brB (b : Bool) (p q : Prop) : Prop := (b = true → p) ∧ (b = false → q)
theorem x_ite {b : Bool} {p q : Prop} (h : brB b p q) : if b = true then p else q := by
  cases b with
  | true => rw [if_pos rfl]; exact h.1 rfl
  | false => rw [if_neg Bool.false_ne_true]; exact h.2 rfl
theorem x_brT {p q : Prop} (h : p) : brB true p q := ⟨fun _ => h, fun z => nomatch z⟩
theorem x_brF {p q : Prop} (h : q) : brB false p q := ⟨fun z => (nomatch z), fun _ => h⟩
theorem x_brN {b : Bool} {p q : Prop} (h : brB b q p) : brB (!b) p q := by
  cases b with
  | true => exact x_brF (h.1 rfl)
  | false => exact x_brT (h.2 rfl)
theorem br2 {b : Bool} {p q : Prop} (h1 : b = true → p) (h2 : b = false → q) : brB b p q := ⟨h1, h2⟩
theorem brD {c : Prop} [Decidable c] {p q : Prop} (h1 : c → p) (h2 : ¬ c → q) : brB (decide c) p q := ⟨fun h => h1 (of_decide_eq_true h), fun h => h2 (of_decide_eq_false h)⟩
theorem brT {b : Bool} {p q : Prop} (e : b = true) (h : p) : brB b p q := ⟨fun _ => h, fun z => by rw [e] at z; cases z⟩
theorem brF {b : Bool} {p q : Prop} (e : b = false) (h : q) : brB b p q := ⟨fun z => (by rw [e] at z; cases z), fun _ => h⟩
theorem brDT {c : Prop} [Decidable c] {p q : Prop} (e : c) (h : p) : brB (decide c) p q := brT (decide_eq_true e) h
theorem brDF {c : Prop} [Decidable c] {p q : Prop} (e : ¬ c) (h : q) : brB (decide c) p q := brF (decide_eq_false e) h
theorem x_ixL {a : Addr} {xs : List V} {i : Int} (h : H a = some (.lst xs)) (hi : atI xs i = some v) (q : Q v H) : rIxL K (.ref a) (.int i) H Q := ⟨_, _, _, _, rfl, rfl, SqL.of h, hi, q⟩
theorem x_ixT {a : Addr} {xs : List V} {i : Int} (h : H a = some (.tup xs)) (hi : atI xs i = some v) (q : Q v H) : rIxT K (.ref a) (.int i) H Q := ⟨_, _, _, _, rfl, rfl, SqT.of h, hi, q⟩
def rNewL (xs : List V) (H : Hp) (Q : VK) : Prop := xs.length ≤ sizeLine ∧ ∀ p, H p = none → Q (.ref p) (L2.upd H p (.lst xs))
def rNewT (xs : List V) (H : Hp) (Q : VK) : Prop := xs.length ≤ sizeLine ∧ ∀ p, H p = none → Q (.ref p) (L2.upd H p (.tup xs))
theorem x_lst (q : ta σ H fun xs H1 => rNewL xs H1 Q) : tLst ta σ H Q := q
theorem x_tup (q : ta σ H fun xs H1 => rNewT xs H1 Q) : tTup ta σ H Q := q
theorem x_new {n : Nat} {P : Prop} (h : n ≤ 100000) (q : P) : n ≤ sizeLine ∧ P := ⟨Nat.le_trans h (by decide), q⟩
theorem x_sFld {f : Str} (q : tb σ H fun y H1 => te σ H1 fun x H2 => ∃ a C dx fs, x = .ref a ∧ H2 a = some (.ins C dx fs) ∧ Cls K C ∧ NoAttr K C f ∧ fs.length < 1000 ∧ D.nx σ (L2.upd H2 a (.ins C dx (putF f y fs)))) : sFld K te tb f D σ H := q
theorem x_fld {f : Str} (q : te σ H fun x H1 => ∃ a C dx fs v, x = .ref a ∧ H1 a = some (.ins C dx fs) ∧ Cls K C ∧ NoAttr K C f ∧ fs.lookup f = some v ∧ Q v H1) : tFld K te f σ H Q := q
/-- a field is stored -/
theorem fstore {f : Str} {y : V} {p C dx : Addr} {fs fs' : List (Str × V)} {P : Hp → Prop} (h : H p = some (.ins C dx fs)) (c : Cls K C) (n : NoAttr K C f) (l : fs.length < 1000) (e : putF f y fs = fs') (q : ∀ H', SameX p H H' → H' p = some (.ins C dx fs') → P H') :
    ∃ a C dx fs, V.ref p = .ref a ∧ H a = some (.ins C dx fs) ∧ Cls K C ∧ NoAttr K C f ∧ fs.length < 1000 ∧ P (L2.upd H a (.ins C dx (putF f y fs))) := ⟨p, C, dx, fs, rfl, h, c, n, l, q _ SameX.upd (by rw [e]; exact upd_same)⟩
/-- a field is read -/
theorem fget {f : Str} {v : V} {p C dx : Addr} {fs : List (Str × V)} {P : V → Prop} (h : H p = some (.ins C dx fs)) (c : Cls K C) (n : NoAttr K C f) (e : fs.lookup f = some v) (q : P v) :
    ∃ a C dx fs v, V.ref p = .ref a ∧ H a = some (.ins C dx fs) ∧ Cls K C ∧ NoAttr K C f ∧ fs.lookup f = some v ∧ P v := ⟨p, C, dx, fs, v, rfl, h, c, n, e, q⟩
/-- tuple(seq) -/
theorem tupleOf {a : Addr} {xs : List V} (h : SeqA K H a xs) (q : ∀ l H', Same H H' → SqT K H' l xs → Q (.ref l) H') :
    rTupOf K [.ref a] H Q :=
  ⟨a, xs, rfl, h.elim (fun h => .inl ⟨h, fun l hl => q l _ (Same.new hl) (SqT.of upd_same)⟩) fun h => .inr ⟨h, q a H (Same.refl H) h⟩⟩
/-- list(seq) -/
theorem listOf {a : Addr} {xs : List V} (h : SeqA K H a xs) (q : ∀ l H', H l = none → Same H H' → H' l = some (.lst xs) → Q (.ref l) H') :
    rLstOf K [.ref a] H Q := ⟨a, xs, rfl, h, fun l hl => q l _ hl (Same.new hl) upd_same⟩
/-- new lists, new tuples, sums of lists, appends, by what stands afterwards -/
theorem newList {xs : List V} (h : xs.length ≤ 100000) (q : ∀ l H', H l = none → Same H H' → H' l = some (.lst xs) → Q (.ref l) H') : rNewL xs H Q := ⟨Nat.le_trans h (by decide), fun l hl => q l _ hl (Same.new hl) upd_same⟩
theorem newTup {xs : List V} (h : xs.length ≤ 100000) (q : ∀ l H', H l = none → Same H H' → H' l = some (.tup xs) → Q (.ref l) H') : rNewT xs H Q := ⟨Nat.le_trans h (by decide), fun l hl => q l _ hl (Same.new hl) upd_same⟩
theorem catList {a b : Addr} {xs zs : List V} (ha : H a = some (.lst xs)) (hb : H b = some (.lst zs)) (h : xs.length + zs.length ≤ 100000) (q : ∀ l H', H l = none → Same H H' → H' l = some (.lst (xs ++ zs)) → Q (.ref l) H') : rCat (.ref a) (.ref b) H Q :=
  ⟨a, b, xs, zs, rfl, rfl, ha, hb, Nat.le_trans h (by decide), fun l hl => q l _ hl (Same.new hl) upd_same⟩
theorem appList {a : Addr} {xs : List V} {y : V} (ha : H a = some (.lst xs)) (h : xs.length < 100000) (q : ∀ H', SameX a H H' → H' a = some (.lst (xs ++ [y])) → Q .non H') : rAppend (.ref a) [y] H Q := ⟨a, xs, y, rfl, rfl, ha, Nat.lt_of_lt_of_le h (by decide), q _ SameX.upd upd_same⟩
theorem isList {a : Addr} {xs : List V} (ha : H a = some (.lst xs)) : tyV K "list" (.ref a) H := .inl ⟨rfl, xs, SqL.of ha⟩
theorem ixL {a : Addr} {xs : List V} {i : Nat} (ha : H a = some (.lst xs)) (hi : xs[i]? = some v) (q : Q v H) : rIxL K (.ref a) (.int (i : Int)) H Q := ⟨a, xs, i, v, rfl, rfl, SqL.of ha, atI_nat hi, q⟩
theorem ixT {a : Addr} {xs : List V} {i : Nat} (ha : SqT K H a xs) (hi : xs[i]? = some v) (q : Q v H) : rIxT K (.ref a) (.int (i : Int)) H Q := ⟨a, xs, i, v, rfl, rfl, ha, atI_nat hi, q⟩
theorem setL {a : Addr} {xs : List V} {i : Nat} {P : Hp → Prop} (ha : H a = some (.lst xs)) (hi : i < xs.length) (q : ∀ H', SameX a H H' → H' a = some (.lst (xs.set i v)) → P H') : rSetL (.ref a) (.int (i : Int)) v H P := ⟨a, xs, i, i, rfl, rfl, ha, ixN_nat rfl hi, q _ SameX.upd upd_same⟩
theorem lenA {a : Addr} {xs : List V} (h : SeqA K H a xs) (q : Q (.int (xs.length : Int)) H) : rLenOf K [.ref a] H Q := ⟨a, xs, rfl, h, q⟩
/-- what a for asks once its turns are known -/
def forK (J : It) (g : TG) (tb : TS) (D : Ends) (σ : L2.St) (H : Hp) : Prop := ∃ W : Nat → Nat → L2.St → Hp → Prop, (∃ m, W 0 m σ H) ∧ ∀ i m σ H, W i m σ H →
  (J.stop i H ∧ D.nx σ H) ∨ (J.go i H ∧ ∃ N : L2.St → Hp → Prop, (∀ σ' H', N σ' H' → ∃ m', m' < m ∧ W (i + 1) m' σ' H') ∧ ∀ x H', J.yld i H x H' → g x σ H' fun σ2 H2 => tb { D with nx := N, ct := N, bk := D.nx } σ2 H2)
def forI (g : TG) (tb : TS) (D : Ends) (σ : L2.St) (n : Int) (H : Hp) : Prop := ∃ j : Int, [V.int n] = [.int j] ∧ -(2 ^ 62) ≤ j ∧ j < 2 ^ 62 ∧ forK (Itr 0 j.toNat) g tb D σ H
theorem x_for1 (q : ta σ H fun vs H1 => ∃ j : Int, vs = [.int j] ∧ -(2 ^ 62) ≤ j ∧ j < 2 ^ 62 ∧ forK (Itr 0 j.toNat) g ts D σ H1) : tFor (iRng1 ta) g ts D σ H := q
theorem x_forL (q : te σ H fun x H1 => ∃ a, x = .ref a ∧ (∃ xs, SqL K H1 a xs) ∧ forK (Itl K a) g ts D σ H1) : tFor (iList K te) g ts D σ H := q
theorem x_forT (q : te σ H fun x H1 => ∃ a, x = .ref a ∧ (∃ xs, SqT K H1 a xs) ∧ forK (Itt K a) g ts D σ H1) : tFor (iTup K te) g ts D σ H := q
theorem rng1 {n : Int} (h0 : -100000 ≤ n) (h1 : n ≤ 100000) (q : forK (Itr 0 n.toNat) g ts D σ H) : ∃ j : Int, [V.int n] = [.int j] ∧ -(2 ^ 62) ≤ j ∧ j < 2 ^ 62 ∧ forK (Itr 0 j.toNat) g ts D σ H := ⟨n, rfl, by omega, by omega, q⟩
theorem overL {a : Addr} {xs : List V} (h : SqL K H a xs) (q : forK (Itl K a) g ts D σ H) : ∃ b, V.ref a = .ref b ∧ (∃ xs, SqL K H b xs) ∧ forK (Itl K b) g ts D σ H := ⟨a, rfl, ⟨_, h⟩, q⟩
theorem overT {a : Addr} {xs : List V} (h : SqT K H a xs) (q : forK (Itt K a) g ts D σ H) : ∃ b, V.ref a = .ref b ∧ (∃ xs, SqT K H b xs) ∧ forK (Itt K b) g ts D σ H := ⟨a, rfl, ⟨_, h⟩, q⟩
end
/-! ### steps: more readings by their form -/
theorem pe_fldK {X : Cx} {K : PySem.W.Frag} {e : Expr} {f : Str} {pos : Pos} {ta : TE} (eK : X.K = K) (he : PE X e ta) (hb : attributeBase e f X.env (eval e X.env) = eval e X.env) : PE X (.Attribute e f pos) (tFld K ta f) := eK ▸ pe_fld he hb
section
variable {K : PySem.W.Frag} {σ : L2.St} {H : Hp} {Q : VK} {QS : L2.St → Hp → Prop} {v : V} {te tb ti : TE} {tt : TT} {D : Ends}
theorem x_gsub {to ti : TE} {t : TSet} (q : to σ H fun o H1 => ti σ H1 fun i H2 => t o i v H2 fun H3 => QS σ H3) : gSub to ti t v σ H QS := q
theorem x_int1 {P : Int → Prop} {R : Prop} {i : Int} (q : P i) : (∃ k, [V.int i] = [V.int k] ∧ P k) ∨ R := .inl ⟨i, rfl, q⟩
theorem x_exL {P : Int → Prop} {i : Int} (q : P i) : ∃ k, [V.int i] = [V.int k] ∧ P k := ⟨i, rfl, q⟩
theorem min_if (i j : Int) : (if j < i then j else i) = min i j := by rw [Int.min_def]; split <;> split <;> omega
theorem max_if (i j : Int) : (if j > i then j else i) = max i j := by rw [Int.max_def]; split <;> split <;> omega
def rMin2 : List V → Hp → VK → Prop := fun xs H Q => ∃ i j, xs = [.int i, .int j] ∧ Q (.int (min i j)) H
def rMax2 : List V → Hp → VK → Prop := fun xs H Q => ∃ i j, xs = [.int i, .int j] ∧ Q (.int (max i j)) H
def ab (x : Int) : Int := if x < 0 then -x else x
def rAbs : List V → Hp → VK → Prop := fun xs H Q => ∃ i, xs = [.int i] ∧ Q (.int (ab i)) H
theorem call_min2K {X : Cx} (hc : X.calm = true) : CallR X (.builtin "min") rMin2 := by
  intro pins s σ H xs us Q I r h
  obtain ⟨i, j, e, q⟩ := h
  exact call_min2 hc pins s σ H xs us Q I r ⟨i, j, e, by rw [min_if]; exact q⟩
theorem call_max2K {X : Cx} (hc : X.calm = true) : CallR X (.builtin "max") rMax2 := by
  intro pins s σ H xs us Q I r h
  obtain ⟨i, j, e, q⟩ := h
  exact call_max2 hc pins s σ H xs us Q I r ⟨i, j, e, by rw [max_if]; exact q⟩
theorem call_absK {X : Cx} : CallR X (.builtin "abs") rAbs := call_abs
theorem x_min2 {i j : Int} (q : Q (.int (min i j)) H) : rMin2 [.int i, .int j] H Q := ⟨i, j, rfl, q⟩
theorem x_max2 {i j : Int} (q : Q (.int (max i j)) H) : rMax2 [.int i, .int j] H Q := ⟨i, j, rfl, q⟩
theorem x_abs {i : Int} (q : Q (.int (ab i)) H) : rAbs [.int i] H Q := ⟨i, rfl, q⟩
theorem x_brTT {p q : Prop} (h : p) : brB (true && true) p q := x_brT h
theorem x_mod {i j : Int} (h : 0 < j) (q : Q (.int (i % j)) H) : rI (fun _ j => 0 < j) (fun i j => .int (i % j)) (.int i) (.int j) H Q := ⟨i, j, rfl, rfl, h, q⟩
theorem x_mulR {i j : Int} (h : -(2 ^ 64) < j ∧ j < 2 ^ 64) (q : Q (.int (i * j)) H) : rI CMul (fun i j => .int (i * j)) (.int i) (.int j) H Q := ⟨i, j, rfl, rfl, .inr h, q⟩
theorem x_mulL {i j : Int} (h : -(2 ^ 64) < i ∧ i < 2 ^ 64) (q : Q (.int (i * j)) H) : rI CMul (fun i j => .int (i * j)) (.int i) (.int j) H Q := ⟨i, j, rfl, rfl, .inl h, q⟩
theorem x_div {i j : Int} (h : 0 < j ∧ j < 1073741824) (q : Q (.int (i / j)) H) : rI CDiv (fun i j => .int (i / j)) (.int i) (.int j) H Q := ⟨i, j, rfl, rfl, h, q⟩
theorem x_divW {i j : Int} (h0 : 0 < j) (h : j < 2 ^ 62) (q : Q (.int (i / j)) H) : rI CDivW (fun i j => .int (i / j)) (.int i) (.int j) H Q := ⟨i, j, rfl, rfl, ⟨h0, Nat.lt_trans (PySem.Flt.log2_lt_of (k := 62) (by decide) (by omega)) (by decide)⟩, q⟩
theorem x_pow {i j : Int} (h : 0 ≤ j ∧ j ≤ 1000000 ∧ i.natAbs < 2 ^ 64) (q : Q (.int (i ^ j.toNat)) H) : rI CPow (fun i j => .int (i ^ j.toNat)) (.int i) (.int j) H Q := ⟨i, j, rfl, rfl, h, q⟩
theorem x_nN {P : Prop} (q : P) : V.non = V.non ∧ P := ⟨rfl, q⟩
theorem x_chain {r r' : R2} {tc : TE} (q : te σ H fun x H1 => tb σ H1 fun y H2 => r x y H2 fun z H3 => ∃ k, z = .bl k ∧ brB k (tc σ H3 fun w' H4 => r' y w' H4 Q) (Q (.bl false) H3)) : tChain r r' te tb tc σ H Q := by
  refine cast (congrArg (fun z => te σ H z) ?_) q
  funext x H1
  refine congrArg (fun z => tb σ H1 z) ?_
  funext y H2
  refine congrArg (fun z => r x y H2 z) ?_
  funext z H3
  refine congrArg Exists ?_
  funext k
  refine congrArg (fun p => z = .bl k ∧ p) ?_
  exact propext ⟨fun h => x_ite h, fun h => by cases k with
    | true => exact x_brT (by rw [if_pos rfl] at h; exact h)
    | false => exact x_brF (by rw [if_neg Bool.false_ne_true] at h; exact h)⟩
theorem x_meth {C : Addr} {m : Str} {sp : Sp} {dvs : List V} {E : XK} {ta : TE} {t : TA} (q : ta σ H fun x H1 => ∃ a dx fs, x = .ref a ∧ H1 a = some (.ins C dx fs) ∧ fs.lookup m = none ∧ t σ H1 fun vs H2 => sp (x :: (vs ++ dvs)) H2 Q E) : tMeth C m sp dvs E ta t σ H Q := q
theorem x_prop {C : Addr} {sp : Sp} {dvs : List V} {E : XK} {ta : TE} (q : ta σ H fun x H1 => ∃ a dx fs, x = .ref a ∧ H1 a = some (.ins C dx fs) ∧ sp (.ref a :: dvs) H1 Q E) : tProp C sp dvs E ta σ H Q := q
theorem x_make {C : Addr} {sp : Sp} {dvs : List V} {E : XK} {t : TA} (q : t σ H fun vs H1 => ∀ x dx, H1 x = none → H1 dx = none → dx ≠ x → sp (.ref x :: (vs ++ dvs)) (upd (upd H1 dx (.own x)) x (.ins C dx [])) (fun v H2 => v = .non ∧ Q (.ref x) H2) E) : tMake C sp dvs E t σ H Q := q
theorem x_fldaug {rd : V → V → Hp → VK → Prop} {f : Str} (q : te σ H fun x H1 => ∃ a C dx fs v, x = .ref a ∧ H1 a = some (.ins C dx fs) ∧ Cls K C ∧ NoAttr K C f ∧ fs.lookup f = some v ∧ tb σ H1 fun y H2 => rd v y H2 fun z H3 => ∃ dx' fs', H3 a = some (.ins C dx' fs') ∧ fs'.length < 1000 ∧ D.nx σ (L2.upd H3 a (.ins C dx' (putF f z fs')))) : sFldAug K te tb rd f D σ H := q
theorem x_rAdd {i j : Int} (q : Q (.int (i + j)) H) : rAdd (.int i) (.int j) H Q := ⟨i, j, rfl, rfl, q⟩
theorem x_ipI {f : Int → Int → Int} {i j : Int} (q : Q (.int (f i j)) H) : ipI f (.int i) (.int j) H Q := ⟨i, j, rfl, rfl, q⟩
theorem x_rSub {i j : Int} (q : Q (.int (i - j)) H) : rSub (.int i) (.int j) H Q := ⟨i, j, rfl, rfl, q⟩
theorem rngF {n : Int} {g : TG} {ts : TS} (h0 : -100000 ≤ n) (h1 : n ≤ 100000) (q : forK (Itr 0 n.toNat) g ts D σ H) : -(2 ^ 62) ≤ n ∧ n < 2 ^ 62 ∧ forK (Itr 0 n.toNat) g ts D σ H := ⟨by omega, by omega, q⟩
/-- a field is raised -/
theorem fraise {f : Str} {p C dx : Addr} {fs : List (Str × V)} {P : Hp → Prop} {T : V → V → Hp → VK → Prop} {tv : TE} {σ : L2.St} (h : H p = some (.ins C dx fs)) (c : Cls K C) (n : NoAttr K C f) (l : fs.length < 1000) (e : fs.lookup f = some v)
    (q : tv σ H fun y H2 => T v y H2 fun z H3 => ∃ dx' fs', H3 p = some (.ins C dx' fs') ∧ fs'.length < 1000 ∧ P (L2.upd H3 p (.ins C dx' (putF f z fs')))) :
    ∃ a C dx fs v, V.ref p = .ref a ∧ H a = some (.ins C dx fs) ∧ Cls K C ∧ NoAttr K C f ∧ fs.lookup f = some v ∧ tv σ H fun y H2 => T v y H2 fun z H3 => ∃ dx' fs', H3 a = some (.ins C dx' fs') ∧ fs'.length < 1000 ∧ P (L2.upd H3 a (.ins C dx' (putF f z fs'))) := ⟨p, C, dx, fs, v, rfl, h, c, n, e, q⟩
theorem fput {f : Str} {z : V} {p C dx : Addr} {fs fs' : List (Str × V)} {P : Hp → Prop} (h : H p = some (.ins C dx fs)) (l : fs.length < 1000) (e : putF f z fs = fs') (q : ∀ H', SameX p H H' → H' p = some (.ins C dx fs') → P H') :
    ∃ dx' fs', H p = some (.ins C dx' fs') ∧ fs'.length < 1000 ∧ P (L2.upd H p (.ins C dx' (putF f z fs'))) := ⟨dx, fs, h, l, q _ SameX.upd (by rw [e]; exact upd_same)⟩
end
/-! ### o[i] op= e, o a list -/
theorem pget_list {X : Cx} : PGet X (rIxL X.K) := by
  intro pins s σ H o i ov iv Q I ro ri h
  obtain ⟨p, xs, k, z, rfl, rfl, hq, he, q⟩ := h
  cases ro
  obtain ⟨t, rfl⟩ := ri
  obtain ⟨its, r, pl, hz⟩ := I.list hq
  obtain ⟨j, h1, h2, h3, h4, h5⟩ := atI_get he
  obtain ⟨w, ew, rw'⟩ := r.get h2
  have hl := r.length
  have hn := line63
  have fin : EP X pins σ Q w s := ⟨z, H, I, rw', q⟩
  by_cases h0 : 0 ≤ k
  · have hj : k.toNat = j := by
      rw [seqIndex_of h0 h5] at h1
      exact Option.some.inj h1
    exact wpAny_getItem_list pl.isList h0 (by omega) (by rw [hj]; simpa using ew) fin
  · have hj : (k + (its.toArray.size : Int)).toNat = j := by
      rw [seqIndex_neg (by omega) h4] at h1
      rw [List.size_toArray, ← hl]
      exact Option.some.inj h1
    exact wpAny_getItem_list_neg pl.isList (by omega) (by rw [List.size_toArray] <;> omega) (by omega) (by rw [hj]; simpa using ew) fin
theorem x_augS {to ti te : TE} {tget : V → V → Hp → VK → Prop} {tip : TIp} {tset : TSet} {D : Ends} {σ : L2.St} {H : Hp} (q : to σ H fun o H1 => ti σ H1 fun i H2 => tget o i H2 fun x H3 => te σ H3 fun y H4 => tip x y H4 fun z H5 => tset o i z H5 fun H6 => D.nx σ H6) : tAugS to ti te tget tip tset D σ H := q
theorem x_negU {i : Int} {H : Hp} {Q : VK} (q : Q (.int (-i)) H) : rU (fun i => .int (-i)) (.int i) H Q := ⟨i, rfl, q⟩
/-- for_range, by its name -/
theorem for_rangeK {lo : Int} {n : Nat} {g : TG} {ts : TS} {D : Ends} {σ : L2.St} {H : Hp} (Pv : Nat → L2.St → Hp → Prop) (h0 : Pv 0 σ H)
    (hs : ∀ i σ H, i < n → Pv i σ H → g (.int (lo + i)) σ H fun σ2 H2 => ts { D with nx := Pv (i + 1), ct := Pv (i + 1), bk := D.nx } σ2 H2) (hd : ∀ σ H, Pv n σ H → D.nx σ H) : forK (Itr lo n) g ts D σ H := for_range Pv h0 hs hd
local macro_rules
  | `(tactic| w_up) => `(tactic| with_reducible first
    | refine x_seq ?_ | refine x_asg ?_ | refine x_op ?_ | refine x_c ?_
    | refine x_v0 ?_ | refine x_v1 ?_ | refine x_v2 ?_ | refine x_v3 ?_ | refine x_v4 ?_ | refine x_v5 ?_ | refine x_v6 ?_ | refine x_v7 ?_ | refine x_v8 ?_ | refine x_v9 ?_ | refine x_v10 ?_ | refine x_v11 ?_ | refine x_v12 ?_ | refine x_v13 ?_ | refine x_v14 ?_ | refine x_v15 ?_ | refine x_v16 ?_ | refine x_v17 ?_ | refine x_v18 ?_ | refine x_v19 ?_
    | refine x_g0 ?_ | refine x_g1 ?_ | refine x_g2 ?_ | refine x_g3 ?_ | refine x_g4 ?_ | refine x_g5 ?_ | refine x_g6 ?_ | refine x_g7 ?_ | refine x_g8 ?_ | refine x_g9 ?_ | refine x_g10 ?_ | refine x_g11 ?_ | refine x_g12 ?_ | refine x_g13 ?_ | refine x_g14 ?_ | refine x_g15 ?_ | refine x_g16 ?_ | refine x_g17 ?_ | refine x_g18 ?_ | refine x_g19 ?_
    | refine x_cons ?_ | refine x_nil ?_ | refine x_I0 ?_ | refine x_exI ?_ | refine x_exB ?_ | refine x_eqI ?_ | refine x_neI ?_ | refine x_eqS ?_ | refine x_neS ?_
    | refine x_test ?_ | refine x_tB ?_ | refine x_ifS ?_ | refine x_if ?_ | refine x_and ?_ | refine x_or ?_ | refine x_not ?_ | refine x_andV ?_ | refine x_orV ?_ | refine x_notV ?_
    | refine x_ite ?_ | refine x_brT ?_ | refine x_brF ?_ | refine x_brN ?_
    | refine x_call ?_ | refine x_for1 ?_ | refine x_forL ?_ | refine x_forT ?_ | refine x_sFld ?_ | refine x_fld ?_ | refine x_cb ?_ | refine x_bm ?_ | refine x_un ?_ | refine x_sl ?_ | refine x_np ?_ | refine x_pt ?_
    | refine x_next ?_ | refine x_ret ?_ | refine x_retN ?_ | refine x_drop ?_ | refine x_brk ?_ | refine x_cont ?_ | refine x_lst ?_ | refine x_tup ?_ | dsimp only | dsimp only [List.set_cons_succ, List.set_cons_zero])
local macro_rules
  | `(tactic| o_args) => `(tactic| repeat w_up)
local macro_rules
  | `(tactic| w_up) => `(tactic| first
    | with_reducible refine x_augS ?_ | with_reducible refine x_negU ?_ | with_reducible refine x_gsub ?_ | with_reducible refine x_int1 ?_ | with_reducible refine x_exL ?_ | with_reducible refine x_min2 ?_ | with_reducible refine x_max2 ?_ | with_reducible refine x_abs ?_ | with_reducible refine x_brTT ?_
    | with_reducible refine x_mod (by decide) ?_ | with_reducible refine x_mulR ⟨by decide, by decide⟩ ?_ | with_reducible refine x_mulL ⟨by decide, by decide⟩ ?_ | with_reducible refine x_div ⟨by decide, by decide⟩ ?_
    | with_reducible refine x_pow ⟨by decide, by decide, by decide⟩ ?_
    | with_reducible refine x_nN ?_ | with_reducible refine x_chain ?_ | with_reducible refine x_meth ?_ | with_reducible refine x_prop ?_ | with_reducible refine x_make ?_ | with_reducible refine x_fldaug ?_ | with_reducible refine x_ipI ?_ | with_reducible refine x_rAdd ?_ | with_reducible refine x_rSub ?_
    | with_reducible refine brDT (by decide) ?_ | with_reducible refine brDF (by decide) ?_
    | with_reducible refine x_ixT (by assumption) (by with_unfolding_all exact rfl) ?_
    | with_reducible refine x_ixL (by assumption) (by with_unfolding_all exact rfl) ?_)
/-! ### general words -/
theorem Same.ofX {D : Addr} {H H' : Hp} (hD : H D = none) (s : SameX D H H') : Same H H' := fun b o e => s b o (ne_of_none e hD) e
theorem getq_lt {α : Type} {xs : List α} {i : Nat} {x : α} (h : xs[i]? = some x) : i < xs.length := (List.getElem?_eq_some_iff.mp h).1
theorem getq_app {α : Type} {vs : List α} {v w : α} {k : Nat} (h : (vs ++ [v])[k]? = some w) : (k < vs.length ∧ vs[k]? = some w) ∨ (k = vs.length ∧ w = v) := by
  have hk := getq_lt h
  rw [List.length_append] at hk
  have hk : k < vs.length + 1 := hk
  by_cases q : k < vs.length
  · rw [List.getElem?_append_left q] at h
    exact .inl ⟨q, h⟩
  · have e : k = vs.length := by omega
    subst e
    rw [List.getElem?_append_right (Nat.le_refl _), Nat.sub_self] at h
    exact .inr ⟨rfl, (Option.some.inj h).symm⟩
theorem none_back {p l : Addr} {H H' : Hp} (s : SameX p H H') (n : l ≠ p) (h : H' l = none) : H l = none := by
  cases q : H l with
  | none => rfl
  | some o => rw [s _ _ n q] at h; cases h
theorem none_of {H H' : Hp} {l : Addr} (s : Same H H') (h : H' l = none) : H l = none := by
  cases q : H l with
  | none => rfl
  | some o => rw [s _ _ q] at h; cases h
/-- only lists change -/
def LS (H H' : Hp) : Prop := ∀ a o, (∀ xs, o ≠ .lst xs) → H a = some o → H' a = some o
theorem LS.refl (H : Hp) : LS H H := fun _ _ _ h => h
theorem LS.trans {H H1 H2 : Hp} (x : LS H H1) (y : LS H1 H2) : LS H H2 := fun a o n h => y a o n (x a o n h)
theorem LS.of {H H' : Hp} (s : Same H H') : LS H H' := fun a o _ h => s a o h
theorem LS.ofX {H H' : Hp} {p : Addr} {xs : List V} (hp : H p = some (.lst xs)) (s : SameX p H H') : LS H H' := fun a o n h => s a o (fun e => by subst e; rw [hp] at h; cases h; exact n _ rfl) h
theorem LS.sqT {K : PySem.W.Frag} {H H' : Hp} {a : Addr} {xs : List V} (s : LS H H') (h : SqT K H a xs) : SqT K H' a xs := by
  rcases h with (h | ⟨o, h⟩) | h
  · exact .inl (.inl (s _ _ (fun _ z => nomatch z) h))
  · exact .inl (.inr ⟨o, s _ _ (fun _ z => nomatch z) h⟩)
  · exact .inr h
theorem sliceL {K : PySem.W.Frag} {H : Hp} {Q : VK} {a : Addr} {xs : List V} {lo hi : Option Int} (h : SqL K H a xs) (q : ∀ l H', H l = none → Same H H' → H' l = some (.lst (cutV xs lo hi)) → Q (.ref l) H') : rSlL K (.ref a) lo hi H Q := ⟨a, xs, rfl, h, fun l hl => q l _ hl (Same.new hl) upd_same⟩
theorem cut_to (xs : List V) (i : Nat) : cutV xs none (some (i : Int)) = xs.take i := by
  have e1 : HT.sIx xs.length 0 none = 0 := rfl
  have e2 : HT.sIx xs.length xs.length (some (i : Int)) = min i xs.length := by
    unfold HT.sIx
    simp
    intro h
    omega
  unfold cutV
  rw [e1, e2, List.drop_zero, Nat.sub_zero, List.take_eq_take_iff]
  omega
theorem cut_from (xs : List V) (i : Nat) : cutV xs (some (i : Int)) none = xs.drop i := by
  have e1 : HT.sIx xs.length xs.length none = xs.length := rfl
  have e2 : HT.sIx xs.length 0 (some (i : Int)) = min i xs.length := HT.sIx_nat _ _ _
  unfold cutV
  rw [e1, e2]
  by_cases h : i ≤ xs.length
  · rw [Nat.min_eq_left h, List.take_of_length_le (by rw [List.length_drop]; exact Nat.le_refl _)]
  · rw [Nat.min_eq_right (by omega), Nat.sub_self, List.take_zero, List.drop_of_length_le (by omega)]
theorem dp_ints {K : PySem.W.Frag} {H : Hp} : ∀ ns : List Int, DpAll K H (ns.map V.int) (ns.map PyData.int)
  | [] => .nil
  | n :: r => .cons (.int n) (dp_ints r)
theorem lay_all : ∀ ns : List Int, PyData.canLayAll0 (ns.map PyData.int) = true ∧ PyData.depthAll (ns.map PyData.int) = 0
  | [] => ⟨by simp only [List.map_nil, PyData.canLayAll0], by simp only [List.map_nil, PyData.depthAll]⟩
  | n :: r => by
    obtain ⟨h1, h2⟩ := lay_all r
    exact ⟨by simp only [List.map_cons, PyData.canLayAll0, PyData.canLay0, h1, Bool.and_self], by simp only [List.map_cons, PyData.depthAll, PyData.depth, h2, Nat.max_self]⟩
theorem lay_ints (ns : List Int) : PySem.SeqAt.shaped (.list (ns.map PyData.int)) = true := by
  obtain ⟨h1, h2⟩ := lay_all ns
  unfold PySem.SeqAt.shaped
  simp only [PyData.canLay0, PyData.depth, h1, h2]
  decide
theorem eqv_all : ∀ xs ys : List Int, PyData.eqvAll (xs.map PyData.int) (ys.map PyData.int) = decide (xs = ys)
  | [], [] => by simp [PyData.eqvAll]
  | [], y :: ys => by simp [PyData.eqvAll]
  | x :: xs, [] => by simp [PyData.eqvAll]
  | x :: xs, y :: ys => by
    have e := eqv_all xs ys
    simp only [List.map_cons, PyData.eqvAll, e, PyData.eqv]
    by_cases h : x = y <;> by_cases g : xs = ys <;> simp [h, g]
theorem eqv_ints (xs ys : List Int) : PyData.eqv (.list (xs.map PyData.int)) (.list (ys.map PyData.int)) = decide (xs = ys) := by
  simp only [PyData.eqv]
  exact eqv_all xs ys
/-- two lists of ints compared -/
theorem eqLL {K : PySem.W.Frag} {H : Hp} {Q : VK} {a b : Addr} {xs ys : List Int} (ha : SqL K H a (xs.map V.int)) (hb : SqL K H b (ys.map V.int)) (q : Q (.bl (decide (xs = ys))) H) : rEqD K (.ref a) (.ref b) H Q :=
  ⟨_, _, .lst ha (dp_ints xs), .lst hb (dp_ints ys), lay_ints xs, lay_ints ys, by rw [eqv_ints]; exact q⟩
theorem neLL {K : PySem.W.Frag} {H : Hp} {Q : VK} {a b : Addr} {xs ys : List Int} (ha : SqL K H a (xs.map V.int)) (hb : SqL K H b (ys.map V.int)) (q : Q (.bl (!decide (xs = ys))) H) : rNeD K (.ref a) (.ref b) H Q :=
  ⟨_, _, .lst ha (dp_ints xs), .lst hb (dp_ints ys), lay_ints xs, lay_ints ys, by rw [eqv_ints]; exact q⟩
/-- a comprehension over a list of ints, filtered, its items ints -/
theorem lc_ints {K : PySem.W.Frag} {a : Addr} {ns : List Int} {te tel : TE} {tt : TT} {σ : L2.St} {H : Hp} {Q : VK} {j : Nat} (p : Int → Bool) (f : Int → Int) (hte : ∀ R' : VK, R' (.ref a) H → te σ H R') (hS : SqL K H a (ns.map V.int)) (hz : ns.length < 100000)
    (ht : ∀ x ∈ ns, ∀ H', Same H H' → ∀ Qt : Bool → Hp → Prop, Qt (p x) H' → tt ((σ.set j none).set j (some (.int x))) H' Qt)
    (he : ∀ x ∈ ns, p x = true → ∀ H', Same H H' → ∀ Qe : VK, Qe (.int (f x)) H' → tel ((σ.set j none).set j (some (.int x))) H' Qe)
    (hd : ∀ D H', H D = none → Same H H' → H' D = some (.lst (((ns.filter p).map f).map V.int)) → Q (.ref D) H') : tLc (iList K te) (gName j) tt tel [j] σ H Q := by
  refine hte _ ⟨a, rfl, ⟨_, hS⟩, fun D hD => lc_list (K := K) (a := a) (xs := ns.map V.int) (fun i H' => H' D = some (.lst ((((ns.take i).filter p).map f).map V.int)) ∧ SameX D H H') ⟨upd_same, SameX.upd⟩ (fun i H' _ h => (Same.ofX hD h.2).seq hS) ?_ ?_⟩
  · rintro i x H' hi ⟨h1, h2⟩
    rw [List.getElem?_map] at hi
    cases e : ns[i]? with
    | none => rw [e] at hi; cases hi
    | some u =>
      rw [e] at hi
      cases hi
      have hil := getq_lt e
      have mem : u ∈ ns := List.mem_of_getElem? e
      refine ⟨?_, ?_⟩
      · show ((((σ.set j none).set j (some (.int u))).set j none) = σ.set j none)
        rw [List.set_set, List.set_set]
      have e2 : ns.take (i + 1) = ns.take i ++ [u] := by
        rw [List.take_succ, e]
        rfl
      refine ht u mem H' (Same.ofX hD h2) _ ?_
      cases hp : p u with
      | false =>
        rw [if_neg Bool.false_ne_true]
        refine ⟨?_, h2⟩
        rw [e2, List.filter_append]
        simp only [List.filter, hp, List.append_nil]
        exact h1
      | true =>
        rw [if_pos rfl]
        refine he u mem hp H' (Same.ofX hD h2) _ ⟨_, h1, ?_, ?_, h2.upd'⟩
        · rw [List.length_map, List.length_map]
          have := List.length_filter_le p (ns.take i)
          rw [List.length_take] at this
          exact Nat.lt_of_lt_of_le (show _ < 100000 by omega) (by decide)
        · rw [e2, List.filter_append]
          simp only [List.filter, hp, List.map_append, List.map_cons, List.map_nil]
          exact upd_same
  · rintro H' ⟨h1, h2⟩
    rw [List.length_map, List.take_length] at h1
    exact hd D H' hD (Same.ofX hD h2) h1
/-- a comprehension over a list, its items new -/
theorem lc_lstN {K : PySem.W.Frag} {a : Addr} {xs : List V} {te tel : TE} {σ : L2.St} {H : Hp} {Q : VK} {j : Nat} (P : Nat → List V → Hp → Prop) (hte : ∀ R' : VK, R' (.ref a) H → te σ H R') (hS : SqL K H a xs) (hz : xs.length < 100000) (h0 : ∀ H', Same H H' → P 0 [] H')
    (hm : ∀ i vs H1 H2, Same H1 H2 → P i vs H1 → P i vs H2) (hw : ∀ D H1 H2 i vs, H D = none → SameX D H1 H2 → Same H H1 → (∃ acc, H1 D = some (.lst acc)) → P i vs H1 → P i vs H2)
    (hs : ∀ D i x vs H', xs[i]? = some x → Same H H' → P i vs H' → vs.length = i → H D = none → (∃ o, H' D = some o) → ∀ Qe : VK, (∀ v H'', Same H' H'' → P (i + 1) (vs ++ [v]) H'' → Qe v H'') → tel ((σ.set j none).set j (some x)) H' Qe)
    (hd : ∀ D vs H', H D = none → vs.length = xs.length → P xs.length vs H' → H' D = some (.lst vs) → Same H H' → Q (.ref D) H') : tLc (iList K te) (gName j) tYes tel [j] σ H Q := by
  refine hte _ ⟨a, rfl, ⟨_, hS⟩, fun D hD => lc_list (K := K) (a := a) (xs := xs) (fun i H' => ∃ vs : List V, vs.length = i ∧ P i vs H' ∧ H' D = some (.lst vs) ∧ SameX D H H') ⟨[], rfl, h0 _ (Same.new hD), upd_same, SameX.upd⟩ (fun i H' _ ⟨_, _, _, _, h⟩ => (Same.ofX hD h).seq hS) ?_ ?_⟩
  · rintro i x H' hi ⟨vs, hl, hr, h1, h2⟩
    refine ⟨?_, ?_⟩
    · show ((((σ.set j none).set j (some x)).set j none) = σ.set j none)
      rw [List.set_set, List.set_set]
    dsimp only [tYes]
    rw [if_pos rfl]
    have S0 := Same.ofX hD h2
    refine hs D i x vs H' hi S0 hr hl hD ⟨_, h1⟩ _ fun v H'' s2 r => ⟨vs, s2 _ _ h1, ?_, vs ++ [v], ?_, hw D H'' _ _ _ hD SameX.upd (S0.trans s2) ⟨vs, s2 _ _ h1⟩ r, upd_same, (h2.trans (SameX.of s2)).upd'⟩
    · have := getq_lt hi
      exact Nat.lt_of_lt_of_le (show vs.length < 100000 by omega) (by decide)
    · rw [List.length_append, hl]; rfl
  · rintro H' ⟨vs, hl, hr, h1, h2⟩
    exact hd D vs H' hD hl hr h1 (Same.ofX hD h2)
theorem all_rep (n : Nat) : (List.replicate n true).all id = true := by simp
theorem Same.ofX2 {H H1 H2 : Hp} {l : Addr} (hl : H l = none) (s1 : Same H H1) (s2 : SameX l H1 H2) : Same H H2 := fun b o e => s2 b o (ne_of_none e hl) (s1 b o e)
/-! ### own errors -/
abbrev sp_InvalidNumber_init_ (K : PySem.W.Frag) : Sp := sp_xinit K "number"
theorem ok_InvalidNumber_init_ (T : Txt K mg) : FnOk P w K mg base CX0 1 T.a_InvalidNumber_init_ T.fd_InvalidNumber_init_ ["self", "number"] (sp_InvalidNumber_init_ K) := by
  have S := sc_InvalidNumber_init_
  refine T.F_InvalidNumber_init_.ok S (fun vs H Q E h => ?_) (fun cdv A outer s H vs Q E hr h => ?_)
  · obtain ⟨a, C, v, rfl, _⟩ := h
    rfl
  · obtain ⟨a, C, v, rfl, O, hn, ha, k⟩ := h
    refine ⟨_, (pss_one (ps_ost (pv 0) (pv 1))), ?_⟩
    exact ⟨_, rfl, _, rfl, a, C, rfl, O, hn, .inl ⟨ha, k⟩⟩
abbrev sp_InvalidSetting_init_ (K : PySem.W.Frag) : Sp := sp_xinit K "setting"
theorem ok_InvalidSetting_init_ (T : Txt K mg) : FnOk P w K mg base CX0 1 T.a_InvalidSetting_init_ T.fd_InvalidSetting_init_ ["self", "setting"] (sp_InvalidSetting_init_ K) := by
  have S := sc_InvalidSetting_init_
  refine T.F_InvalidSetting_init_.ok S (fun vs H Q E h => ?_) (fun cdv A outer s H vs Q E hr h => ?_)
  · obtain ⟨a, C, v, rfl, _⟩ := h
    rfl
  · obtain ⟨a, C, v, rfl, O, hn, ha, k⟩ := h
    refine ⟨_, (pss_one (ps_ost (pv 0) (pv 1))), ?_⟩
    exact ⟨_, rfl, _, rfl, a, C, rfl, O, hn, .inl ⟨ha, k⟩⟩
/-- an error of the class at C with the one field f -/
def Err (C : Addr) (f : Str) (v : V) (H : Hp) (E : XK) : Prop := ∀ d H', Same H H' → H' d = some (.xd [(f, v)]) → E (.ref C) (some d) H'
/-- x lies not in lo .. hi -/
def Out (K : PySem.W.Frag) (H : Hp) (x : V) (lo hi : Int) : Prop := ∃ o, Kd K H x o ∧ inR lo hi o = false
theorem Out.same {K : PySem.W.Frag} {H H' : Hp} {x : V} {lo hi : Int} (h : Out K H x lo hi) (s : Same H H') : Out K H' x lo hi := h.elim fun o h => ⟨o, h.1.same s, h.2⟩
theorem Out.typ {K : PySem.W.Frag} {H H' : Hp} {x : V} {lo hi : Int} (h : Out K H x lo hi) (s : Typ H H') : Out K H' x lo hi := h.elim fun o h => ⟨o, h.1.typ s, h.2⟩
theorem Out.int {K : PySem.W.Frag} {H : Hp} {n lo hi : Int} (h : n < lo ∨ hi < n) : Out K H (.int n) lo hi := ⟨some n, rfl, by
  show (decide (lo ≤ n) && decide (n ≤ hi)) = false
  rcases h with h | h
  · rw [decide_eq_false (show ¬ lo ≤ n by omega)]; rfl
  · rw [decide_eq_false (show ¬ n ≤ hi by omega), Bool.and_false]⟩
theorem Out.odd {K : PySem.W.Frag} {H : Hp} {x : V} {lo hi : Int} (h : IntK K H x false) : Out K H x lo hi := ⟨none, h, rfl⟩
theorem out_between {K : PySem.W.Frag} {H : Hp} {Q : VK} {x : V} {lo hi : Int} {E : XK} (h : Out K H x lo hi) (q : Q (.bl false) H) : sp_is_between K [x, .int lo, .int hi] H Q E := by
  obtain ⟨o, h1, h2⟩ := h
  cases o with
  | none => exact ⟨x, lo, hi, rfl, .inr ⟨h1, q⟩⟩
  | some n => exact ⟨x, lo, hi, rfl, .inl ⟨n, h1, by rw [show (decide (lo ≤ n) && decide (n ≤ hi)) = false from h2]; exact q⟩⟩
theorem in_between {K : PySem.W.Frag} {H : Hp} {Q : VK} {n lo hi : Int} {E : XK} (h1 : lo ≤ n) (h2 : n ≤ hi) (q : Q (.bl true) H) : sp_is_between K [.int n, .int lo, .int hi] H Q E :=
  ⟨.int n, lo, hi, rfl, .inl ⟨n, rfl, by rw [decide_eq_true h1, decide_eq_true h2]; exact q⟩⟩
/-- x is no count -/
def Less (K : PySem.W.Frag) (H : Hp) (x : V) (lo : Int) : Prop := (∃ n, x = .int n ∧ n < lo) ∨ IntK K H x false
theorem Less.same {K : PySem.W.Frag} {H H' : Hp} {x : V} {lo : Int} (h : Less K H x lo) (s : Same H H') : Less K H' x lo := h.elim .inl fun h => .inr (h.same s)
/-- menus of a try: what is caught, and what e is -/
theorem errX {K : PySem.W.Frag} {a D dd : Addr} {fs : List (Str × V)} {c : V} {cv : Value} {b : Bool} {H : Hp} {Q : VK} (hcv : ∀ u, RelV c u → u = cv) (ec : ExcC K D) (hd : H dd = some (.xd fs)) (hk : PySem.W.kitOne K (.ref D) cv = some b) (q : Q (.bl b) H) : rIsX K a (.ref D) (some dd) [.ref a, c] H Q := ⟨c, cv, b, D, dd, fs, rfl, hcv, rfl, ec, rfl, hd, hk, q⟩
theorem errF {K : PySem.W.Frag} {a C dd : Addr} {f : Str} {fs : List (Str × V)} {v : V} {H : Hp} {P : V → Prop} (T : XfC K C) (hn : PySem.W.findIn K (.ref C) f = some none) (hd : H dd = some (.xd fs)) (e : fs.lookup f = some v) (q : P v) :
    V.ref a = V.ref a ∧ ∃ (C' dd' : Addr) (fs : List (Str × V)) (v : V), Value.ref C = .ref C' ∧ XfC K C' ∧ PySem.W.findIn K (.ref C') f = some none ∧ some dd = some dd' ∧ H dd' = some (.xd fs) ∧ fs.lookup f = some v ∧ P v := ⟨rfl, C, dd, fs, v, rfl, T, hn, rfl, hd, e, q⟩
section
variable {K : PySem.W.Frag} {σ : L2.St} {H : Hp} {Q : VK} {v : V} {te : TE} {D : Ends} {i : Nat}
theorem x_xg {a : Addr} {cls : Value} {d : Option Addr} {f : Str} (q : te σ H fun x H1 => x = .ref a ∧ ∃ (C dd : Addr) (fs : List (Str × V)) (v : V), cls = .ref C ∧ XfC K C ∧ PySem.W.findIn K (.ref C) f = some none ∧ d = some dd ∧ H1 dd = some (.xd fs) ∧ fs.lookup f = some v ∧ Q v H1) : tXg K a cls d f te σ H Q := q
theorem x_clgo {a : Addr} {ts : TS} (q : ts (unN D i) (σ.set i (some (.ref a))) H) : clGo D (some i) ts a σ H := q
theorem x_methX {C : Addr} {m : Str} {sp : Sp} {E : L2.St → XK} {ta : TE} {t : TA} (q : ta σ H fun x H1 => ∃ a dx fs, x = .ref a ∧ H1 a = some (.ins C dx fs) ∧ fs.lookup m = none ∧ t σ H1 fun vs H2 => sp (x :: vs) H2 Q (E σ)) : tMethX C m sp E ta t σ H Q := q
theorem x_unrt (q : D.rt v H) : (unN D i).rt v H := q
theorem x_unnx (q : D.nx (σ.set i none) H) : (unN D i).nx σ H := q
end
theorem len2 {α : Type} {l : List α} (h : l.length = 2) : ∃ a b, l = [a, b] := by
  match l, h with
  | [a, b], _ => exact ⟨a, b, rfl⟩
theorem len4 {α : Type} {l : List α} (h : l.length = 4) : ∃ a b c d, l = [a, b, c, d] := by
  match l, h with
  | [a, b, c, d], _ => exact ⟨a, b, c, d, rfl⟩
local macro_rules
  | `(tactic| w_up) => `(tactic| first | with_reducible refine x_clgo ?_ | with_reducible refine x_methX ?_ | with_reducible refine x_xg ?_ | with_reducible refine x_unrt ?_ | with_reducible refine x_unnx ?_)
/-! ### is it a sequence -/
def sp_is_sequence (K : PySem.W.Frag) : Sp := fun vs H Q _ => ∃ (x : V) (r : Bool), vs = [x] ∧ SeqK K H x r ∧ ∀ H', Same H H' → Q (.bl r) H'
theorem ok_is_sequence (T : Txt K mg) : FnOk P w K mg base CX0 1 T.a_is_sequence T.fd_is_sequence ["value"] (sp_is_sequence K) := by
  have S := sc_is_sequence
  refine T.F_is_sequence.ok S (fun vs H Q E h => ?_) (fun cdv A outer s H vs Q E hr h => ?_)
  · obtain ⟨x, r, rfl, _⟩ := h
    rfl
  · obtain ⟨x, r, rfl, ⟨t, ty, hk⟩, k⟩ := h
    refine ⟨_, (pss_one (ps_ret (pe_callB (id := "isinstance") call_isiT (by rfl) T.b_isinstance (by decide +kernel) (pa_cons (pv 0) (pa_cons (pe_tup (pa_cons (pe_bltn (v := .ty "list") (u := .type "list") (by rfl) T.b_list (by decide +kernel) rfl) (pa_cons (pe_bltn (v := .ty "tuple") (u := .type "tuple") (by rfl) T.b_tuple (by decide +kernel) rfl) pa_nil))) pa_nil))))), ?_⟩
    refine ⟨_, rfl, (by show 2 ≤ sizeLine; decide), fun tp htp => ?_⟩
    exact ⟨_, tp, _, t, [.type "list", .type "tuple"], r, rfl, upd_same, .cons (.ty _) (.cons (.ty _) .nil), tyX_same ty (Same.new htp), hk, k _ (Same.new htp)⟩
def sp_is_at_least (K : PySem.W.Frag) : Sp := fun vs H Q _ => ∃ (x : V) (lo : Int), vs = [x, .int lo] ∧ ((∃ n, x = .int n ∧ lo ≤ n ∧ Q (.bl true) H) ∨ (Less K H x lo ∧ Q (.bl false) H))
theorem ok_is_at_least (T : Txt K mg) : FnOk P w K mg base CX0 2 T.a_is_at_least T.fd_is_at_least ["value", "low"] (sp_is_at_least K) := by
  have S := sc_is_at_least
  refine T.F_is_at_least.ok S (fun vs H Q E h => ?_) (fun cdv A outer s H vs Q E hr h => ?_)
  · obtain ⟨x, lo, rfl, _⟩ := h
    rfl
  · obtain ⟨x, lo, rfl, h⟩ := h
    refine ⟨_, (pss_one (ps_ret (pe_and (pe_call (ok_is_integer T) (hr.mono (by decide)) rfl T.g_is_integer T.F_is_integer.kp T.B_is_integer .nil pass0 (pa_cons (pv 0) pa_nil)) (pe_one (pe_cmpR op_le (pv 1) (pv 0) (nomark _)))))), ?_⟩
    refine st_is_at_least ?_
    o_args
    rcases h with ⟨n, rfl, hn, k⟩ | ⟨⟨n, rfl, hn⟩ | hk, k⟩
    · refine ⟨_, true, rfl, intK_int n, ?_⟩
      o_args
      rw [decide_eq_true hn]
      exact k
    · refine ⟨_, true, rfl, intK_int n, ?_⟩
      o_args
      rw [decide_eq_false (show ¬ lo ≤ n by omega)]
      exact k
    · refine ⟨_, false, rfl, hk, ?_⟩
      o_args
      exact k
/-! ### comprehensions, any -/
theorem lcG {K : PySem.W.Frag} {a : Addr} {xs : List V} {te tel : TE} {tt : TT} {σ : L2.St} {H : Hp} {Q : VK} {j : Nat} (P : Addr → Nat → List V → Hp → Prop) (hte : ∀ R' : VK, R' (.ref a) H → te σ H R') (hS : SqL K H a xs) (hz : xs.length < 100000)
    (h0 : ∀ D, H D = none → P D 0 [] (upd H D (.lst []))) (hsq : ∀ D i vs H', H D = none → P D i vs H' → SqL K H' a xs)
    (hs : ∀ D i x vs H', H D = none → xs[i]? = some x → vs.length ≤ i → H' D = some (.lst vs) → P D i vs H' → ∀ (Y : VK) (N : Hp → Prop), (∀ v H3, H3 D = some (.lst vs) → P D (i + 1) (vs ++ [v]) (upd H3 D (.lst (vs ++ [v]))) → Y v H3) → (∀ H3, H3 D = some (.lst vs) → P D (i + 1) vs H3 → N H3) →
      tt ((σ.set j none).set j (some x)) H' fun b H2 => if b = true then tel ((σ.set j none).set j (some x)) H2 Y else N H2)
    (hd : ∀ D vs H', H D = none → H' D = some (.lst vs) → vs.length ≤ xs.length → P D xs.length vs H' → Q (.ref D) H') : tLc (iList K te) (gName j) tt tel [j] σ H Q := by
  refine hte _ ⟨a, rfl, ⟨_, hS⟩, fun D hD => lc_list (K := K) (a := a) (xs := xs) (fun i H' => ∃ vs : List V, vs.length ≤ i ∧ P D i vs H' ∧ H' D = some (.lst vs)) ⟨[], Nat.le_refl _, h0 D hD, upd_same⟩ (fun i H' _ ⟨vs, _, h, _⟩ => hsq D i vs H' hD h) ?_ ?_⟩
  · rintro i x H' hi ⟨vs, hl, hp, h1⟩
    have il := (List.getElem?_eq_some_iff.mp hi).1
    refine ⟨?_, ?_⟩
    · show ((((σ.set j none).set j (some x)).set j none) = σ.set j none)
      rw [List.set_set, List.set_set]
    refine hs D i x vs H' hD hi hl h1 hp _ _ (fun v H3 e p => ⟨vs, e, Nat.lt_of_lt_of_le (show vs.length < 100000 by omega) (by decide), vs ++ [v], ?_, p, upd_same⟩) (fun H3 e p => ⟨vs, by omega, p, e⟩)
    rw [List.length_append]
    exact Nat.succ_le_succ hl
  · rintro H' ⟨vs, hl, hp, h1⟩
    exact hd D vs H' hD h1 hl hp
theorem lcGT {K : PySem.W.Frag} {a : Addr} {xs : List V} {te tel : TE} {tt : TT} {σ : L2.St} {H : Hp} {Q : VK} {j : Nat} (P : Addr → Nat → List V → Hp → Prop) (hte : ∀ R' : VK, R' (.ref a) H → te σ H R') (hS : SqT K H a xs) (hz : xs.length < 100000)
    (h0 : ∀ D, H D = none → P D 0 [] (upd H D (.lst []))) (hsq : ∀ D i vs H', H D = none → P D i vs H' → SqT K H' a xs)
    (hs : ∀ D i x vs H', H D = none → xs[i]? = some x → vs.length ≤ i → H' D = some (.lst vs) → P D i vs H' → ∀ (Y : VK) (N : Hp → Prop), (∀ v H3, H3 D = some (.lst vs) → P D (i + 1) (vs ++ [v]) (upd H3 D (.lst (vs ++ [v]))) → Y v H3) → (∀ H3, H3 D = some (.lst vs) → P D (i + 1) vs H3 → N H3) →
      tt ((σ.set j none).set j (some x)) H' fun b H2 => if b = true then tel ((σ.set j none).set j (some x)) H2 Y else N H2)
    (hd : ∀ D vs H', H D = none → H' D = some (.lst vs) → vs.length ≤ xs.length → P D xs.length vs H' → Q (.ref D) H') : tLc (iTup K te) (gName j) tt tel [j] σ H Q := by
  refine hte _ ⟨a, rfl, ⟨_, hS⟩, fun D hD => lc_tup (K := K) (a := a) (xs := xs) (fun i H' => ∃ vs : List V, vs.length ≤ i ∧ P D i vs H' ∧ H' D = some (.lst vs)) ⟨[], Nat.le_refl _, h0 D hD, upd_same⟩ (fun i H' _ ⟨vs, _, h, _⟩ => hsq D i vs H' hD h) ?_ ?_⟩
  · rintro i x H' hi ⟨vs, hl, hp, h1⟩
    have il := (List.getElem?_eq_some_iff.mp hi).1
    refine ⟨?_, ?_⟩
    · show ((((σ.set j none).set j (some x)).set j none) = σ.set j none)
      rw [List.set_set, List.set_set]
    refine hs D i x vs H' hD hi hl h1 hp _ _ (fun v H3 e p => ⟨vs, e, Nat.lt_of_lt_of_le (show vs.length < 100000 by omega) (by decide), vs ++ [v], ?_, p, upd_same⟩) (fun H3 e p => ⟨vs, by omega, p, e⟩)
    rw [List.length_append]
    exact Nat.succ_le_succ hl
  · rintro H' ⟨vs, hl, hp, h1⟩
    exact hd D vs H' hD h1 hl hp
/-! ### a list or a tuple, walked and read -/
def iOr (w1 w2 : TI) : TI := fun σ H R => w1 σ H R ∨ w2 σ H R
theorem pi_seqA {X : Cx} {tg e : Expr} {te : TE} (he : PE X e te) : PI X tg e (iOr (iList X.K te) (iTup X.K te)) := ⟨fun pins s σ H R I h => h.elim ((pi_list he).run pins s σ H R I) ((pi_tup he).run pins s σ H R I)⟩
theorem ix_seqA {K : PySem.W.Frag} {H : Hp} {Q : VK} {a : Addr} {xs : List V} {i : Int} {v : V} (h : SeqA K H a xs) (hi : atI xs i = some v) (q : Q v H) : rIx K (.ref a) (.int i) H Q :=
  h.elim (fun h => .inl ⟨_, _, _, _, rfl, rfl, h, hi, q⟩) (fun h => .inr (.inl ⟨_, _, _, _, rfl, rfl, h, hi, q⟩))
theorem sqT_at {K : PySem.W.Frag} {H H' : Hp} {a : Addr} {xs : List V} (h : SqT K H a xs) (k : ∀ o, H a = some o → H' a = some o) : SqT K H' a xs := by
  rcases h with (h | ⟨o, h⟩) | h
  · exact .inl (.inl (k _ h))
  · exact .inl (.inr ⟨o, k _ h⟩)
  · exact .inr h
theorem sqL_at {K : PySem.W.Frag} {H H' : Hp} {a : Addr} {xs : List V} (h : SqL K H a xs) (k : ∀ o, H a = some o → H' a = some o) : SqL K H' a xs := by
  rcases h with (h | ⟨o, h⟩) | h
  · exact .inl (.inl (k _ h))
  · exact .inl (.inr ⟨o, k _ h⟩)
  · exact .inr h
theorem lcGA {K : PySem.W.Frag} {a : Addr} {xs : List V} {te tel : TE} {tt : TT} {σ : L2.St} {H : Hp} {Q : VK} {j : Nat} (P : Addr → Nat → List V → Hp → Prop) (hte : ∀ R' : VK, R' (.ref a) H → te σ H R') (hS : SeqA K H a xs) (hz : xs.length < 100000)
    (h0 : ∀ D, H D = none → P D 0 [] (upd H D (.lst []))) (hk : ∀ D i vs H', H D = none → P D i vs H' → ∀ o, H a = some o → H' a = some o)
    (hs : ∀ D i x vs H', H D = none → xs[i]? = some x → vs.length ≤ i → H' D = some (.lst vs) → P D i vs H' → ∀ (Y : VK) (N : Hp → Prop), (∀ v H3, H3 D = some (.lst vs) → P D (i + 1) (vs ++ [v]) (upd H3 D (.lst (vs ++ [v]))) → Y v H3) → (∀ H3, H3 D = some (.lst vs) → P D (i + 1) vs H3 → N H3) →
      tt ((σ.set j none).set j (some x)) H' fun b H2 => if b = true then tel ((σ.set j none).set j (some x)) H2 Y else N H2)
    (hd : ∀ D vs H', H D = none → H' D = some (.lst vs) → vs.length ≤ xs.length → P D xs.length vs H' → Q (.ref D) H') : tLc (iOr (iList K te) (iTup K te)) (gName j) tt tel [j] σ H Q :=
  hS.elim (fun h => .inl (lcG P hte h hz h0 (fun D i vs H' hD p => sqL_at h (hk D i vs H' hD p)) hs hd)) fun h => .inr (lcGT P hte h hz h0 (fun D i vs H' hD p => sqT_at h (hk D i vs H' hD p)) hs hd)
/-! ### frames: all but what is named stands, nothing goes -/
def Ch (G : List Addr) (H H' : Hp) : Prop := (∀ b o, b ∉ G → H b = some o → H' b = some o) ∧ ∀ b, H b ≠ none → H' b ≠ none
def Al (F : List Addr) (H : Hp) : Prop := ∀ x ∈ F, H x ≠ none
section
variable {G F : List Addr} {H H1 H2 : Hp} {a l : Addr} {o : HO}
theorem Ch.refl : Ch G H H := ⟨fun _ _ _ h => h, fun _ h => h⟩
theorem Ch.trans (x : Ch G H H1) (y : Ch G H1 H2) : Ch G H H2 := ⟨fun b o n h => y.1 b o n (x.1 b o n h), fun b h => y.2 b (x.2 b h)⟩
theorem Ch.of (s : Same H H1) : Ch G H H1 := ⟨fun b o _ h => s b o h, fun b h => by
  cases q : H b with
  | none => exact absurd q h
  | some o => rw [s _ _ q]; exact fun z => nomatch z⟩
theorem Ch.ofX (h : a ∈ G) (s : SameX a H H1) (e : H1 a = some o) : Ch G H H1 := ⟨fun b o n q => s b o (fun z => n (z ▸ h)) q, fun b q => by
  by_cases z : b = a
  · rw [z, e]; exact fun z => nomatch z
  · cases q' : H b with
    | none => exact absurd q' q
    | some o => rw [s _ _ z q']; exact fun z => nomatch z⟩
theorem Ch.more (x : Ch G H H1) (h : ∀ b ∈ G, b ∈ F) : Ch F H H1 := ⟨fun b o n q => x.1 b o (fun z => n (h b z)) q, x.2⟩
/-- what is new may change -/
theorem Ch.drop (x : Ch (l :: G) H H1) (h : H l = none) : Ch G H H1 := ⟨fun b o n q => x.1 b o (fun z => by
  rcases List.mem_cons.mp z with z | z
  · rw [z, h] at q; cases q
  · exact n z) q, x.2⟩
theorem Ch.same (x : Ch [] H H1) : Same H H1 := fun b o h => x.1 b o (fun z => nomatch z) h
theorem Ch.sameX (x : Ch [a] H H1) : SameX a H H1 := fun b o n h => x.1 b o (fun z => n (List.mem_singleton.mp z)) h
theorem Ch.at (x : Ch G H H1) (n : a ∉ G) (h : H a = some o) : H1 a = some o := x.1 a o n h
theorem Ch.none (x : Ch G H H1) (h : H1 a = none) : H a = none := by
  cases q : H a with
  | none => rfl
  | some o => exact absurd h (x.2 a (by rw [q]; exact fun z => nomatch z))
theorem Al.ch (A : Al F H) (x : Ch G H H1) : Al F H1 := fun b h => x.2 b (A b h)
theorem Al.same (A : Al F H) (x : Same H H1) : Al F H1 := A.ch (Ch.of (G := []) x)
theorem Al.nil : Al [] H := fun _ h => nomatch h
theorem Al.cons (h : H a = some o) (A : Al F H) : Al (a :: F) H := fun b hb => by
  rcases List.mem_cons.mp hb with e | hb
  · rw [e, h]; exact fun z => nomatch z
  · exact A b hb
theorem Al.less (A : Al F H) (h : ∀ b ∈ G, b ∈ F) : Al G H := fun b q => A b (h b q)
theorem Al.new (A : Al F H) (h : H l = none) : l ∉ F := fun z => A l z h
theorem Al.one (h : H a = some o) : Al [a] H := .cons h .nil
end
/-! ### a box of five, drawn from -/
def Box (a : Addr) (F : List Addr) (H : Hp) : Prop := ∃ (c : Addr) (cs : List Int) (p r s n : Int), H a = some (.lst [.ref c, .int p, .int r, .int s, .int n]) ∧ H c = some (.lst (cs.map V.int)) ∧ a ∉ F ∧ c ∉ F ∧ 0 ≤ p ∧ 0 ≤ r
section
variable {a l : Addr} {F G : List Addr} {H H' : Hp}
theorem Box.ch (B : Box a F H) (x : Ch G H H') (h : ∀ b ∈ G, b ∈ F) : Box a F H' := by
  obtain ⟨c, cs, p, r, s, n, h1, h2, h3, h4, h5, h6⟩ := B
  exact ⟨c, cs, p, r, s, n, x.at (fun z => h3 (h _ z)) h1, x.at (fun z => h4 (h _ z)) h2, h3, h4, h5, h6⟩
theorem Box.same (B : Box a F H) (s : Same H H') : Box a F H' := B.ch (Ch.of (G := []) s) (fun _ h => nomatch h)
theorem Box.own (B : Box a F H) (hl : H l = none) (s : Same H H') : Box a (l :: F) H' := by
  obtain ⟨c, cs, p, r, z, n, h1, h2, h3, h4, h5, h6⟩ := B
  refine ⟨c, cs, p, r, z, n, s _ _ h1, s _ _ h2, fun q => ?_, fun q => ?_, h5, h6⟩
  · rcases List.mem_cons.mp q with q | q
    · rw [q, hl] at h1; cases h1
    · exact h3 q
  · rcases List.mem_cons.mp q with q | q
    · rw [q, hl] at h2; cases h2
    · exact h4 q
theorem Box.less (B : Box a F H) (h : ∀ b ∈ G, b ∈ F) : Box a G H := by
  obtain ⟨c, cs, p, r, z, n, h1, h2, h3, h4, h5, h6⟩ := B
  exact ⟨c, cs, p, r, z, n, h1, h2, fun q => h3 (h _ q), fun q => h4 (h _ q), h5, h6⟩
theorem Box.al (B : Box a F H) : ∃ o, H a = some o := by
  obtain ⟨c, cs, p, r, z, n, h1, _⟩ := B
  exact ⟨_, h1⟩
theorem Box.nin (B : Box a F H) : a ∉ F := by
  obtain ⟨c, cs, p, r, z, n, _, _, h, _⟩ := B
  exact h
end
def sp__law_box (K : PySem.W.Frag) : Sp := fun vs H Q _ => ∃ (a : Addr) (ns : List Int), vs = [.ref a] ∧ SqL K H a (ns.map V.int) ∧ ∀ b H', H b = none → Same H H' → (∀ F, Al F H → Box b F H') → Q (.ref b) H'
theorem ok__law_box (T : Txt K mg) : FnOk P w K mg base CX0 1 T.a__law_box T.fd__law_box ["script"] (sp__law_box K) := by
  have S := sc__law_box
  refine T.F__law_box.ok S (fun vs H Q E h => ?_) (fun cdv A outer s H vs Q E hr h => ?_)
  · obtain ⟨a, ns, rfl, _⟩ := h
    rfl
  · obtain ⟨a, ns, rfl, hS, k⟩ := h
    refine ⟨_, (pss_one (ps_ret (pe_lst (pa_cons (pe_callTy (T := "list") (call_listK (K := K) rfl) (by rfl) T.b_list (by decide +kernel) (pa_cons (pv 0) pa_nil)) (pa_cons pe_int (pa_cons pe_int (pa_cons pe_int (pa_cons pe_int pa_nil)))))))), ?_⟩
    refine st__law_box ?_
    o_args
    refine listOf (.inl hS) fun c H1 nc s1 h1 => ?_
    o_args
    refine newList (by simp) fun b H2 nb s2 h2 => ?_
    have bH : H b = none := none_of s1 nb
    o_args
    refine k b H2 bH (s1.trans s2) fun F A => ⟨c, ns, _, _, _, _, h2, s2 _ _ h1, A.new bH, A.new nc, by decide, by decide⟩
def sp__law_draw : Sp := fun vs H Q _ => ∃ (a : Addr) (F : List Addr) (m : Int), vs = [.ref a, .int m] ∧ Box a F H ∧ 0 < m ∧ m < 2 ^ 62 ∧ ∀ d H', 0 ≤ d → d < m → Box a F H' → Ch [a] H H' → Q (.int d) H'
theorem ok__law_draw (T : Txt K mg) : FnOk P w K mg base CX0 1 T.a__law_draw T.fd__law_draw ["box", "size"] (sp__law_draw) := by
  have S := sc__law_draw
  refine T.F__law_draw.ok S (fun vs H Q E h => ?_) (fun cdv A outer s H vs Q E hr h => ?_)
  · obtain ⟨a, F, m, rfl, _⟩ := h
    rfl
  · obtain ⟨a, F, m, rfl, ⟨c, cs, p, r, s, n, hA, hC, nA, nC, p0, r0⟩, m0, m1, k⟩ := h
    have m0' : m ≠ 0 := by omega
    have ca : c ≠ a := ne_of hC hA (fun e => by
      injection e with e
      cases cs with
      | nil => cases e
      | cons x r => injection e with e1 _; cases e1)
    refine ⟨_, (pss_cons (ps_asg (pe_op op_add (pe_ix ix_list (pv 0) pe_int (fun _ _ => rfl)) pe_int) (pg_sub (pv 0) pe_int set_list))
      (C8.pss_cut (ps_if (PW.pt (pw_and (pt_cmpR op_eq (pe_ix ix_list (pv 0) pe_int (fun _ _ => rfl)) pe_int (nomark _)) (pw_and1 (pt_cmpR op_lt (pe_ix ix_list (pv 0) pe_int (fun _ _ => rfl)) (pe_callB (id := "len") (call_lenK (K := K) rfl) (by rfl) T.b_len (by decide +kernel) (pa_cons (pe_ix ix_list (pv 0) pe_int (fun _ _ => rfl)) pa_nil)) (nomark _))))) (pss_cons (ps_set (i := 2) S.nd rfl (Or.inl rfl) (pe_ix ix_list (pe_ix ix_list (pv 0) pe_int (fun _ _ => rfl)) (pe_ix ix_list (pv 0) pe_int (fun _ _ => rfl)) (fun _ _ => rfl)))
      (pss_cons (ps_asg (pe_op op_add (pe_ix ix_list (pv 0) pe_int (fun _ _ => rfl)) pe_int) (pg_sub (pv 0) pe_int set_list))
      (pss_one (ps_if (pt_cmpR op_ge (pe_callB (id := "abs") call_absK (by rfl) T.b_abs (by decide +kernel) (pa_cons (pv 2) pa_nil)) (pe_op op_pow pe_int pe_int) (nomark _)) (pss_one (ps_asg (pe_callB (id := "abs") call_absK (by rfl) T.b_abs (by decide +kernel) (pa_cons (pv 2) pa_nil)) (pg_sub (pv 0) pe_int set_list))) (pss_one (ps_asg (pe_op op_mod (pe_callTy (T := "int") call_int1 (by rfl) T.b_int (by decide +kernel) (pa_cons (pe_op op_add (pe_op op_add (pe_op op_mul (pe_ix ix_list (pv 0) pe_int (fun _ _ => rfl)) pe_int) (pe_op op_mul (pv 2) pe_int)) (pe_ix ix_list (pv 0) pe_int (fun _ _ => rfl))) pa_nil)) pe_int) (pg_sub (pv 0) pe_int set_list))))))) pss_nil)
      (pss_cons (ps_if (pt_cmpR op_gt (pe_ix ix_list (pv 0) pe_int (fun _ _ => rfl)) pe_int (nomark _)) (pss_cons (ps_set (i := 3) S.nd rfl (Or.inl rfl) (pe_op op_mod (pe_callTy (T := "int") call_int1 (by rfl) T.b_int (by decide +kernel) (pa_cons (pe_ix ix_list (pv 0) pe_int (fun _ _ => rfl)) pa_nil)) (pv 1)))
      (pss_cons (ps_asg (pe_op op_fdivW (pe_ix ix_list (pv 0) pe_int (fun _ _ => rfl)) (pv 1)) (pg_sub (pv 0) pe_int set_list))
      (pss_one (ps_ret (pv 3))))) pss_nil)
      (pss_cons (ps_asg (pe_op op_mod (pe_callTy (T := "int") call_int1 (by rfl) T.b_int (by decide +kernel) (pa_cons (pe_op op_mul (pe_ix ix_list (pv 0) pe_int (fun _ _ => rfl)) pe_int) pa_nil)) pe_int) (pg_sub (pv 0) pe_int set_list))
      (pss_cons (ps_set (i := 4) S.nd rfl (Or.inl rfl) (pe_op op_mod (pe_callTy (T := "int") call_int1 (by rfl) T.b_int (by decide +kernel) (pa_cons (pe_op op_mul (pe_ix ix_list (pv 0) pe_int (fun _ _ => rfl)) pe_int) pa_nil)) pe_int))
      (pss_one (ps_ret (pe_op op_mod (pe_callTy (T := "int") call_int1 (by rfl) T.b_int (by decide +kernel) (pa_cons (pe_op op_add (pe_op op_add (pe_op op_fdiv (pv 4) pe_int) (pe_ix ix_list (pv 0) pe_int (fun _ _ => rfl))) (pe_op op_fdiv (pe_ix ix_list (pv 0) pe_int (fun _ _ => rfl)) pe_int)) pa_nil)) (pv 1))))))))), ?_⟩
    refine st__law_draw ?_
    o_args
    refine setL (i := 4) hA (by simp) fun H1 s1 h1 => ?_
    have h1 : H1 a = some (.lst [.ref c, .int p, .int r, .int s, .int (n + 1)]) := h1
    have c1 := s1 _ _ ca hC
    refine ⟨fun σ H' => ∃ v p' r' s', σ = [some (.ref a), some (.int m), v, none, none] ∧ H' a = some (.lst [.ref c, .int p', .int r', .int s', .int (n + 1)]) ∧ SameX a H1 H' ∧ 0 ≤ p' ∧ 0 ≤ r', ?_, ?_⟩
    · o_args
      refine brD (fun q => ?_) (fun q => ?_)
      · o_args
        refine lenA (.inl (SqL.of c1)) ?_
        o_args
        refine brD (fun q2 => ?_) (fun q2 => ?_)
        · obtain ⟨pn, rfl⟩ : ∃ pn : Nat, p = pn := ⟨p.toNat, by omega⟩
          have q3 : pn < (cs.map V.int).length := by omega
          rw [List.length_map] at q3
          o_args
          refine ixL c1 (show (cs.map V.int)[pn]? = some (.int cs[pn]) by rw [List.getElem?_map, List.getElem?_eq_getElem q3]; rfl) ?_
          generalize cs[pn] = cell
          o_args
          refine setL (i := 1) h1 (by simp) fun H2 s2 h2 => ?_
          have h2 : H2 a = some (.lst [.ref c, .int ((pn : Int) + 1), .int r, .int s, .int (n + 1)]) := h2
          have e18 : (10 : Int) ^ Int.toNat 18 = 1000000000000000000 := rfl
          o_args
          refine brD (fun q4 => ?_) (fun q4 => ?_)
          · rw [e18] at q4
            o_args
            refine setL (i := 2) h2 (by simp) fun H3 s3 h3 => ?_
            o_args
            exact ⟨_, _, _, _, rfl, h3, s2.trans s3, by omega, by omega⟩
          · o_args
            refine setL (i := 3) h2 (by simp) fun H3 s3 h3 => ?_
            o_args
            exact ⟨_, _, _, _, rfl, h3, s2.trans s3, by omega, by omega⟩
        · o_args
          exact ⟨_, _, _, _, rfl, h1, SameX.refl, p0, r0⟩
      · o_args
        exact ⟨_, _, _, _, rfl, h1, SameX.refl, p0, r0⟩
    · rintro σ H2 ⟨v, p', r', s', rfl, h2, s2, p1, r1⟩
      have fin : ∀ {r'' s'' H3}, H3 a = some (.lst [.ref c, .int p', .int r'', .int s'', .int (n + 1)]) → SameX a H2 H3 → 0 ≤ r'' → Box a F H3 ∧ Ch [a] H H3 := fun h3 s3 r3 => by
        have S := (s1.trans s2).trans s3
        exact ⟨⟨c, cs, p', _, _, n + 1, h3, S _ _ ca hC, nA, nC, p1, r3⟩, Ch.ofX List.mem_cons_self S h3⟩
      o_args
      refine brD (fun q => ?_) (fun q => ?_)
      · o_args
        refine ⟨_, _, rfl, rfl, m0, ?_⟩
        o_args
        refine x_divW m0 m1 ?_
        o_args
        refine setL (i := 2) h2 (by simp) fun H3 s3 h3 => ?_
        o_args
        obtain ⟨B3, C3⟩ := fin h3 s3 (Int.ediv_nonneg r1 (by omega))
        exact k _ _ (Int.emod_nonneg _ m0') (Int.emod_lt_of_pos _ m0) B3 C3
      · o_args
        refine setL (i := 3) h2 (by simp) fun H3 s3 h3 => ?_
        have h3 : H3 a = some (.lst [.ref c, .int p', .int r', .int (s' * 48271 % 2147483647), .int (n + 1)]) := h3
        o_args
        refine ⟨_, _, rfl, rfl, m0, ?_⟩
        o_args
        obtain ⟨B3, C3⟩ := fin h3 s3 r1
        exact k _ _ (Int.emod_nonneg _ m0') (Int.emod_lt_of_pos _ m0) B3 C3
/-! ### runs -/
abbrev Run := Int × Int
def Mem (o : Int) (rs : List Run) : Prop := ∃ r ∈ rs, r.1 ≤ o ∧ o < r.2
def Nrm (rs : List Run) : Prop := (∀ r ∈ rs, r.1 < r.2) ∧ rs.Pairwise fun a b => a.2 < b.1
theorem Mem.nil {o : Int} : ¬ Mem o [] := fun ⟨_, h, _⟩ => nomatch h
theorem Mem.cons {o : Int} {r : Run} {rs : List Run} : Mem o (r :: rs) ↔ (r.1 ≤ o ∧ o < r.2) ∨ Mem o rs := by
  constructor
  · rintro ⟨q, h, c⟩
    rcases List.mem_cons.mp h with rfl | h
    · exact .inl c
    · exact .inr ⟨q, h, c⟩
  · rintro (c | ⟨q, h, c⟩)
    · exact ⟨r, List.mem_cons_self, c⟩
    · exact ⟨q, List.mem_cons_of_mem _ h, c⟩
theorem Mem.app {o : Int} {rs qs : List Run} : Mem o (rs ++ qs) ↔ Mem o rs ∨ Mem o qs := by
  constructor
  · rintro ⟨q, h, c⟩
    rcases List.mem_append.mp h with h | h
    · exact .inl ⟨q, h, c⟩
    · exact .inr ⟨q, h, c⟩
  · rintro (⟨q, h, c⟩ | ⟨q, h, c⟩)
    · exact ⟨q, List.mem_append_left _ h, c⟩
    · exact ⟨q, List.mem_append_right _ h, c⟩
theorem Mem.one {o : Int} {r : Run} : Mem o [r] ↔ (r.1 ≤ o ∧ o < r.2) := by
  rw [Mem.cons]
  exact ⟨fun h => h.elim id fun h => absurd h Mem.nil, .inl⟩
theorem Nrm.nil : Nrm [] := ⟨fun _ h => (nomatch h), List.Pairwise.nil⟩
theorem Nrm.cons {r : Run} {rs : List Run} : Nrm (r :: rs) ↔ r.1 < r.2 ∧ (∀ q ∈ rs, r.2 < q.1) ∧ Nrm rs := by
  unfold Nrm
  rw [List.pairwise_cons]
  constructor
  · rintro ⟨h1, h2, h3⟩
    exact ⟨h1 r List.mem_cons_self, h2, fun q hq => h1 q (List.mem_cons_of_mem _ hq), h3⟩
  · rintro ⟨h1, h2, h3, h4⟩
    refine ⟨fun q hq => ?_, h2, h4⟩
    rcases List.mem_cons.mp hq with rfl | hq
    · exact h1
    · exact h3 q hq
theorem Nrm.snoc {r : Run} {rs : List Run} : Nrm (rs ++ [r]) ↔ Nrm rs ∧ r.1 < r.2 ∧ (∀ q ∈ rs, q.2 < r.1) := by
  unfold Nrm
  rw [List.pairwise_append]
  constructor
  · rintro ⟨h1, h2, _, h4⟩
    exact ⟨⟨fun q hq => h1 q (List.mem_append_left _ hq), h2⟩, h1 r (by simp), fun q hq => h4 q hq r (by simp)⟩
  · rintro ⟨⟨h1, h2⟩, h3, h4⟩
    refine ⟨fun q hq => ?_, h2, by simp, fun q hq q' hq' => ?_⟩
    · rcases List.mem_append.mp hq with hq | hq
      · exact h1 q hq
      · rw [List.mem_singleton] at hq; rw [hq]; exact h3
    · rw [List.mem_singleton] at hq'; rw [hq']; exact h4 q hq
/-- two such lists with the same offsets are one -/
theorem Nrm.uniq : ∀ {rs qs : List Run}, Nrm rs → Nrm qs → (∀ o, Mem o rs ↔ Mem o qs) → rs = qs
  | [], [], _, _, _ => rfl
  | [], q :: qs, _, n, h => absurd ((h q.1).mpr ⟨q, List.mem_cons_self, Int.le_refl _, (Nrm.cons.mp n).1⟩) Mem.nil
  | r :: rs, [], n, _, h => absurd ((h r.1).mp ⟨r, List.mem_cons_self, Int.le_refl _, (Nrm.cons.mp n).1⟩) Mem.nil
  | r :: rs, q :: qs, n, m, h => by
    obtain ⟨n1, n2, n3⟩ := Nrm.cons.mp n
    obtain ⟨m1, m2, m3⟩ := Nrm.cons.mp m
    have lo : ∀ {r : Run} {rs : List Run} {o : Int}, r.1 < r.2 → (∀ q ∈ rs, r.2 < q.1) → Mem o (r :: rs) → r.1 ≤ o := fun {r rs o} c d e => by
      rcases Mem.cons.mp e with e | ⟨q, hq, e⟩
      · exact e.1
      · have := d q hq; omega
    have hi : ∀ {r : Run} {rs : List Run}, r.1 < r.2 → (∀ q ∈ rs, r.2 < q.1) → ¬ Mem r.2 (r :: rs) := fun {r rs} c d e => by
      rcases Mem.cons.mp e with e | ⟨q, hq, e⟩
      · omega
      · have := d q hq; omega
    have e1 : r.1 = q.1 := by
      have a := lo m1 m2 ((h r.1).mp (Mem.cons.mpr (.inl ⟨Int.le_refl _, n1⟩)))
      have b := lo n1 n2 ((h q.1).mpr (Mem.cons.mpr (.inl ⟨Int.le_refl _, m1⟩)))
      omega
    have e2 : r.2 = q.2 := by
      have a := hi n1 n2
      have b := hi m1 m2
      rcases Int.lt_trichotomy r.2 q.2 with c | c | c
      · exact absurd ((h r.2).mpr (Mem.cons.mpr (.inl ⟨by omega, c⟩))) a
      · exact c
      · exact absurd ((h q.2).mp (Mem.cons.mpr (.inl ⟨by omega, c⟩))) b
    have e : r = q := Prod.ext e1 e2
    subst e
    have t : ∀ o, Mem o rs ↔ Mem o qs := fun o => by
      constructor
      · intro g
        obtain ⟨x, hx, c⟩ := g
        rcases Mem.cons.mp ((h o).mp (Mem.cons.mpr (.inr ⟨x, hx, c⟩))) with d | d
        · have := n2 x hx; omega
        · exact d
      · intro g
        obtain ⟨x, hx, c⟩ := g
        rcases Mem.cons.mp ((h o).mpr (Mem.cons.mpr (.inr ⟨x, hx, c⟩))) with d | d
        · have := m2 x hx; omega
        · exact d
    rw [Nrm.uniq n3 m3 t]
theorem Nrm.le_last {r : Run} {rs : List Run} (n : Nrm (rs ++ [r])) : ∀ q ∈ rs ++ [r], q.2 ≤ r.2 := fun q hq => by
  obtain ⟨_, n2, n3⟩ := Nrm.snoc.mp n
  rcases List.mem_append.mp hq with hq | hq
  · have := n3 q hq; omega
  · rw [List.mem_singleton] at hq; rw [hq]; exact Int.le_refl _
/-- a list is empty or has a last item -/
theorem snoc_or {α : Type} (l : List α) : l = [] ∨ ∃ a x, l = a ++ [x] := by
  rcases l.eq_nil_or_concat with h | ⟨a, x, h⟩
  · exact .inl h
  · exact .inr ⟨a, x, by rw [h, List.concat_eq_append]⟩
/-! joined -/
/-- what joined has made of the sorted pairs ps -/
structure Jnd (ps runs : List Run) : Prop where
  nrm : Nrm runs
  mem : ∀ o, Mem o runs ↔ Mem o ps
  lo : ∀ r ∈ runs, ∃ p ∈ ps, r.1 = p.1
  hi : ∀ p ∈ ps, runs = [] ∧ p.2 ≤ p.1 ∨ ∃ a r, runs = a ++ [r] ∧ (p.2 ≤ r.2 ∨ p.2 ≤ p.1)
theorem Jnd.nil : Jnd [] [] := ⟨.nil, fun _ => Iff.rfl, fun _ h => (nomatch h), fun _ h => (nomatch h)⟩
theorem Jnd.glue {ps a : List Run} {r p : Run} (J : Jnd ps (a ++ [r])) (hs : ∀ q ∈ ps, q.1 ≤ p.1) (h : p.1 ≤ r.2) : Jnd (ps ++ [p]) (a ++ [(r.1, max r.2 p.2)]) := by
  obtain ⟨n1, n2, n3⟩ := Nrm.snoc.mp J.nrm
  refine ⟨Nrm.snoc.mpr ⟨n1, by show r.1 < max r.2 p.2; omega, n3⟩, fun o => ?_, fun q hq => ?_, fun q hq => .inr ⟨a, _, rfl, ?_⟩⟩
  · have j := J.mem o
    have l : r.1 ≤ p.1 := by
      obtain ⟨q, hq, e⟩ := J.lo r (by simp)
      have := hs q hq; omega
    rw [Mem.app, Mem.one] at j
    rw [Mem.app, Mem.app, Mem.one, Mem.one, ← j]
    show (Mem o a ∨ r.1 ≤ o ∧ o < max r.2 p.2) ↔ ((Mem o a ∨ r.1 ≤ o ∧ o < r.2) ∨ p.1 ≤ o ∧ o < p.2)
    constructor
    · rintro (h | h)
      · exact .inl (.inl h)
      · by_cases c : o < r.2
        · exact .inl (.inr ⟨h.1, c⟩)
        · exact .inr (by omega)
    · rintro ((h | h) | h)
      · exact .inl h
      · exact .inr (by omega)
      · exact .inr (by omega)
  · rcases List.mem_append.mp hq with hq | hq
    · obtain ⟨p', h1, h2⟩ := J.lo q (List.mem_append_left _ hq)
      exact ⟨p', List.mem_append_left _ h1, h2⟩
    · rw [List.mem_singleton] at hq
      obtain ⟨p', h1, h2⟩ := J.lo r (by simp)
      exact ⟨p', List.mem_append_left _ h1, by rw [hq]; exact h2⟩
  · show q.2 ≤ max r.2 p.2 ∨ q.2 ≤ q.1
    rcases List.mem_append.mp hq with hq | hq
    · rcases J.hi q hq with ⟨e, _⟩ | ⟨a', r', e, h⟩
      · exact absurd e (by simp)
      · have e := (List.append_inj' e rfl).2
        cases e
        omega
    · rw [List.mem_singleton] at hq; rw [hq]; omega
theorem Jnd.push {ps runs : List Run} {p : Run} (J : Jnd ps runs) (hs : ∀ q ∈ ps, q.1 ≤ p.1) (h : ∀ r ∈ runs, r.2 < p.1) (c : p.1 < p.2) : Jnd (ps ++ [p]) (runs ++ [p]) := by
  refine ⟨Nrm.snoc.mpr ⟨J.nrm, c, h⟩, fun o => ?_, fun q hq => ?_, fun q hq => .inr ⟨runs, p, rfl, ?_⟩⟩
  · rw [Mem.app, Mem.app, J.mem o]
  · rcases List.mem_append.mp hq with hq | hq
    · obtain ⟨p', h1, h2⟩ := J.lo q hq
      exact ⟨p', List.mem_append_left _ h1, h2⟩
    · rw [List.mem_singleton] at hq
      exact ⟨p, by simp, by rw [hq]⟩
  · rcases List.mem_append.mp hq with hq | hq
    · rcases J.hi q hq with ⟨_, e⟩ | ⟨a', r', e, d⟩
      · exact .inr e
      · have := h r' (by rw [e]; simp)
        omega
    · rw [List.mem_singleton] at hq; rw [hq]; exact .inl (Int.le_refl _)
theorem Jnd.skip {ps runs : List Run} {p : Run} (J : Jnd ps runs) (c : p.2 ≤ p.1) : Jnd (ps ++ [p]) runs := by
  refine ⟨J.nrm, fun o => ?_, fun q hq => ?_, fun q hq => ?_⟩
  · rw [Mem.app, J.mem o, Mem.one]
    exact ⟨.inl, fun h => h.elim id fun h => by omega⟩
  · obtain ⟨p', h1, h2⟩ := J.lo q hq
    exact ⟨p', List.mem_append_left _ h1, h2⟩
  · rcases List.mem_append.mp hq with hq | hq
    · exact J.hi q hq
    · rw [List.mem_singleton] at hq
      rw [hq]
      rcases snoc_or runs with e | ⟨a, r, e⟩
      · exact .inl ⟨e, c⟩
      · exact .inr ⟨a, r, e, .inr c⟩
/-- the last run ends last -/
theorem Nrm.ends {a : List Run} {r : Run} (n : Nrm (a ++ [r])) {o : Int} (h : r.2 < o) : ∀ q ∈ a ++ [r], q.2 < o := fun q hq => by
  have := n.le_last q hq
  omega
/-! missing -/
structure Msg (low high at_ : Int) (pre found : List Run) : Prop where
  nrm : Nrm found
  bef : ∀ q ∈ found, q.2 < at_ ∧ low ≤ q.1 ∧ q.2 ≤ high
  lo : low ≤ at_
  prv : ∀ r ∈ pre, r.2 ≤ at_
  wh : at_ = low ∨ ∃ r ∈ pre, at_ = r.2
  mem : ∀ o, Mem o found ↔ low ≤ o ∧ o < high ∧ o < at_ ∧ ¬ Mem o pre
theorem Msg.start {low high : Int} : Msg low high low [] [] := ⟨.nil, fun _ h => (nomatch h), Int.le_refl _, fun _ h => (nomatch h), .inl rfl, fun o => ⟨fun h => absurd h Mem.nil, fun h => by omega⟩⟩
theorem Msg.step {low high at_ : Int} {pre found : List Run} {r : Run} (M : Msg low high at_ pre found) (hr : r.1 < r.2) (hp : ∀ q ∈ pre, q.2 < r.1) :
    Msg low high (max at_ r.2) (pre ++ [r]) (if at_ < min r.1 high then found ++ [(at_, min r.1 high)] else found) := by
  have lo := M.lo
  have pr : ∀ q ∈ pre ++ [r], q.2 ≤ max at_ r.2 := fun q hq => by
    rcases List.mem_append.mp hq with hq | hq
    · have := M.prv q hq; omega
    · rw [List.mem_singleton] at hq; rw [hq]; omega
  have wh : max at_ r.2 = low ∨ ∃ q ∈ pre ++ [r], max at_ r.2 = q.2 := by
    by_cases c : at_ ≤ r.2
    · exact .inr ⟨r, by simp, by omega⟩
    · rcases M.wh with e | ⟨q, hq, e⟩
      · exact .inl (by omega)
      · exact .inr ⟨q, List.mem_append_left _ hq, by omega⟩
  split
  · rename_i h
    refine ⟨Nrm.snoc.mpr ⟨M.nrm, h, fun q hq => (M.bef q hq).1⟩, fun q hq => ?_, by omega, pr, wh, fun o => ?_⟩
    · rcases List.mem_append.mp hq with hq | hq
      · obtain ⟨b1, b2, b3⟩ := M.bef q hq
        omega
      · rw [List.mem_singleton] at hq; rw [hq]
        show min r.1 high < max at_ r.2 ∧ low ≤ at_ ∧ min r.1 high ≤ high
        omega
    · rw [Mem.app, Mem.app, Mem.one, Mem.one, M.mem o]
      show (_ ∨ at_ ≤ o ∧ o < min r.1 high) ↔ _
      constructor
      · rintro (⟨h1, h2, h3, h4⟩ | ⟨h1, h2⟩)
        · refine ⟨h1, h2, by omega, fun z => z.elim h4 fun z => ?_⟩
          omega
        · refine ⟨by omega, by omega, by omega, fun z => z.elim (fun ⟨q, hq, c⟩ => ?_) fun z => ?_⟩
          · have := M.prv q hq; omega
          · omega
      · rintro ⟨h1, h2, h3, h4⟩
        by_cases c : o < at_
        · exact .inl ⟨h1, h2, c, fun z => h4 (.inl z)⟩
        · refine .inr ⟨by omega, ?_⟩
          by_cases d : o < r.1
          · omega
          · exact absurd (.inr ⟨by omega, by omega⟩) h4
  · rename_i h
    refine ⟨M.nrm, fun q hq => ?_, by omega, pr, wh, fun o => ?_⟩
    · obtain ⟨b1, b2, b3⟩ := M.bef q hq
      omega
    · rw [Mem.app, Mem.one, M.mem o]
      constructor
      · rintro ⟨h1, h2, h3, h4⟩
        refine ⟨h1, h2, by omega, fun z => z.elim h4 fun z => ?_⟩
        rcases M.wh with e | ⟨q, hq, e⟩
        · omega
        · have := hp q hq; omega
      · rintro ⟨h1, h2, h3, h4⟩
        by_cases c : o < at_
        · exact ⟨h1, h2, c, fun z => h4 (.inl z)⟩
        · by_cases d : o < r.1
          · omega
          · exact absurd (.inr ⟨by omega, by omega⟩) h4
theorem Msg.done {low high at_ : Int} {rs found : List Run} (M : Msg low high at_ rs found) : ∃ out, out = (if at_ < high then found ++ [(at_, high)] else found) ∧ Nrm out ∧ (∀ q ∈ out, low ≤ q.1 ∧ q.2 ≤ high) ∧ ∀ o, Mem o out ↔ low ≤ o ∧ o < high ∧ ¬ Mem o rs := by
  have lo := M.lo
  refine ⟨_, rfl, ?_⟩
  split
  · rename_i h
    refine ⟨Nrm.snoc.mpr ⟨M.nrm, h, fun q hq => (M.bef q hq).1⟩, fun q hq => ?_, fun o => ?_⟩
    · rcases List.mem_append.mp hq with hq | hq
      · exact (M.bef q hq).2
      · rw [List.mem_singleton] at hq; rw [hq]
        exact ⟨M.lo, Int.le_refl _⟩
    · rw [Mem.app, Mem.one, M.mem o]
      show (_ ∨ at_ ≤ o ∧ o < high) ↔ _
      constructor
      · rintro (⟨h1, h2, h3, h4⟩ | ⟨h1, h2⟩)
        · exact ⟨h1, h2, h4⟩
        · exact ⟨by omega, h2, fun ⟨q, hq, c⟩ => by have := M.prv q hq; omega⟩
      · rintro ⟨h1, h2, h3⟩
        by_cases c : o < at_
        · exact .inl ⟨h1, h2, c, h3⟩
        · exact .inr ⟨by omega, h2⟩
  · rename_i h
    refine ⟨M.nrm, fun q hq => (M.bef q hq).2, fun o => ?_⟩
    rw [M.mem o]
    exact ⟨fun ⟨h1, h2, _, h4⟩ => ⟨h1, h2, h4⟩, fun ⟨h1, h2, h3⟩ => ⟨h1, h2, by omega, h3⟩⟩
/-! common -/
structure Com (F S A B found : List Run) : Prop where
  nrm : Nrm found
  na : Nrm A
  nb : Nrm B
  bef : ∀ q ∈ found, ∀ a ∈ A, ∀ b ∈ B, q.2 < max a.1 b.1
  lo : ∀ q ∈ found, ∃ a ∈ F, a.1 ≤ q.1
  sub : ∀ a ∈ A, a ∈ F
  mem : ∀ o, (Mem o F ∧ Mem o S) ↔ Mem o found ∨ (Mem o A ∧ Mem o B)
theorem Com.start {F S : List Run} (hF : Nrm F) (hS : Nrm S) : Com F S F S [] := ⟨.nil, hF, hS, fun _ h => (nomatch h), fun _ h => (nomatch h), fun _ h => h, fun o => ⟨.inr, fun h => h.elim (fun z => absurd z Mem.nil) id⟩⟩
def piece (a b : Run) (found : List Run) : List Run := if max a.1 b.1 < min a.2 b.2 then found ++ [(max a.1 b.1, min a.2 b.2)] else found
theorem mem_piece {a b : Run} {found : List Run} {o : Int} : Mem o (piece a b found) ↔ Mem o found ∨ ((a.1 ≤ o ∧ o < a.2) ∧ (b.1 ≤ o ∧ o < b.2)) := by
  unfold piece
  split
  · rw [Mem.app, Mem.one]
    show (_ ∨ max a.1 b.1 ≤ o ∧ o < min a.2 b.2) ↔ _
    constructor
    · rintro (h | h)
      · exact .inl h
      · exact .inr (by omega)
    · rintro (h | h)
      · exact .inl h
      · exact .inr (by omega)
  · constructor
    · exact .inl
    · rintro (h | h)
      · exact h
      · omega
theorem Com.piece {F S A B found : List Run} {a b : Run} (C : Com F S (a :: A) (b :: B) found) : Nrm (piece a b found) ∧ (∀ q ∈ piece a b found, ∃ x ∈ F, x.1 ≤ q.1) ∧ ∀ q ∈ piece a b found, (∀ x ∈ a :: A, ∀ y ∈ b :: B, q.2 < max x.1 y.1) ∨ q.2 = min a.2 b.2 := by
  unfold My.piece
  split
  · rename_i h
    refine ⟨Nrm.snoc.mpr ⟨C.nrm, h, fun q hq => C.bef q hq a List.mem_cons_self b List.mem_cons_self⟩, fun q hq => ?_, fun q hq => ?_⟩
    · rcases List.mem_append.mp hq with hq | hq
      · exact C.lo q hq
      · rw [List.mem_singleton] at hq; rw [hq]
        exact ⟨a, C.sub a List.mem_cons_self, by show a.1 ≤ max a.1 b.1; omega⟩
    · rcases List.mem_append.mp hq with hq | hq
      · exact .inl (C.bef q hq)
      · rw [List.mem_singleton] at hq; rw [hq]; exact .inr rfl
  · exact ⟨C.nrm, C.lo, fun q hq => .inl (C.bef q hq)⟩
theorem Com.left {F S A B found : List Run} {a b : Run} (C : Com F S (a :: A) (b :: B) found) (h : a.2 < b.2) : Com F S A (b :: B) (My.piece a b found) := by
  obtain ⟨p1, p2, p3⟩ := C.piece
  obtain ⟨a1, a2, a3⟩ := Nrm.cons.mp C.na
  obtain ⟨b1, b2, b3⟩ := Nrm.cons.mp C.nb
  refine ⟨p1, a3, C.nb, fun q hq x hx y hy => ?_, p2, fun x hx => C.sub x (List.mem_cons_of_mem _ hx), fun o => ?_⟩
  · rcases p3 q hq with e | e
    · exact e x (List.mem_cons_of_mem _ hx) y hy
    · have := a2 x hx; omega
  · rw [C.mem o, mem_piece, Mem.cons]
    constructor
    · rintro (h1 | ⟨h1 | h1, h2⟩)
      · exact .inl (.inl h1)
      · rcases Mem.cons.mp h2 with h2 | ⟨y, hy, h2⟩
        · exact .inl (.inr ⟨h1, h2⟩)
        · have := b2 y hy; omega
      · exact .inr ⟨h1, h2⟩
    · rintro ((h1 | h1) | h1)
      · exact .inl h1
      · exact .inr ⟨.inl h1.1, Mem.cons.mpr (.inl h1.2)⟩
      · exact .inr ⟨.inr h1.1, h1.2⟩
theorem Com.right {F S A B found : List Run} {a b : Run} (C : Com F S (a :: A) (b :: B) found) (h : ¬ a.2 < b.2) : Com F S (a :: A) B (My.piece a b found) := by
  obtain ⟨p1, p2, p3⟩ := C.piece
  obtain ⟨a1, a2, a3⟩ := Nrm.cons.mp C.na
  obtain ⟨b1, b2, b3⟩ := Nrm.cons.mp C.nb
  refine ⟨p1, C.na, b3, fun q hq x hx y hy => ?_, p2, C.sub, fun o => ?_⟩
  · rcases p3 q hq with e | e
    · exact e x hx y (List.mem_cons_of_mem _ hy)
    · have := b2 y hy; omega
  · rw [C.mem o, mem_piece, Mem.cons (rs := B)]
    constructor
    · rintro (h1 | ⟨h1, h2 | h2⟩)
      · exact .inl (.inl h1)
      · rcases Mem.cons.mp h1 with h1 | ⟨y, hy, h1⟩
        · exact .inl (.inr ⟨h1, h2⟩)
        · have := a2 y hy; omega
      · exact .inr ⟨h1, h2⟩
    · rintro ((h1 | h1) | h1)
      · exact .inl h1
      · exact .inr ⟨Mem.cons.mpr (.inl h1.1), .inl h1.2⟩
      · exact .inr ⟨h1.1, .inr h1.2⟩
theorem Com.done {F S A B found : List Run} (C : Com F S A B found) (h : A = [] ∨ B = []) : Nrm found ∧ (∀ q ∈ found, ∃ a ∈ F, a.1 ≤ q.1) ∧ ∀ o, Mem o found ↔ Mem o F ∧ Mem o S := by
  refine ⟨C.nrm, C.lo, fun o => ?_⟩
  rw [C.mem o]
  constructor
  · exact .inl
  · rintro (e | e)
    · exact e
    · rcases h with rfl | rfl
      · exact absurd e.1 Mem.nil
      · exact absurd e.2 Mem.nil
/-! the law's own way: the ends in order, a truth between them -/
structure Due (f : Int → Bool) (es : List Int) (k : Nat) (due : List Run) : Prop where
  nrm : Nrm due
  bef : ∀ q ∈ due, ∀ e, es[k]? = some e → q.2 ≤ e
  mem : ∀ o, Mem o due ↔ f o = true ∧ ∃ e0 e, es[0]? = some e0 ∧ es[k]? = some e ∧ e0 ≤ o ∧ o < e
def addDue (low high : Int) (due : List Run) : List Run := match due.getLast? with
  | some r => if r.2 = low then due.dropLast ++ [(r.1, high)] else due ++ [(low, high)]
  | none => due ++ [(low, high)]
theorem Due.start {f : Int → Bool} {es : List Int} : Due f es 0 [] := ⟨.nil, fun _ h => (nomatch h), fun o => ⟨fun h => absurd h Mem.nil, fun ⟨_, e0, e, h1, h2, h3, h4⟩ => by
  rw [h1] at h2; cases h2; omega⟩⟩
theorem Due.skip {f : Int → Bool} {es : List Int} {k : Nat} {due : List Run} {low high : Int} (D : Due f es k due) (hl : es[k]? = some low) (hh : es[k + 1]? = some high) (so : low ≤ high) (c : ∀ o, low ≤ o → o < high → f o = f low) (h : ¬ (low < high ∧ f low = true)) : Due f es (k + 1) due := by
  refine ⟨D.nrm, fun q hq e he => ?_, fun o => ?_⟩
  · rw [hh] at he; cases he
    have := D.bef q hq low hl; omega
  · rw [D.mem o]
    constructor
    · rintro ⟨h1, e0, e, h2, h3, h4, h5⟩
      rw [hl] at h3; cases h3
      exact ⟨h1, e0, high, h2, hh, h4, by omega⟩
    · rintro ⟨h1, e0, e, h2, h3, h4, h5⟩
      rw [hh] at h3; cases h3
      refine ⟨h1, e0, low, h2, hl, h4, ?_⟩
      by_cases d : o < low
      · exact d
      · exact absurd ⟨by omega, by rw [← c o (by omega) h5]; exact h1⟩ h
theorem Due.add {f : Int → Bool} {es : List Int} {k : Nat} {due : List Run} {low high e0 : Int} (D : Due f es k due) (hl : es[k]? = some low) (hh : es[k + 1]? = some high) (h0 : es[0]? = some e0) (l0 : e0 ≤ low) (so : low < high) (c : ∀ o, low ≤ o → o < high → f o = f low) (h : f low = true) : Due f es (k + 1) (addDue low high due) := by
  have mm : ∀ o, (Mem o due ∨ low ≤ o ∧ o < high) ↔ f o = true ∧ ∃ e0 e, es[0]? = some e0 ∧ es[k + 1]? = some e ∧ e0 ≤ o ∧ o < e := fun o => by
    rw [D.mem o]
    constructor
    · rintro (⟨h1, e0, e, h2, h3, h4, h5⟩ | h5)
      · rw [hl] at h3; cases h3
        exact ⟨h1, e0, high, h2, hh, h4, by omega⟩
      · exact ⟨by rw [c o h5.1 h5.2]; exact h, e0, high, h0, hh, by omega, h5.2⟩
    · rintro ⟨h1, e1, e, h2, h3, h4, h5⟩
      rw [hh] at h3; cases h3
      by_cases d : o < low
      · exact .inl ⟨h1, e1, low, h2, hl, h4, d⟩
      · exact .inr ⟨by omega, h5⟩
  have bf : ∀ q ∈ due, q.2 ≤ low := fun q hq => D.bef q hq low hl
  unfold addDue
  rcases snoc_or due with rfl | ⟨a, r, rfl⟩
  · refine ⟨Nrm.snoc.mpr ⟨.nil, so, fun _ h => (nomatch h)⟩, fun q hq e he => ?_, fun o => ?_⟩
    · rw [hh] at he; cases he
      have hq : q ∈ [(low, high)] := hq
      rw [List.mem_singleton] at hq; rw [hq]; exact Int.le_refl _
    · show Mem o ([] ++ [(low, high)]) ↔ _
      rw [Mem.app, Mem.one]; exact mm o
  · rw [List.getLast?_concat]
    show Due f es (k + 1) (if r.2 = low then (a ++ [r]).dropLast ++ [(r.1, high)] else (a ++ [r]) ++ [(low, high)])
    obtain ⟨n1, n2, n3⟩ := Nrm.snoc.mp D.nrm
    split
    · rename_i e
      rw [List.dropLast_concat]
      refine ⟨Nrm.snoc.mpr ⟨n1, by show r.1 < high; omega, n3⟩, fun q hq e' he => ?_, fun o => ?_⟩
      · rw [hh] at he; cases he
        rcases List.mem_append.mp hq with hq | hq
        · have := bf q (List.mem_append_left _ hq); omega
        · rw [List.mem_singleton] at hq; rw [hq]; exact Int.le_refl _
      · rw [← mm o, Mem.app, Mem.app, Mem.one, Mem.one]
        show (Mem o a ∨ r.1 ≤ o ∧ o < high) ↔ _
        constructor
        · rintro (h | h)
          · exact .inl (.inl h)
          · by_cases d : o < low
            · exact .inl (.inr (by omega))
            · exact .inr (by omega)
        · rintro ((h | h) | h)
          · exact .inl h
          · exact .inr (by omega)
          · exact .inr (by omega)
    · rename_i e
      refine ⟨Nrm.snoc.mpr ⟨D.nrm, so, fun q hq => ?_⟩, fun q hq e' he => ?_, fun o => ?_⟩
      · have hr := bf r (by simp)
        have := D.nrm.le_last q hq
        show q.2 < low
        omega
      · rw [hh] at he; cases he
        rcases List.mem_append.mp hq with hq | hq
        · have := bf q hq; omega
        · rw [List.mem_singleton] at hq; rw [hq]; exact Int.le_refl _
      · rw [Mem.app, Mem.one]; exact mm o
/-- an offset lies in one run alone -/
theorem pair_uniq {rs : List Run} {r q : Run} {o : Int} (n : Nrm rs) (hr : r ∈ rs) (hq : q ∈ rs) (c1 : r.1 ≤ o) (c2 : o < r.2) (d1 : q.1 ≤ o) (d2 : o < q.2) : r = q := by
  induction rs with
  | nil => exact nomatch hr
  | cons a rs ih =>
    obtain ⟨_, n2, n3⟩ := Nrm.cons.mp n
    rcases List.mem_cons.mp hr with e1 | h1 <;> rcases List.mem_cons.mp hq with e2 | h2
    · exact e1.trans e2.symm
    · have := n2 q h2; subst e1; omega
    · have := n2 r h1; subst e2; omega
    · exact ih n3 h1 h2
/-! ### pairs, tuples of runs -/
def PairAt (H : Hp) (v : V) (p : Run) : Prop := ∃ t, v = .ref t ∧ (H t = some (.tup [.int p.1, .int p.2]) ∨ H t = some (.lst [.int p.1, .int p.2]))
def Tups (H : Hp) (ts : List Addr) (rs : List Run) : Prop := ts.length = rs.length ∧ ∀ (i : Nat) t r, ts[i]? = some t → rs[i]? = some r → H t = some (.tup [.int r.1, .int r.2])
def RunsL (l : Addr) (ts : List Addr) (rs : List Run) (H : Hp) : Prop := H l = some (.lst (ts.map V.ref)) ∧ Tups H ts rs
section
variable {H H' : Hp} {ts G : List Addr} {rs : List Run} {t l : Addr} {r : Run} {v : V} {p : Run}
theorem PairAt.same (h : PairAt H v p) (s : Same H H') : PairAt H' v p := by
  obtain ⟨t, e, h | h⟩ := h
  · exact ⟨t, e, .inl (s _ _ h)⟩
  · exact ⟨t, e, .inr (s _ _ h)⟩
theorem Tups.ch (h : Tups H ts rs) (x : Ch G H H') (n : ∀ t ∈ ts, t ∉ G) : Tups H' ts rs := ⟨h.1, fun i t r h1 h2 => x.at (n t (List.mem_of_getElem? h1)) (h.2 i t r h1 h2)⟩
theorem Tups.same (h : Tups H ts rs) (s : Same H H') : Tups H' ts rs := ⟨h.1, fun i t r h1 h2 => s _ _ (h.2 i t r h1 h2)⟩
theorem Tups.nil : Tups H [] [] := ⟨rfl, fun _ _ _ h => nomatch h⟩
theorem Tups.snoc (h : Tups H ts rs) (e : H t = some (.tup [.int r.1, .int r.2])) : Tups H (ts ++ [t]) (rs ++ [r]) := ⟨by rw [List.length_append, List.length_append, h.1]; rfl, fun i a b h1 h2 => by
  rcases getq_app h1 with ⟨c, h1⟩ | ⟨c, d⟩
  · rw [List.getElem?_append_left (by have := h.1; omega)] at h2
    exact h.2 i a b h1 h2
  · subst d
    rw [c, h.1, List.getElem?_append_right (Nat.le_refl _), Nat.sub_self] at h2
    cases h2
    exact e⟩
theorem Tups.init {t : Addr} {r : Run} (h : Tups H (ts ++ [t]) (rs ++ [r])) : Tups H ts rs ∧ H t = some (.tup [.int r.1, .int r.2]) := by
  have e : ts.length = rs.length := by
    have := h.1
    rw [List.length_append, List.length_append] at this
    exact Nat.add_right_cancel this
  refine ⟨⟨e, fun i a b h1 h2 => ?_⟩, ?_⟩
  · have l1 := getq_lt h1
    exact h.2 i a b (by rw [List.getElem?_append_left l1]; exact h1) (by rw [List.getElem?_append_left (by omega)]; exact h2)
  · exact h.2 ts.length t r (by simp) (by rw [e]; simp)
theorem RunsL.ch (h : RunsL l ts rs H) (x : Ch G H H') (n : l ∉ G) (m : ∀ t ∈ ts, t ∉ G) : RunsL l ts rs H' := ⟨x.at n h.1, h.2.ch x m⟩
theorem RunsL.same (h : RunsL l ts rs H) (s : Same H H') : RunsL l ts rs H' := ⟨s _ _ h.1, h.2.same s⟩
theorem RunsL.len (h : RunsL l ts rs H) : ts.length = rs.length := h.2.1
theorem RunsL.at (h : RunsL l ts rs H) {i : Nat} {r : Run} (e : rs[i]? = some r) : ∃ t, ts[i]? = some t ∧ (ts.map V.ref)[i]? = some (.ref t) ∧ H t = some (.tup [.int r.1, .int r.2]) := by
  have l1 := getq_lt e
  have l2 : i < ts.length := by have := h.2.1; omega
  exact ⟨ts[i], List.getElem?_eq_getElem l2, by rw [List.getElem?_map, List.getElem?_eq_getElem l2]; rfl, h.2.2 i _ r (List.getElem?_eq_getElem l2) e⟩
theorem Tups.lst_ne {xs : List V} (h : Tups H ts rs) (e : H l = some (.lst xs)) : ∀ t ∈ ts, t ≠ l := fun t ht z => by
  obtain ⟨i, hi⟩ := List.mem_iff_getElem?.mp ht
  have l1 := getq_lt hi
  have l2 : i < rs.length := by have := h.1; omega
  have := h.2 i t rs[i] hi (List.getElem?_eq_getElem l2)
  rw [z, e] at this
  cases this
end
/-- a pair's two places -/
theorem two_to {K : PySem.W.Frag} {t : Addr} {x y : V} {i j : Nat} {σ : L2.St} {H : Hp} {QS : L2.St → Hp → Prop} (h : H t = some (.tup [x, y])) (q : QS ((σ.set i (some x)).set j (some y)) H) : gTup K 2 (gCons (gName i) (gCons (gName j) gNil)) (.ref t) σ H QS :=
  ⟨t, _, rfl, SqT.of h, rfl, x, [y], rfl, y, [], rfl, rfl, q⟩
/-- the last item of a list -/
theorem ixLast {K : PySem.W.Frag} {H : Hp} {Q : VK} {a : Addr} {xs : List V} {v : V} (h : H a = some (.lst (xs ++ [v]))) (q : Q v H) : rIxL K (.ref a) (.int (-1)) H Q := ⟨a, _, -1, v, rfl, rfl, SqL.of h, atI_last xs v, q⟩
theorem ixN_last {α : Type} (xs : List α) (v : α) : ixN (xs ++ [v]).length (-1) = some xs.length := by
  have hl : (xs ++ [v]).length = xs.length + 1 := by simp
  unfold ixN
  rw [if_neg (by decide), if_pos (by omega), hl]
  congr 1
  omega
theorem setLast {H : Hp} {a : Addr} {xs : List V} {v w : V} {P : Hp → Prop} (h : H a = some (.lst (xs ++ [v]))) (q : ∀ H', SameX a H H' → H' a = some (.lst (xs ++ [w])) → P H') : rSetL (.ref a) (.int (-1)) w H P :=
  ⟨a, _, -1, _, rfl, rfl, h, ixN_last xs v, q _ SameX.upd (by rw [upd_same]; simp)⟩
/-- tuple(v), v a pair -/
theorem tupPair {K : PySem.W.Frag} {H : Hp} {Q : VK} {v : V} {p : Run} (h : PairAt H v p) (q : ∀ t H', Same H H' → H' t = some (.tup [.int p.1, .int p.2]) → Q (.ref t) H') : rTupOf K [v] H Q := by
  obtain ⟨t, rfl, h | h⟩ := h
  · exact ⟨t, _, rfl, .inr ⟨SqT.of h, q t H (Same.refl _) h⟩⟩
  · exact ⟨t, _, rfl, .inl ⟨SqL.of h, fun l hl => q l _ (Same.new hl) upd_same⟩⟩
/-- what the heap says of a pair -/
def kOf (H : Hp) (v : V) : Int × Int := match v with
  | .ref t => match H t with
    | some (.tup [.int a, .int b]) => (a, b)
    | _ => (0, 0)
  | _ => (0, 0)
theorem kOf_at {H : Hp} {t : Addr} {p : Run} (h : H t = some (.tup [.int p.1, .int p.2])) : kOf H (.ref t) = p := by
  unfold kOf
  simp only [h]
theorem x_asg2 {te : TE} {g1 g2 : TG} {D : Ends} {σ : L2.St} {H : Hp} (q : te σ H fun x H1 => g1 x σ H1 fun σ1 H2 => g2 x σ1 H2 D.nx) : tAsg2 te g1 g2 D σ H := q
theorem truL {K : PySem.W.Frag} {H : Hp} {l : Addr} {xs : List V} (h : H l = some (.lst xs)) : TruV K (.ref l) H (!xs.isEmpty) := .inl ⟨xs, SqL.of h, rfl⟩
theorem x_for2 {ta : TA} {g : TG} {ts : TS} {D : Ends} {σ : L2.St} {H : Hp} (q : ta σ H fun vs H1 => ∃ i j : Int, vs = [.int i, .int j] ∧ (-(2 ^ 62) ≤ i ∧ i < 2 ^ 62 ∧ -(2 ^ 62) ≤ j ∧ j < 2 ^ 62) ∧ forK (Itr i (j - i).toNat) g ts D σ H1) : tFor (iRng2 ta) g ts D σ H := q
local macro_rules
  | `(tactic| w_up) => `(tactic| first | with_reducible refine x_asg2 ?_ | with_reducible refine x_makeR ?_ | with_reducible refine x_star ?_ | with_reducible refine x_for2 ?_)
/-! ### a comprehension over a list of pairs -/
theorem lcG2 {K : PySem.W.Frag} {a : Addr} {xs : List V} {te tel : TE} {tt : TT} {σ : L2.St} {H : Hp} {Q : VK} {i j : Nat} (P : Addr → Nat → List V → Hp → Prop) (hw : ∀ x y, wipe (((wipe σ [i, j]).set i (some x)).set j (some y)) [i, j] = wipe σ [i, j]) (hte : ∀ R' : VK, R' (.ref a) H → te σ H R') (hS : SqL K H a xs) (hz : xs.length < 100000)
    (h0 : ∀ D, H D = none → P D 0 [] (upd H D (.lst []))) (hsq : ∀ D k vs H', H D = none → P D k vs H' → SqL K H' a xs)
    (hs : ∀ D k v vs H', H D = none → xs[k]? = some v → vs.length ≤ k → H' D = some (.lst vs) → P D k vs H' → ∃ t x y, v = .ref t ∧ H' t = some (.tup [x, y]) ∧ ∀ (Y : VK) (N : Hp → Prop), (∀ w H3, H3 D = some (.lst vs) → P D (k + 1) (vs ++ [w]) (upd H3 D (.lst (vs ++ [w]))) → Y w H3) → (∀ H3, H3 D = some (.lst vs) → P D (k + 1) vs H3 → N H3) →
      tt ((((σ.set j none).set i none).set i (some x)).set j (some y)) H' fun b H2 => if b = true then tel ((((σ.set j none).set i none).set i (some x)).set j (some y)) H2 Y else N H2)
    (hd : ∀ D vs H', H D = none → H' D = some (.lst vs) → vs.length ≤ xs.length → P D xs.length vs H' → Q (.ref D) H') : tLc (iList K te) (gTup K 2 (gCons (gName i) (gCons (gName j) gNil))) tt tel [i, j] σ H Q := by
  refine hte _ ⟨a, rfl, ⟨_, hS⟩, fun D hD => lc_list (K := K) (a := a) (xs := xs) (fun i H' => ∃ vs : List V, vs.length ≤ i ∧ P D i vs H' ∧ H' D = some (.lst vs)) ⟨[], Nat.le_refl _, h0 D hD, upd_same⟩ (fun i H' _ ⟨vs, _, h, _⟩ => hsq D i vs H' hD h) ?_ ?_⟩
  · rintro k v H' hi ⟨vs, hl, hp, h1⟩
    have il := (List.getElem?_eq_some_iff.mp hi).1
    obtain ⟨t, x, y, rfl, ht, go⟩ := hs D k v vs H' hD hi hl h1 hp
    refine two_to ht ⟨hw x y, ?_⟩
    refine go _ _ (fun v H3 e p => ⟨vs, e, Nat.lt_of_lt_of_le (show vs.length < 100000 by omega) (by decide), vs ++ [v], ?_, p, upd_same⟩) (fun H3 e p => ⟨vs, by omega, p, e⟩)
    rw [List.length_append]
    exact Nat.succ_le_succ hl
  · rintro H' ⟨vs, hl, hp, h1⟩
    exact hd D vs H' hD h1 hl hp
/-! ### the functions of runs -/
/-- no pair of offsets -/
def BadPair (K : PySem.W.Frag) (H : Hp) (x : V) : Prop := SeqK K H x false ∨ ∃ t xs, x = .ref t ∧ SeqA K H t xs ∧ (xs.length ≠ 2 ∨ ∃ a b, xs = [a, b] ∧ (Less K H a 0 ∨ ∃ n, a = .int n ∧ 0 ≤ n ∧ Less K H b n))
theorem PairAt.seq {K : PySem.W.Frag} {H : Hp} {t : Addr} {p : Run} (h : H t = some (.tup [.int p.1, .int p.2]) ∨ H t = some (.lst [.int p.1, .int p.2])) : SeqA K H t [.int p.1, .int p.2] := h.elim .tup .lst
def sp_is_run (K : PySem.W.Frag) : Sp := fun vs H Q _ => ∃ (x : V), vs = [x] ∧ ((∃ p, PairAt H x p ∧ 0 ≤ p.1 ∧ p.1 ≤ p.2 ∧ ∀ H', Same H H' → Q (.bl true) H') ∨ (BadPair K H x ∧ ∀ H', Same H H' → Q (.bl false) H'))
theorem ok_is_run (T : Txt K mg) : FnOk P w K mg base CX0 3 T.a_is_run T.fd_is_run ["pair"] (sp_is_run K) := by
  have S := sc_is_run
  refine T.F_is_run.ok S (fun vs H Q E h => ?_) (fun cdv A outer s H vs Q E hr h => ?_)
  · obtain ⟨x, rfl, _⟩ := h
    rfl
  · obtain ⟨x, rfl, h⟩ := h
    refine ⟨_, (pss_one (ps_ret (pe_and (pe_call (ok_is_sequence T) (hr.mono (by decide)) rfl T.g_is_sequence T.F_is_sequence.kp T.B_is_sequence .nil pass0 (pa_cons (pv 0) pa_nil)) (pe_and (pe_cmpR op_eq (pe_callB (id := "len") (call_lenK (K := K) rfl) (by rfl) T.b_len (by decide +kernel) (pa_cons (pv 0) pa_nil)) pe_int (nomark _)) (pe_and (pe_call (ok_is_at_least T) (hr.mono (by decide)) rfl T.g_is_at_least T.F_is_at_least.kp T.B_is_at_least .nil pass0 (pa_cons (pe_ix ix_seq (pv 0) pe_int (fun _ _ => rfl)) (pa_cons pe_int pa_nil))) (pe_one (pe_call (ok_is_at_least T) (hr.mono (by decide)) rfl T.g_is_at_least T.F_is_at_least.kp T.B_is_at_least .nil pass0 (pa_cons (pe_ix ix_seq (pv 0) pe_int (fun _ _ => rfl)) (pa_cons (pe_ix ix_seq (pv 0) pe_int (fun _ _ => rfl)) pa_nil))))))))), ?_⟩
    refine st_is_run ?_
    o_args
    rcases h with ⟨p, ⟨t, rfl, hp⟩, p0, p1, k⟩ | ⟨hb | ⟨t, xs, rfl, hS, hb⟩, k⟩
    · have hS := PairAt.seq (K := K) hp
      refine ⟨_, true, rfl, seqK_of hS, fun H1 s1 => ?_⟩
      have hS := hS.sm s1
      o_args
      refine lenA hS ?_
      o_args
      refine brDT rfl ?_
      o_args
      refine ix_seqA (i := 0) (v := .int p.1) hS rfl ?_
      o_args
      refine ⟨_, 0, rfl, .inl ⟨p.1, rfl, p0, ?_⟩⟩
      o_args
      refine ix_seqA (i := 1) (v := .int p.2) hS rfl ?_
      o_args
      refine ix_seqA (i := 0) (v := .int p.1) hS rfl ?_
      o_args
      exact ⟨_, p.1, rfl, .inl ⟨p.2, rfl, p1, k H1 s1⟩⟩
    · refine ⟨_, false, rfl, hb, fun H1 s1 => ?_⟩
      o_args
      exact k H1 s1
    · refine ⟨_, true, rfl, seqK_of hS, fun H1 s1 => ?_⟩
      have hS := hS.sm s1
      o_args
      refine lenA hS ?_
      o_args
      rcases hb with hn | ⟨a, b, rfl, hb⟩
      · refine brDF (by omega) ?_
        exact k H1 s1
      · refine brDT rfl ?_
        o_args
        refine ix_seqA (i := 0) (v := a) hS rfl ?_
        o_args
        rcases hb with hb | ⟨n, rfl, n0, hb⟩
        · refine ⟨_, 0, rfl, .inr ⟨hb.same s1, ?_⟩⟩
          o_args
          exact k H1 s1
        · refine ⟨_, 0, rfl, .inl ⟨n, rfl, n0, ?_⟩⟩
          o_args
          refine ix_seqA (i := 1) (v := b) hS rfl ?_
          o_args
          refine ix_seqA (i := 0) (v := .int n) hS rfl ?_
          o_args
          exact ⟨_, n, rfl, .inr ⟨hb.same s1, k H1 s1⟩⟩
def sp_joined (K : PySem.W.Frag) : Sp := fun vs H Q _ => ∃ (q : Addr) (xs : List V) (ps : List Run), vs = [.ref q] ∧ SeqA K H q xs ∧ xs.length < 100000 ∧ xs.length = ps.length ∧ (∀ (i : Nat) x p, xs[i]? = some x → ps[i]? = some p → PairAt H x p) ∧
  ∀ l ts rs H', H l = none → (∀ t ∈ ts, H t = none) → Same H H' → RunsL l ts rs H' → rs.length ≤ ps.length → Nrm rs → (∀ o, Mem o rs ↔ Mem o ps) → (∀ r ∈ rs, ∃ p ∈ ps, r.1 = p.1) → Q (.ref l) H'
theorem ok_joined (T : Txt K mg) : FnOk P w K mg base CX0 1 T.a_joined T.fd_joined ["pairs"] (sp_joined K) := by
  have S := sc_joined
  refine T.F_joined.ok S (fun vs H Q E h => ?_) (fun cdv A outer s H vs Q E hr h => ?_)
  · obtain ⟨q, xs, ps, rfl, _⟩ := h
    rfl
  · obtain ⟨q, xs, ps, rfl, hS, hz, hl, hp, k⟩ := h
    refine ⟨_, (pss_cons (ps_set (i := 1) S.nd rfl (Or.inl rfl) (pe_lst pa_nil))
      (pss_cons (ps_for PassesOwn.never rfl (pi_list (pe_callB (id := "sorted") cr_sortedPO (by rfl) T.b_sorted (by decide +kernel) (pa_cons (pe_lc (own := [("pair", 4)]) (g := gName 4) (tt := tYes) rfl S.nd (pi_seqA (pv 0)) (blkOk_by (N := ["pairs", "runs", "low", "high", "pair"]) (sc := defScope s_joined) (by decide +kernel)) (fun _ _ _ _ _ => pg_name (i := 4) S.nd rfl (Or.inl rfl)) (fun _ _ _ _ _ => pts_nil) (fun _ _ _ _ _ => (pe_callTy (T := "tuple") (call_tupK (K := K) rfl) (by rfl) T.b_tuple (by decide +kernel) (pa_cons (pv 4) pa_nil)))) pa_nil))) (pg_tup rfl (pgs_cons (pg_name (i := 2) S.nd rfl (Or.inl rfl)) (pgs_cons (pg_name (i := 3) S.nd rfl (Or.inl rfl)) pgs_nil))) (pss_one (ps_if (PW.pt (pw_and (pt_truth (pv 1) (fun _ => rfl)) (pw_and1 (pt_cmpR op_le (pv 2) (pe_ix ix_tup (pe_ix ix_list (pv 1) (pe_un un_neg pe_int) (fun _ _ => rfl)) pe_int (fun _ _ => rfl)) (nomark _))))) (pss_one (ps_asg (pe_tup (pa_cons (pe_ix ix_tup (pe_ix ix_list (pv 1) (pe_un un_neg pe_int) (fun _ _ => rfl)) pe_int (fun _ _ => rfl)) (pa_cons (pe_callB (id := "max") (call_max2K rfl) (by rfl) T.b_max (by decide +kernel) (pa_cons (pe_ix ix_tup (pe_ix ix_list (pv 1) (pe_un un_neg pe_int) (fun _ _ => rfl)) pe_int (fun _ _ => rfl)) (pa_cons (pv 3) pa_nil))) pa_nil))) (pg_sub (pv 1) (pe_un un_neg pe_int) set_list))) (pss_one (ps_if (pt_cmpR op_lt (pv 2) (pv 3) (nomark _)) (pss_one (ps_expr (pe_bm PySem.F.plainAttrs_list PySem.F.slot_list_append PySem.F.type_list_append mt_append (pv 1) (pa_cons (pe_tup (pa_cons (pv 2) (pa_cons (pv 3) pa_nil))) pa_nil)))) pss_nil)))))
      (pss_one (ps_ret (pv 1))))), ?_⟩
    refine st_joined ?_
    o_args
    refine newList (by simp) fun l H1 nl s1 h1 => ?_
    o_args
    refine lcGA (xs := xs) (fun D i vs H' => SameX D H1 H' ∧ vs.length = i ∧ ∀ (k : Nat) v, vs[k]? = some v → ∃ p t, ps[k]? = some p ∧ v = .ref t ∧ H' t = some (.tup [.int p.1, .int p.2])) (fun R h => ⟨_, rfl, h⟩) (hS.sm s1) hz (fun D _ => ⟨SameX.upd, rfl, fun k v h => by cases h⟩) (fun D i vs H' hD hP o ho => hP.1 _ _ (ne_of_none ho hD) ho) (fun D i x vs H' hD hx hle h2 hP Y N hY hN => ?_) (fun D vs H' hD h2 hle hP => ?_)
    · obtain ⟨s2, e, hP⟩ := hP
      have il : i < ps.length := by have := getq_lt hx; omega
      have pa := ((hp i x _ hx (List.getElem?_eq_getElem il)).same s1).same (Same.ofX hD s2)
      dsimp only [tYes]
      rw [if_pos rfl]
      o_args
      refine tupPair pa fun t H3 s3 h3 => hY _ H3 (s3 _ _ h2) ⟨(s2.trans (SameX.of s3)).upd', by rw [List.length_append, e]; rfl, fun k v hk => ?_⟩
      have tD : t ≠ D := fun z => by
        have := s3 _ _ h2
        rw [← z, h3] at this
        cases this
      rcases getq_app hk with ⟨_, hk⟩ | ⟨rfl, rfl⟩
      · obtain ⟨p, t', e1, e2, e3⟩ := hP k v hk
        have t'D : t' ≠ D := fun z => by rw [z, h2] at e3; cases e3
        exact ⟨p, t', e1, e2, by rw [upd_ne t'D]; exact s3 _ _ e3⟩
      · exact ⟨_, t, by rw [e]; exact List.getElem?_eq_getElem il, rfl, by rw [upd_ne tD]; exact h3⟩
    · obtain ⟨s2, e, hP⟩ := hP
      have hl2 := s2 _ _ (ne_of_none h1 hD) h1
      have hv : vs.map (kOf H') = ps := by
        refine List.ext_getElem? fun k => ?_
        rw [List.getElem?_map]
        cases c : vs[k]? with
        | none =>
          have := List.getElem?_eq_none_iff.mp c
          exact (List.getElem?_eq_none_iff.mpr (by omega)).symm
        | some v =>
          obtain ⟨p, t, e1, e2, e3⟩ := hP k v c
          rw [e1, e2]
          exact congrArg some (kOf_at e3)
      have hk : ∀ v ∈ vs, ∃ t, v = .ref t ∧ H' t = some (.tup [.int (kOf H' v).1, .int (kOf H' v).2]) := fun v hv => by
        obtain ⟨k, hk⟩ := List.mem_iff_getElem?.mp hv
        obtain ⟨p, t, e1, e2, e3⟩ := hP k v hk
        exact ⟨t, e2, by rw [e2, kOf_at e3]; exact e3⟩
      refine ⟨D, vs, kOf H', rfl, SqL.of h2, hk, fun ys S hsr hst nS => ?_⟩
      have hy : ∀ v ∈ ys, ∃ t, v = .ref t ∧ H' t = some (.tup [.int (kOf H' v).1, .int (kOf H' v).2]) := fun v hv => hk v (hst.perm.mem_iff.mp hv)
      have hq : (ys.map (kOf H')).Perm ps := by rw [← hv]; exact hst.perm.map _
      have so : (ys.map (kOf H')).Pairwise fun a b => a.1 ≤ b.1 := List.pairwise_map.mpr (List.Pairwise.imp (fun h => by
        have := SrtO.lexB_no.mp h
        omega) hsr)
      have lq : ys.length = ps.length := by have := hq.length_eq; rw [List.length_map] at this; exact this
      have s3 : Same H' (upd H' S (.lst ys)) := Same.new nS
      have h3 : upd H' S (.lst ys) S = some (.lst ys) := upd_same
      generalize upd H' S (.lst ys) = H3 at s3 h3
      have hl3 := s3 _ _ hl2
      have S3 : Same H H3 := (s1.trans (Same.ofX hD s2)).trans s3
      have lS : S ∉ [l] := fun z => ne_of_none hl2 nS (List.mem_singleton.mp z).symm
      refine ⟨S, rfl, ⟨ys, SqL.of h3⟩, for_list (K := K) (a := S) (xs := ys) (fun i σ H'' => ∃ a b ts rs, σ = [some (.ref q), some (.ref l), a, b, none] ∧ Ch [l] H3 H'' ∧ RunsL l ts rs H'' ∧ (∀ t ∈ ts, H t = none) ∧ rs.length ≤ i ∧ Jnd ((ys.map (kOf H')).take i) rs) ⟨none, none, [], [], rfl, Ch.refl, ⟨hl3, Tups.nil⟩, (fun _ h => nomatch h), Nat.le_refl _, Jnd.nil⟩ (fun i σ H'' _ ⟨_, _, _, _, _, c, _⟩ => SqL.of (c.at lS h3)) ?_ ?_⟩
      · rintro i x σ H4 hx ⟨a, b, ts, rs, rfl, c4, ⟨hl4, T4⟩, n4, z4, J⟩
        obtain ⟨t, rfl, ht⟩ := hy x (List.mem_of_getElem? hx)
        have e5 : (ys.map (kOf H'))[i]? = some (kOf H' (.ref t)) := by rw [List.getElem?_map, hx]; rfl
        have tk : (ys.map (kOf H')).take (i + 1) = (ys.map (kOf H')).take i ++ [kOf H' (.ref t)] := by rw [List.take_succ, e5]; rfl
        have hs5 : ∀ p ∈ (ys.map (kOf H')).take i, p.1 ≤ (kOf H' (.ref t)).1 := fun p hp => by
          have il := getq_lt e5
          have sp := so
          rw [← List.take_append_drop i (ys.map (kOf H'))] at sp
          have dr : (ys.map (kOf H')).drop i = kOf H' (.ref t) :: (ys.map (kOf H')).drop (i + 1) := by
            rw [List.drop_eq_getElem_cons il]
            congr 1
            rw [List.getElem?_eq_getElem il] at e5
            exact Option.some.inj e5
          exact (List.pairwise_append.mp sp).2.2 p hp _ (by rw [dr]; exact List.mem_cons_self)
        have tl : t ∉ [l] := fun z => by
          rw [List.mem_singleton.mp z] at ht
          have := s3 _ _ ht
          rw [hl3] at this
          cases this
        have ht4 := c4.at tl (s3 _ _ ht)
        generalize kOf H' (.ref t) = p at e5 tk hs5 ht4
        refine two_to ht4 ?_
        o_args
        refine ⟨_, truL hl4, ?_⟩
        have zl := T4.1
        have i6 : i < 100000 := by have := getq_lt hx; omega
        have fin : ∀ H5 ts' rs', Ch [l] H4 H5 → RunsL l ts' rs' H5 → (∀ t ∈ ts', H t = none) → rs'.length ≤ i + 1 → Jnd ((ys.map (kOf H')).take i ++ [p]) rs' → ∃ a b ts rs, [some (V.ref q), some (V.ref l), some (.int p.1), some (.int p.2), none] = [some (.ref q), some (.ref l), a, b, none] ∧ Ch [l] H3 H5 ∧ RunsL l ts rs H5 ∧ (∀ t ∈ ts, H t = none) ∧ rs.length ≤ i + 1 ∧ Jnd ((ys.map (kOf H')).take (i + 1)) rs := fun H5 ts' rs' c5 r5 n5 z5 J5 =>
          ⟨_, _, ts', rs', rfl, c4.trans c5, r5, n5, z5, by rw [tk]; exact J5⟩
        have new : ∀ {u}, H4 u = none → H u = none := fun nu => ((Ch.of S3).trans c4).none nu
        rcases snoc_or rs with rfl | ⟨ra, r, rfl⟩
        · have e0 : ts = [] := List.eq_nil_of_length_eq_zero zl
          subst e0
          o_args
          refine brT rfl ?_
          o_args
          refine brD (fun c => ?_) (fun c => ?_)
          · o_args
            refine ⟨isList hl4, ?_⟩
            o_args
            refine newTup (by simp) fun u H5 nu s5 h5 => ?_
            o_args
            refine appList (s5 _ _ hl4) (by simp) fun H6 s6 h6 => ?_
            o_args
            have ul : u ≠ l := (ne_of_none hl4 nu).symm
            exact fin H6 [u] [p] ((Ch.of s5).trans (Ch.ofX (by simp) s6 h6)) ⟨h6, Tups.snoc (ts := []) (rs := []) .nil (s6 _ _ ul h5)⟩ (fun t ht => by rw [List.mem_singleton.mp ht]; exact new nu) (by simp) (J.push (runs := []) hs5 (fun _ h => nomatch h) c)
          · o_args
            exact fin H4 [] [] Ch.refl ⟨hl4, T4⟩ n4 (by simp) (J.skip (by omega))
        · obtain ⟨ta, tr, rfl⟩ : ∃ a x, ts = a ++ [x] := (snoc_or ts).resolve_left fun z => by rw [z] at zl; simp at zl
          have hl5 : H4 l = some (.lst (ta.map V.ref ++ [V.ref tr])) := by rw [hl4, List.map_append]; rfl
          obtain ⟨Ti, Tr⟩ := T4.init
          o_args
          refine brF (by simp) ?_
          o_args
          refine ixLast hl5 ?_
          o_args
          refine brD (fun c => ?_) (fun c => ?_)
          · o_args
            refine ixLast hl5 ?_
            o_args
            refine ixLast hl5 ?_
            o_args
            refine newTup (by simp) fun u H5 nu s5 h5 => ?_
            o_args
            refine setLast (s5 _ _ hl5) fun H6 s6 h6 => ?_
            have ul : u ≠ l := (ne_of_none hl4 nu).symm
            have Ti6 : Tups H6 ta ra := (Ti.same s5).ch (Ch.ofX (a := l) (G := [l]) (by simp) s6 h6) fun t ht z => (Ti.lst_ne hl4 t ht) (List.mem_singleton.mp z)
            o_args
            refine fin H6 (ta ++ [u]) (ra ++ [(r.1, max r.2 p.2)]) ((Ch.of s5).trans (Ch.ofX (by simp) s6 h6)) ⟨by rw [h6, List.map_append]; rfl, Ti6.snoc (r := (r.1, max r.2 p.2)) (s6 _ _ ul h5)⟩ (fun t ht => ?_) (by simp at z4 ⊢; omega) (J.glue hs5 c)
            rcases List.mem_append.mp ht with ht | ht
            · exact n4 t (List.mem_append_left _ ht)
            · rw [List.mem_singleton.mp ht]; exact new nu
          · o_args
            refine brD (fun c2 => ?_) (fun c2 => ?_)
            · o_args
              refine ⟨isList hl4, ?_⟩
              o_args
              refine newTup (by simp) fun u H5 nu s5 h5 => ?_
              o_args
              refine appList (s5 _ _ hl4) (by rw [List.length_map, zl]; omega) fun H6 s6 h6 => ?_
              have ul : u ≠ l := (ne_of_none hl4 nu).symm
              have T6 : Tups H6 (ta ++ [tr]) (ra ++ [r]) := (T4.same s5).ch (Ch.ofX (a := l) (G := [l]) (by simp) s6 h6) fun t ht z => (T4.lst_ne hl4 t ht) (List.mem_singleton.mp z)
              o_args
              refine fin H6 (ta ++ [tr] ++ [u]) (ra ++ [r] ++ [p]) ((Ch.of s5).trans (Ch.ofX (by simp) s6 h6)) ⟨by rw [h6, List.map_append (l₂ := [u])]; rfl, T6.snoc (s6 _ _ ul h5)⟩ (fun t ht => ?_) (by simp at z4 ⊢; omega) (J.push hs5 (J.nrm.ends (by omega)) c2)
              rcases List.mem_append.mp ht with ht | ht
              · exact n4 t ht
              · rw [List.mem_singleton.mp ht]; exact new nu
            · o_args
              exact fin H4 (ta ++ [tr]) (ra ++ [r]) Ch.refl ⟨hl4, T4⟩ n4 (by omega) (J.skip (by omega))
      · rintro σ H4 ⟨a, b, ts, rs, rfl, c4, r4, n4, z4, J⟩
        rw [List.take_of_length_le (by rw [List.length_map]; exact Nat.le_refl _)] at J
        o_args
        refine k l ts rs H4 nl n4 ((((Ch.of S3).trans c4).more (F := [l]) (fun _ h => h)) |> fun c => Ch.same ((c).drop nl)) r4 (by omega) J.nrm (fun o => ?_) (fun r hr => ?_)
        · rw [J.mem o]
          exact ⟨fun ⟨r, h1, h2⟩ => ⟨r, hq.mem_iff.mp h1, h2⟩, fun ⟨r, h1, h2⟩ => ⟨r, hq.mem_iff.mpr h1, h2⟩⟩
        · obtain ⟨p, h1, h2⟩ := J.lo r hr
          exact ⟨p, hq.mem_iff.mp h1, h2⟩
def sp_missing (K : PySem.W.Frag) : Sp := fun vs H Q _ => ∃ (l : Addr) (ts : List Addr) (rs : List Run) (lo hi : Int), vs = [.ref l, .int lo, .int hi] ∧ RunsL l ts rs H ∧ Nrm rs ∧ rs.length < 50000 ∧
  ∀ l' ts' out H', H l' = none → (∀ t ∈ ts', H t = none) → Same H H' → RunsL l' ts' out H' → out.length ≤ rs.length + 1 → Nrm out → (∀ q ∈ out, lo ≤ q.1 ∧ q.2 ≤ hi) → (∀ o, Mem o out ↔ lo ≤ o ∧ o < hi ∧ ¬ Mem o rs) → Q (.ref l') H'
theorem ok_missing (T : Txt K mg) : FnOk P w K mg base CX0 1 T.a_missing T.fd_missing ["runs", "low", "high"] (sp_missing K) := by
  have S := sc_missing
  refine T.F_missing.ok S (fun vs H Q E h => ?_) (fun cdv A outer s H vs Q E hr h => ?_)
  · obtain ⟨l, ts, rs, lo, hi, rfl, _⟩ := h
    rfl
  · obtain ⟨l, ts, rs, lo, hi, rfl, hR, hN, hz, k⟩ := h
    refine ⟨_, (pss_cons (ps_set (i := 3) S.nd rfl (Or.inl rfl) (pe_lst pa_nil))
      (pss_cons (ps_set (i := 4) S.nd rfl (Or.inl rfl) (pv 1))
      (pss_cons (ps_for PassesOwn.never rfl (pi_list (pv 0)) (pg_tup rfl (pgs_cons (pg_name (i := 5) S.nd rfl (Or.inl rfl)) (pgs_cons (pg_name (i := 6) S.nd rfl (Or.inl rfl)) pgs_nil))) (pss_cons (ps_if (pt_cmpR op_lt (pv 4) (pe_callB (id := "min") (call_min2K rfl) (by rfl) T.b_min (by decide +kernel) (pa_cons (pv 5) (pa_cons (pv 2) pa_nil))) (nomark _)) (pss_one (ps_expr (pe_bm PySem.F.plainAttrs_list PySem.F.slot_list_append PySem.F.type_list_append mt_append (pv 3) (pa_cons (pe_tup (pa_cons (pv 4) (pa_cons (pe_callB (id := "min") (call_min2K rfl) (by rfl) T.b_min (by decide +kernel) (pa_cons (pv 5) (pa_cons (pv 2) pa_nil))) pa_nil))) pa_nil)))) pss_nil)
      (pss_one (ps_set (i := 4) S.nd rfl (Or.inl rfl) (pe_callB (id := "max") (call_max2K rfl) (by rfl) T.b_max (by decide +kernel) (pa_cons (pv 4) (pa_cons (pv 6) pa_nil)))))))
      (pss_cons (ps_if (pt_cmpR op_lt (pv 4) (pv 2) (nomark _)) (pss_one (ps_expr (pe_bm PySem.F.plainAttrs_list PySem.F.slot_list_append PySem.F.type_list_append mt_append (pv 3) (pa_cons (pe_tup (pa_cons (pv 4) (pa_cons (pv 2) pa_nil))) pa_nil)))) pss_nil)
      (pss_one (ps_ret (pv 3))))))), ?_⟩
    refine st_missing ?_
    o_args
    refine newList (by simp) fun f H1 nf s1 h1 => ?_
    have hR1 := hR.same s1
    have lf : l ∉ [f] := fun z => ne_of_none hR.1 nf (List.mem_singleton.mp z)
    have tf : ∀ t ∈ ts, t ∉ [f] := fun t ht z => (hR1.2.lst_ne h1 t ht) (List.mem_singleton.mp z)
    have new : ∀ {H4 u}, Ch [f] H1 H4 → H4 u = none → H u = none := fun c nu => ((Ch.of s1).trans c).none nu
    o_args
    refine overL (SqL.of hR1.1) (for_list (K := K) (a := l) (xs := ts.map V.ref) (fun i σ H' => ∃ a b ts' out at_, σ = [some (.ref l), some (.int lo), some (.int hi), some (.ref f), some (.int at_), a, b] ∧ Ch [f] H1 H' ∧ RunsL f ts' out H' ∧ (∀ t ∈ ts', H t = none) ∧ out.length ≤ i ∧ Msg lo hi at_ (rs.take i) out) ⟨none, none, [], [], lo, rfl, Ch.refl, ⟨h1, .nil⟩, (fun _ h => nomatch h), Nat.le_refl _, Msg.start⟩ (fun i σ H' _ ⟨_, _, _, _, _, _, c, _⟩ => SqL.of (c.at lf hR1.1)) ?_ ?_)
    · rintro i x σ H2 hx ⟨a, b, ts', out, at_, rfl, c2, r2, n2, z2, M⟩
      have il := getq_lt hx
      rw [List.length_map, hR.len] at il
      obtain ⟨t, e1, e2, ht⟩ := hR1.at (List.getElem?_eq_getElem il)
      rw [e2] at hx
      cases hx
      have ht2 := c2.at (tf t (List.mem_of_getElem? e1)) ht
      have rn := hN.1 _ (List.getElem_mem il)
      have tk : rs.take (i + 1) = rs.take i ++ [rs[i]] := by rw [List.take_succ, List.getElem?_eq_getElem il]; rfl
      have rp : ∀ q ∈ rs.take i, q.2 < rs[i].1 := fun q hq => by
        have sp := hN.2
        rw [← List.take_append_drop i rs] at sp
        exact (List.pairwise_append.mp sp).2.2 q hq _ (by rw [List.drop_eq_getElem_cons il]; exact List.mem_cons_self)
      have M2 := M.step rn rp
      generalize rs[i] = r at ht2 M2 tk
      have r2l := r2.len
      refine two_to ht2 ?_
      o_args
      refine brD (fun c => ?_) (fun c => ?_)
      · rw [if_pos c] at M2
        o_args
        refine ⟨isList r2.1, ?_⟩
        o_args
        refine newTup (by simp) fun u H3 nu s3 h3 => ?_
        o_args
        refine appList (s3 _ _ r2.1) (by rw [List.length_map]; omega) fun H4 s4 h4 => ?_
        have uf : u ≠ f := (ne_of_none r2.1 nu).symm
        have T4 : Tups H4 ts' out := (r2.2.same s3).ch (Ch.ofX (a := f) (G := [f]) (by simp) s4 h4) fun t ht z => (r2.2.lst_ne r2.1 t ht) (List.mem_singleton.mp z)
        o_args
        refine ⟨_, _, ts' ++ [u], _, _, rfl, (c2.trans (Ch.of s3)).trans (Ch.ofX (by simp) s4 h4), ⟨by rw [h4, List.map_append]; rfl, T4.snoc (s4 _ _ uf h3)⟩, fun t ht => ?_, by simp; omega, by rw [tk]; exact M2⟩
        rcases List.mem_append.mp ht with ht | ht
        · exact n2 t ht
        · rw [List.mem_singleton.mp ht]; exact new c2 nu
      · rw [if_neg c] at M2
        o_args
        exact ⟨_, _, ts', out, _, rfl, c2, r2, n2, by omega, by rw [tk]; exact M2⟩
    · rintro σ H2 ⟨a, b, ts', out, at_, rfl, c2, r2, n2, z2, M⟩
      rw [List.take_of_length_le (by rw [List.length_map, hR.len]; exact Nat.le_refl _)] at M
      rw [List.length_map, hR.len] at z2
      have r2l := r2.len
      obtain ⟨o', eo, d1, d2, d3⟩ := M.done
      o_args
      refine brD (fun c => ?_) (fun c => ?_)
      · rw [if_pos c] at eo
        subst eo
        o_args
        refine ⟨isList r2.1, ?_⟩
        o_args
        refine newTup (by simp) fun u H3 nu s3 h3 => ?_
        o_args
        refine appList (s3 _ _ r2.1) (by rw [List.length_map]; omega) fun H4 s4 h4 => ?_
        have uf : u ≠ f := (ne_of_none r2.1 nu).symm
        have T4 : Tups H4 ts' out := (r2.2.same s3).ch (Ch.ofX (a := f) (G := [f]) (by simp) s4 h4) fun t ht z => (r2.2.lst_ne r2.1 t ht) (List.mem_singleton.mp z)
        o_args
        refine k f (ts' ++ [u]) _ H4 nf (fun t ht => ?_) (Ch.same ((((Ch.of s1).trans (c2.trans (Ch.of s3))).trans (Ch.ofX (by simp) s4 h4)).drop nf)) ⟨by rw [h4, List.map_append]; rfl, T4.snoc (s4 _ _ uf h3)⟩ (by simp; omega) d1 d2 d3
        rcases List.mem_append.mp ht with ht | ht
        · exact n2 t ht
        · rw [List.mem_singleton.mp ht]; exact new c2 nu
      · rw [if_neg c] at eo
        subst eo
        o_args
        exact k f ts' _ H2 nf n2 (Ch.same (((Ch.of s1).trans c2).drop nf)) r2 (by omega) d1 d2 d3
def sp_common (K : PySem.W.Frag) : Sp := fun vs H Q _ => ∃ (l1 l2 : Addr) (ts1 ts2 : List Addr) (F S : List Run), vs = [.ref l1, .ref l2] ∧ RunsL l1 ts1 F H ∧ RunsL l2 ts2 S H ∧ Nrm F ∧ Nrm S ∧ F.length < 50000 ∧ S.length < 50000 ∧
  ∀ l' ts' out H', H l' = none → (∀ t ∈ ts', H t = none) → Same H H' → RunsL l' ts' out H' → out.length ≤ F.length + S.length → Nrm out → (∀ q ∈ out, ∃ a ∈ F, a.1 ≤ q.1) → (∀ o, Mem o out ↔ Mem o F ∧ Mem o S) → Q (.ref l') H'
theorem ok_common (T : Txt K mg) : FnOk P w K mg base CX0 1 T.a_common T.fd_common ["first", "second"] (sp_common K) := by
  have S := sc_common
  refine T.F_common.ok S (fun vs H Q E h => ?_) (fun cdv A outer s H vs Q E hr h => ?_)
  · obtain ⟨l1, l2, ts1, ts2, F, S, rfl, _⟩ := h
    rfl
  · obtain ⟨l1, l2, ts1, ts2, F, S', rfl, hR1, hR2, hN1, hN2, z1, z2, k⟩ := h
    refine ⟨_, (pss_cons (ps_set (i := 2) S.nd rfl (Or.inl rfl) (pe_lst pa_nil))
      (pss_cons (ps_asg2 pe_int (pg_name (i := 3) S.nd rfl (Or.inl rfl)) (pg_name (i := 4) S.nd rfl (Or.inl rfl)))
      (pss_cons (ps_while PassesOwn.never (PW.pt (pw_and (pt_cmpR op_lt (pv 3) (pe_callB (id := "len") (call_lenK (K := K) rfl) (by rfl) T.b_len (by decide +kernel) (pa_cons (pv 0) pa_nil)) (nomark _)) (pw_and1 (pt_cmpR op_lt (pv 4) (pe_callB (id := "len") (call_lenK (K := K) rfl) (by rfl) T.b_len (by decide +kernel) (pa_cons (pv 1) pa_nil)) (nomark _))))) (pss_cons (ps_set (i := 5) S.nd rfl (Or.inl rfl) (pe_callB (id := "max") (call_max2K rfl) (by rfl) T.b_max (by decide +kernel) (pa_cons (pe_ix ix_tup (pe_ix ix_list (pv 0) (pv 3) (fun _ _ => rfl)) pe_int (fun _ _ => rfl)) (pa_cons (pe_ix ix_tup (pe_ix ix_list (pv 1) (pv 4) (fun _ _ => rfl)) pe_int (fun _ _ => rfl)) pa_nil))))
      (pss_cons (ps_set (i := 6) S.nd rfl (Or.inl rfl) (pe_callB (id := "min") (call_min2K rfl) (by rfl) T.b_min (by decide +kernel) (pa_cons (pe_ix ix_tup (pe_ix ix_list (pv 0) (pv 3) (fun _ _ => rfl)) pe_int (fun _ _ => rfl)) (pa_cons (pe_ix ix_tup (pe_ix ix_list (pv 1) (pv 4) (fun _ _ => rfl)) pe_int (fun _ _ => rfl)) pa_nil))))
      (C8.pss_cut (ps_if (pt_cmpR op_lt (pv 5) (pv 6) (nomark _)) (pss_one (ps_expr (pe_bm PySem.F.plainAttrs_list PySem.F.slot_list_append PySem.F.type_list_append mt_append (pv 2) (pa_cons (pe_tup (pa_cons (pv 5) (pa_cons (pv 6) pa_nil))) pa_nil)))) pss_nil)
      (pss_one (ps_if (pt_cmpR op_lt (pe_ix ix_tup (pe_ix ix_list (pv 0) (pv 3) (fun _ _ => rfl)) pe_int (fun _ _ => rfl)) (pe_ix ix_tup (pe_ix ix_list (pv 1) (pv 4) (fun _ _ => rfl)) pe_int (fun _ _ => rfl)) (nomark _)) (pss_one (ps_aug (i := 3) S.nd rfl (.inl rfl) pe_int ip_add)) (pss_one (ps_aug (i := 4) S.nd rfl (.inl rfl) pe_int ip_add))))))))
      (pss_one (ps_ret (pv 2)))))), ?_⟩
    refine st_common ?_
    o_args
    refine newList (by simp) fun f H1 nf s1 h1 => ?_
    have hF := hR1.same s1
    have hG := hR2.same s1
    have lf : l1 ∉ [f] := fun z => ne_of_none hR1.1 nf (List.mem_singleton.mp z)
    have mf : l2 ∉ [f] := fun z => ne_of_none hR2.1 nf (List.mem_singleton.mp z)
    have tf : ∀ t ∈ ts1, t ∉ [f] := fun t ht z => (hF.2.lst_ne h1 t ht) (List.mem_singleton.mp z)
    have uf : ∀ t ∈ ts2, t ∉ [f] := fun t ht z => (hG.2.lst_ne h1 t ht) (List.mem_singleton.mp z)
    have new : ∀ {H4 u}, Ch [f] H1 H4 → H4 u = none → H u = none := fun c nu => ((Ch.of s1).trans c).none nu
    o_args
    refine ⟨fun m σ H' => ∃ (i j : Nat) (lv hv : Option V) (ts' : List Addr) (out : List Run), m = (F.length - i) + (S'.length - j) ∧ i ≤ F.length ∧ j ≤ S'.length ∧ σ = [some (.ref l1), some (.ref l2), some (.ref f), some (.int (i : Int)), some (.int (j : Int)), lv, hv] ∧ Ch [f] H1 H' ∧ RunsL f ts' out H' ∧ (∀ t ∈ ts', H t = none) ∧ out.length ≤ i + j ∧ Com F S' (F.drop i) (S'.drop j) out, ⟨_, 0, 0, none, none, [], [], rfl, Nat.zero_le _, Nat.zero_le _, rfl, Ch.refl, ⟨h1, .nil⟩, (fun _ h => nomatch h), Nat.le_refl _, Com.start hN1 hN2⟩, ?_⟩
    rintro m σ H2 ⟨i, j, lv, hv, ts', out, rfl, hi, hj, rfl, c2, r2, n2, zo, C⟩
    have f2 := hF.ch c2 lf tf
    have g2 := hG.ch c2 mf uf
    have r2l := r2.len
    have fin : i = F.length ∨ j = S'.length → Q (.ref f) H2 := fun e => by
      obtain ⟨d1, d2, d3⟩ := C.done (e.elim (fun e => .inl (List.drop_eq_nil_of_le (by omega))) fun e => .inr (List.drop_eq_nil_of_le (by omega)))
      exact k f ts' out H2 nf n2 (Ch.same (((Ch.of s1).trans c2).drop nf)) r2 (by omega) d1 d2 d3
    o_args
    refine lenA (SeqA.lst f2.1) ?_
    o_args
    rw [List.length_map, f2.len]
    refine brD (fun q1 => ?_) (fun q1 => ?_)
    · o_args
      refine lenA (SeqA.lst g2.1) ?_
      o_args
      rw [List.length_map, g2.len]
      refine brD (fun q2 => ?_) (fun q2 => ?_)
      · have i1 : i < F.length := by omega
        have j1 : j < S'.length := by omega
        obtain ⟨t, _, e1, ht⟩ := f2.at (List.getElem?_eq_getElem i1)
        obtain ⟨u, _, e2, hu⟩ := g2.at (List.getElem?_eq_getElem j1)
        have eF := List.drop_eq_getElem_cons i1
        have eS := List.drop_eq_getElem_cons j1
        rw [eF, eS] at C
        generalize F[i] = a at ht C eF
        generalize S'[j] = b at hu C eS
        refine ⟨fun σ' H' => ∃ m', m' < (F.length - i) + (S'.length - j) ∧ ∃ (i j : Nat) (lv hv : Option V) (ts' : List Addr) (out : List Run), m' = (F.length - i) + (S'.length - j) ∧ i ≤ F.length ∧ j ≤ S'.length ∧ σ' = [some (.ref l1), some (.ref l2), some (.ref f), some (.int (i : Int)), some (.int (j : Int)), lv, hv] ∧ Ch [f] H1 H' ∧ RunsL f ts' out H' ∧ (∀ t ∈ ts', H t = none) ∧ out.length ≤ i + j ∧ Com F S' (F.drop i) (S'.drop j) out, fun _ _ h => h, ?_⟩
        o_args
        refine ixL f2.1 e1 ?_
        o_args
        refine ixL g2.1 e2 ?_
        o_args
        refine ixL f2.1 e1 ?_
        o_args
        refine ixL g2.1 e2 ?_
        o_args
        refine ⟨fun σ H' => ∃ lv hv ts'', σ = [some (.ref l1), some (.ref l2), some (.ref f), some (.int (i : Int)), some (.int (j : Int)), lv, hv] ∧ Ch [f] H2 H' ∧ RunsL f ts'' (piece a b out) H' ∧ (∀ t ∈ ts'', H t = none), ?_, ?_⟩
        · unfold piece
          o_args
          refine brD (fun c => ?_) (fun c => ?_)
          · rw [if_pos c]
            o_args
            refine ⟨isList r2.1, ?_⟩
            o_args
            refine newTup (by simp) fun v H3 nu s3 h3 => ?_
            o_args
            refine appList (s3 _ _ r2.1) (by rw [List.length_map]; omega) fun H4 s4 h4 => ?_
            have vf : v ≠ f := (ne_of_none r2.1 nu).symm
            have T4 : Tups H4 ts' out := (r2.2.same s3).ch (Ch.ofX (a := f) (G := [f]) (by simp) s4 h4) fun t ht z => (r2.2.lst_ne r2.1 t ht) (List.mem_singleton.mp z)
            o_args
            refine ⟨_, _, ts' ++ [v], rfl, (Ch.of s3).trans (Ch.ofX (by simp) s4 h4), ⟨by rw [h4, List.map_append]; rfl, T4.snoc (s4 _ _ vf h3)⟩, fun t ht => ?_⟩
            rcases List.mem_append.mp ht with ht | ht
            · exact n2 t ht
            · rw [List.mem_singleton.mp ht]; exact new c2 nu
          · rw [if_neg c]
            o_args
            exact ⟨_, _, ts', rfl, Ch.refl, r2, n2⟩
        · rintro σ H3 ⟨lv', hv', ts'', rfl, c3, r3, n3⟩
          have f3 := hF.ch (c2.trans c3) lf tf
          have g3 := hG.ch (c2.trans c3) mf uf
          have ht3 := c3.at (tf t (by
            obtain ⟨k', e⟩ := List.mem_iff_getElem?.mp (List.mem_of_getElem? e1)
            rw [List.getElem?_map] at e1
            cases q : ts1[i]? with
            | none => rw [q] at e1; cases e1
            | some x => rw [q] at e1; cases e1; exact List.mem_of_getElem? q)) ht
          have hu3 := c3.at (uf u (by
            rw [List.getElem?_map] at e2
            cases q : ts2[j]? with
            | none => rw [q] at e2; cases e2
            | some x => rw [q] at e2; cases e2; exact List.mem_of_getElem? q)) hu
          have pz : (piece a b out).length ≤ out.length + 1 := by
            unfold piece
            split
            · simp
            · omega
          o_args
          refine ixL f3.1 e1 ?_
          o_args
          refine ixL g3.1 e2 ?_
          o_args
          refine brD (fun c => ?_) (fun c => ?_)
          · o_args
            refine ⟨_, rfl, ?_⟩
            o_args
            exact ⟨(F.length - (i + 1)) + (S'.length - j), by omega, i + 1, j, _, _, ts'', _, rfl, by omega, hj, rfl, c2.trans c3, r3, n3, by omega, by rw [eS]; exact C.left c⟩
          · o_args
            refine ⟨_, rfl, ?_⟩
            o_args
            exact ⟨(F.length - i) + (S'.length - (j + 1)), by omega, i, j + 1, _, _, ts'', _, rfl, hi, by omega, rfl, c2.trans c3, r3, n3, by omega, by rw [eF]; exact C.right c⟩
      · o_args
        exact fin (.inr (by omega))
    · o_args
      exact fin (.inl (by omega))
/-! ### sets of offsets -/
structure Offs (rs : List Run) : Prop where
  nrm : Nrm rs
  lo : ∀ r ∈ rs, 0 ≤ r.1
def sp_without (K : PySem.W.Frag) : Sp := fun vs H Q _ => ∃ (l1 l2 : Addr) (ts1 ts2 : List Addr) (F S : List Run), vs = [.ref l1, .ref l2] ∧ RunsL l1 ts1 F H ∧ RunsL l2 ts2 S H ∧ Offs F ∧ Nrm S ∧ F.length < 40000 ∧ S.length < 40000 ∧
  ∀ l' ts' out H', H l' = none → (∀ t ∈ ts', H t = none) → Same H H' → RunsL l' ts' out H' → out.length ≤ F.length + S.length + 1 → Offs out → (∀ o, Mem o out ↔ Mem o F ∧ ¬ Mem o S) → Q (.ref l') H'
theorem ok_without (T : Txt K mg) : FnOk P w K mg base CX0 2 T.a_without T.fd_without ["first", "second"] (sp_without K) := by
  have S := sc_without
  refine T.F_without.ok S (fun vs H Q E h => ?_) (fun cdv A outer s H vs Q E hr h => ?_)
  · obtain ⟨l1, l2, ts1, ts2, F, S, rfl, _⟩ := h
    rfl
  · obtain ⟨l1, l2, ts1, ts2, F, S', rfl, hR1, hR2, hF, hS, z1, z2, k⟩ := h
    refine ⟨_, (pss_cons (ps_set (i := 2) S.nd rfl (Or.inl rfl) (pe_ifExp (pt_truth (pv 0) (fun _ => rfl)) (pe_ix ix_tup (pe_ix ix_list (pv 0) (pe_un un_neg pe_int) (fun _ _ => rfl)) pe_int (fun _ _ => rfl)) pe_int))
      (pss_one (ps_ret (pe_call (ok_common T) (hr.mono (by decide)) rfl T.g_common T.F_common.kp T.B_common .nil pass0 (pa_cons (pv 0) (pa_cons (pe_call (ok_missing T) (hr.mono (by decide)) rfl T.g_missing T.F_missing.kp T.B_missing .nil pass0 (pa_cons (pv 1) (pa_cons pe_int (pa_cons (pv 2) pa_nil)))) pa_nil)))))), ?_⟩
    refine st_without ?_
    o_args
    have go : ∀ e : Int, (∀ o, Mem o F → 0 ≤ o ∧ o < e) → sp_missing K ([V.ref l2, V.int 0, V.int e] ++ []) H (fun x H1 => tNil [some (.ref l1), some (.ref l2), some (.int e)] H1 fun xs H2 => sp_common K (V.ref l1 :: x :: xs ++ []) H2 (fun x H1 => Q x H1) E0) E0 := fun e he => by
      refine ⟨l2, ts2, S', 0, e, rfl, hR2, hS, by omega, fun m us out H1 nm nu s1 r1 zo n1 b1 m1 => ?_⟩
      o_args
      refine ⟨l1, m, ts1, us, F, out, rfl, hR1.same s1, r1, hF.nrm, n1, by omega, by omega, fun l' ts' out' H2 nl' nt s2 r2 zo' n2 b2 m2 => ?_⟩
      o_args
      refine k l' ts' out' H2 (none_of s1 nl') (fun t ht => none_of s1 (nt t ht)) (s1.trans s2) r2 (by omega) ⟨n2, fun r hr => ?_⟩ (fun o => ?_)
      · obtain ⟨a, ha, h⟩ := b2 r hr
        have := hF.lo a ha; omega
      · rw [m2 o, m1 o]
        exact ⟨fun ⟨h1, _, _, h2⟩ => ⟨h1, h2⟩, fun ⟨h1, h2⟩ => ⟨h1, (he o h1).1, (he o h1).2, h2⟩⟩
    refine ⟨_, truL hR1.1, ?_⟩
    have zl := hR1.len
    rcases snoc_or F with rfl | ⟨a, r, rfl⟩
    · have e0 : ts1 = [] := List.eq_nil_of_length_eq_zero zl
      subst e0
      o_args
      refine brT rfl ?_
      o_args
      exact go 0 fun o h => absurd h Mem.nil
    · obtain ⟨ta, tr, rfl⟩ : ∃ a x, ts1 = a ++ [x] := (snoc_or ts1).resolve_left fun z => by rw [z] at zl; simp at zl
      have hl5 : H l1 = some (.lst (ta.map V.ref ++ [V.ref tr])) := by rw [hR1.1, List.map_append]; rfl
      obtain ⟨Ti, Tr⟩ := hR1.2.init
      o_args
      refine brF (by simp) ?_
      o_args
      refine ixLast hl5 ?_
      o_args
      refine go r.2 fun o ⟨q, hq, h⟩ => ?_
      have := hF.lo q hq
      have := hF.nrm.le_last q hq
      omega
/-- at e: a set of the runs rs; what is named in F is none of its own -/
def SpA (C e : Addr) (F : List Addr) (rs : List Run) (H : Hp) : Prop := ∃ dx l ts, H e = some (.ins C dx [("_runs", .ref l)]) ∧ RunsL l ts rs H ∧ e ∉ F ∧ l ∉ F ∧ (∀ t ∈ ts, t ∉ F) ∧ Offs rs
section
variable {C e x : Addr} {F G : List Addr} {rs : List Run} {H H' : Hp}
theorem SpA.ch (S : SpA C e F rs H) (c : Ch G H H') (h : ∀ b ∈ G, b ∈ F) : SpA C e F rs H' := by
  obtain ⟨dx, l, ts, h1, h2, h3, h4, h5, h6⟩ := S
  exact ⟨dx, l, ts, c.at (fun z => h3 (h _ z)) h1, h2.ch c (fun z => h4 (h _ z)) (fun t ht z => h5 t ht (h _ z)), h3, h4, h5, h6⟩
theorem SpA.same (S : SpA C e F rs H) (s : Same H H') : SpA C e F rs H' := S.ch (Ch.of (G := []) s) (fun _ h => nomatch h)
theorem SpA.own (S : SpA C e F rs H) (hx : H x = none) (s : Same H H') : SpA C e (x :: F) rs H' := by
  obtain ⟨dx, l, ts, h1, h2, h3, h4, h5, h6⟩ := S
  have ne : ∀ {b o}, H b = some o → b ∉ F → b ∉ x :: F := fun e n z => by
    rcases List.mem_cons.mp z with z | z
    · rw [z, hx] at e; cases e
    · exact n z
  refine ⟨dx, l, ts, s _ _ h1, h2.same s, ne h1 h3, ne h2.1 h4, fun t ht => ?_, h6⟩
  obtain ⟨i, hi⟩ := List.mem_iff_getElem?.mp ht
  have l1 := getq_lt hi
  have l2 : i < rs.length := by have := h2.len; omega
  exact ne (h2.2.2 i t rs[i] hi (List.getElem?_eq_getElem l2)) (h5 t ht)
theorem SpA.less (S : SpA C e F rs H) (h : ∀ b ∈ G, b ∈ F) : SpA C e G rs H := by
  obtain ⟨dx, l, ts, h1, h2, h3, h4, h5, h6⟩ := S
  exact ⟨dx, l, ts, h1, h2, fun z => h3 (h _ z), fun z => h4 (h _ z), fun t ht z => h5 t ht (h _ z), h6⟩
theorem SpA.offs (S : SpA C e F rs H) : Offs rs := by
  obtain ⟨dx, l, ts, h1, h2, h3, h4, h5, h6⟩ := S
  exact h6
theorem SpA.at_ (S : SpA C e F rs H) : ∃ o, H e = some o := by
  obtain ⟨dx, l, ts, h1, _⟩ := S
  exact ⟨_, h1⟩
end
/-- what refuses a value that is told by its heap -/
def ErrT (Ce : Addr) (a b : V) (H : Hp) (E : XK) : Prop := ∀ t d H', Same H H' → H' t = some (.tup [a, b]) → H' d = some (.xd [("number", .ref t)]) → E (.ref Ce) (some d) H'
def sp_Spans_init_ (K : PySem.W.Frag) (C Ce : Addr) : Sp := fun vs H Q E => ∃ (p q dx : Addr) (xs : List V), vs = [.ref p, .ref q] ∧ H p = some (.ins C dx []) ∧ H q = some (.tup xs) ∧ xs.length < 50000 ∧
  ((∃ ps : List Run, xs.length = ps.length ∧ (∀ (i : Nat) x r, xs[i]? = some x → ps[i]? = some r → PairAt H x r ∧ 0 ≤ r.1 ∧ r.1 ≤ r.2) ∧ ∀ H' rs, Ch [p] H H' → (∀ F, Al F H → p ∉ F → SpA C p F rs H') → rs.length ≤ ps.length → (∀ o, Mem o rs ↔ Mem o ps) → Q .non H') ∨
   (∃ (j : Nat) (x : V), xs[j]? = some x ∧ BadPair K H x ∧ (∀ (i : Nat) y, i < j → xs[i]? = some y → ∃ r : Run, PairAt H y r ∧ 0 ≤ r.1 ∧ r.1 ≤ r.2) ∧ Err Ce "number" x H E))
theorem tyX_tup {K : PySem.W.Frag} {H : Hp} {t : Addr} {xs : List V} (h : H t = some (.tup xs)) : TyX K H (.ref t) (.type "tuple") := .base (.tup h)
theorem BadPair.same {K : PySem.W.Frag} {H H' : Hp} {x : V} (h : BadPair K H x) (s : Same H H') : BadPair K H' x := by
  rcases h with ⟨t, h1, h2⟩ | ⟨t, xs, rfl, hS, hb⟩
  · exact .inl ⟨t, tyX_same h1 s, h2⟩
  · refine .inr ⟨t, xs, rfl, hS.sm s, hb.imp id fun ⟨a, b, e, hb⟩ => ⟨a, b, e, hb.imp (fun h => h.same s) fun ⟨n, e, n0, h⟩ => ⟨n, e, n0, h.same s⟩⟩⟩
theorem ok_Spans_init_ (T : Txt K mg) : FnR P w K mg base (L2.CX P w) 4 T.a_Spans_init_ (starSp 1 (sp_Spans_init_ K T.c_Spans T.c_InvalidNumber)) := by
  have S := sc_Spans_init_
  refine okStarX T.F_Spans_init_ T.BS_Spans_init_ S (fun cdv A outer s H vs Q E hr h => ?_)
  obtain ⟨p, q, dx, xs, rfl, hp, hq, hz, h⟩ := h
  refine ⟨_, (pss_cons (ps_for (passes_of rfl) rfl (pi_tup (pv 1)) (pg_name (i := 2) S.nd rfl (Or.inl rfl)) (pss_one (ps_if (pt_not (pt_val (pe_call (ok_is_run T) (hr.mono (by decide)) rfl T.g_is_run T.F_is_run.kp T.B_is_run .nil pass0 (pa_cons (pv 2) pa_nil)))) (pss_one (ps_raise rfl (takes_of rfl rfl rfl rfl) (pmk_oex T.X_InvalidNumber.o T.X_InvalidNumber.i T.X_InvalidNumber.t (ok_InvalidNumber_init_ T) (hr.mono (by decide)) T.B_InvalidNumber_init_ .nil pass0 rfl T.X_InvalidNumber.g (pa_cons (pv 2) pa_nil)))) pss_nil)))
      (pss_one (ps_fld (pv 0) (pe_call (ok_joined T) (hr.mono (by decide)) rfl T.g_joined T.F_joined.kp T.B_joined .nil pass0 (pa_cons (pv 1) pa_nil)) rfl))), ?_⟩
  refine st_Spans_init_ ?_
  o_args
  rcases h with ⟨ps, hl, hp2, k⟩ | ⟨j, x, hj, hb, hg, hE⟩
  · refine overT (SqT.of hq) (for_tup (K := K) (a := q) (xs := xs) (fun i σ H' => ∃ v, σ = [some (.ref p), some (.ref q), v] ∧ Same H H') ⟨none, rfl, Same.refl _⟩ (fun i σ H' _ ⟨_, _, s⟩ => SqT.of (s _ _ hq)) ?_ ?_)
    · rintro i x σ H1 hx ⟨v, rfl, s1⟩
      have il : i < ps.length := by have := getq_lt hx; omega
      obtain ⟨g1, g2, g3⟩ := hp2 i x _ hx (List.getElem?_eq_getElem il)
      o_args
      refine ⟨x, rfl, .inl ⟨_, g1.same s1, g2, g3, fun H2 s2 => ?_⟩⟩
      o_args
      exact ⟨_, rfl, s1.trans s2⟩
    · rintro σ H1 ⟨v, rfl, s1⟩
      o_args
      refine ⟨q, xs, ps, rfl, SeqA.tup (s1 _ _ hq), by omega, hl, fun i x r h1 h2 => (hp2 i x r h1 h2).1.same s1, fun l ts rs H2 nl nt s2 r2 z2 n2 m2 lo2 => ?_⟩
      o_args
      refine fstore (s2 _ _ (s1 _ _ hp)) T.cl_Spans T.n_Spans__runs (Nat.le_of_ble_eq_true rfl) rfl fun H3 s3 h3 => ?_
      have S2 := s1.trans s2
      have c3 : Ch [p] H H3 := (Ch.of S2).trans (Ch.ofX (by simp) s3 h3)
      have np : ∀ {b o}, H2 b = some o → H b = none → b ≠ p := fun _ n z => by rw [z, hp] at n; cases n
      have cl : Ch [p] H2 H3 := Ch.ofX (by simp) s3 h3
      have tn : ∀ t ∈ ts, H t = none := fun t ht => none_of s1 (nt t ht)
      have ln : H l = none := none_of s1 nl
      o_args
      refine k H3 rs c3 (fun F A pF => ⟨dx, l, ts, h3, r2.ch cl (fun z => np r2.1 ln (List.mem_singleton.mp z)) (fun t ht z => ?_), pF, A.new ln, fun t ht => A.new (tn t ht), n2, fun r hr => ?_⟩) z2 m2
      · have := tn t ht
        rw [List.mem_singleton.mp z, hp] at this
        cases this
      · obtain ⟨p', hp', e⟩ := lo2 r hr
        obtain ⟨i, hi⟩ := List.mem_iff_getElem?.mp hp'
        have il := getq_lt hi
        have il2 : i < xs.length := by omega
        rw [e]
        exact (hp2 i xs[i] p' (List.getElem?_eq_getElem il2) hi).2.1
  · refine overT (SqT.of hq) (for_tup (K := K) (a := q) (xs := xs) (fun i σ H' => ∃ v, σ = [some (.ref p), some (.ref q), v] ∧ Same H H' ∧ i ≤ j) ⟨none, rfl, Same.refl _, Nat.zero_le _⟩ (fun i σ H' _ ⟨_, _, s, _⟩ => SqT.of (s _ _ hq)) ?_ ?_)
    · rintro i y σ H1 hy ⟨v, rfl, s1, ij⟩
      o_args
      by_cases e : i = j
      · subst e
        rw [hj] at hy
        cases hy
        refine ⟨x, rfl, .inr ⟨hb.same s1, fun H2 s2 => ?_⟩⟩
        o_args
        exact ⟨_, rfl, mkO_of T.X_InvalidNumber.o T.nX_InvalidNumber fun d H3 nd ss hx => hE d H3 ((s1.trans s2).trans ss) hx⟩
      · obtain ⟨r, g1, g2, g3⟩ := hg i y (by omega) hy
        refine ⟨y, rfl, .inl ⟨r, g1.same s1, g2, g3, fun H2 s2 => ?_⟩⟩
        o_args
        exact ⟨_, rfl, s1.trans s2, by omega⟩
    · rintro σ H1 ⟨v, rfl, s1, ij⟩
      have := getq_lt hj
      omega
theorem x_mkO {C : Addr} {sp : Sp} {dvs : List V} {ta : TA} {σ : L2.St} {H : Hp} {W : XK} (q : ta σ H fun vs H1 => vs.length ≤ 1000 ∧ ∀ a, H1 a = none → sp (.ref a :: (vs ++ dvs)) (upd H1 a (exo a C none))
  (fun v H2 => v = .non ∧ ∃ (d : Addr) (fs : List (Str × V)), H2 a = some (exo a C (some d)) ∧ H2 d = some (exd d fs) ∧ H1 d = none ∧ W (.ref C) (some d) (upd (del H2 a) d (.xd fs))) (fun _ _ _ => False)) : tMkO C sp dvs ta σ H W := q
def sp_Spans_rows (K : PySem.W.Frag) (C : Addr) : Sp := fun vs H Q _ => ∃ (e : Addr) (F : List Addr) (rs : List Run), vs = [.ref e] ∧ SpA C e F rs H ∧ ∀ l ts H', H l = none → Same H H' → RunsL l ts rs H' → Q (.ref l) H'
def sp_Spans_holding (K : PySem.W.Frag) (C : Addr) : Sp := fun vs H Q _ => ∃ (e : Addr) (F : List Addr) (rs : List Run) (x : V), vs = [.ref e, x] ∧ SpA C e F rs H ∧
  ((∃ o, x = .int o ∧ ((∃ r ∈ rs, r.1 ≤ o ∧ o < r.2 ∧ ∀ t H', Same H H' → H' t = some (.tup [.int r.1, .int r.2]) → Q (.ref t) H') ∨ (¬ Mem o rs ∧ Q .non H))) ∨ (IntK K H x false ∧ Q .non H))
theorem ok_Spans_holding (T : Txt K mg) : FnOk P w K mg base CX0 2 T.a_Spans_holding T.fd_Spans_holding ["self", "offset"] (sp_Spans_holding K T.c_Spans) := by
  have S := sc_Spans_holding
  refine T.F_Spans_holding.ok S (fun vs H Q E h => ?_) (fun cdv A outer s H vs Q E hr h => ?_)
  · obtain ⟨e, F, rs, x, rfl, _⟩ := h
    rfl
  · obtain ⟨e, F, rs, x, rfl, ⟨dx, l, ts, he, hR, _, _, _, hO⟩, h⟩ := h
    refine ⟨_, (pss_cons (ps_if (pt_not (pt_val (pe_call (ok_is_integer T) (hr.mono (by decide)) rfl T.g_is_integer T.F_is_integer.kp T.B_is_integer .nil pass0 (pa_cons (pv 1) pa_nil)))) (pss_one (ps_ret pe_non)) pss_nil)
      (pss_cons (ps_for PassesOwn.never rfl (pi_list (pe_fld (pv 0) rfl)) (pg_tup rfl (pgs_cons (pg_name (i := 2) S.nd rfl (Or.inl rfl)) (pgs_cons (pg_name (i := 3) S.nd rfl (Or.inl rfl)) pgs_nil))) (pss_one (ps_if (pt_chain op_le op_lt (pv 2) (pv 1) (pv 3)) (pss_one (ps_ret (pe_tup (pa_cons (pv 2) (pa_cons (pv 3) pa_nil))))) pss_nil)))
      (pss_one (ps_ret pe_non)))), ?_⟩
    refine st_Spans_holding ?_
    o_args
    rcases h with ⟨o, rfl, h⟩ | ⟨hx, k⟩
    · refine ⟨_, true, rfl, intK_int o, ?_⟩
      o_args
      refine fget he T.cl_Spans T.n_Spans__runs rfl ?_
      refine overL (SqL.of hR.1) (for_list (K := K) (a := l) (xs := ts.map V.ref) (fun i σ H' => ∃ a b, σ = [some (.ref e), some (.int o), a, b] ∧ H' = H ∧ ∀ r ∈ rs.take i, ¬ (r.1 ≤ o ∧ o < r.2)) ⟨none, none, rfl, rfl, fun _ h => nomatch h⟩ (fun i σ H' _ ⟨_, _, _, e, _⟩ => by rw [e]; exact SqL.of hR.1) ?_ ?_)
      · rintro i v σ H1 hv ⟨a, b, rfl, rfl, no⟩
        have il := getq_lt hv
        rw [List.length_map, hR.len] at il
        obtain ⟨t, _, e2, ht⟩ := hR.at (List.getElem?_eq_getElem il)
        rw [e2] at hv
        cases hv
        have tk : rs.take (i + 1) = rs.take i ++ [rs[i]] := by rw [List.take_succ, List.getElem?_eq_getElem il]; rfl
        have rm := List.getElem_mem il
        generalize rs[i] = r at tk ht rm
        refine two_to ht ?_
        o_args
        have skip : ¬ (r.1 ≤ o ∧ o < r.2) → ∀ q ∈ rs.take (i + 1), ¬ (q.1 ≤ o ∧ o < q.2) := fun c q hq => by
          rw [tk] at hq
          rcases List.mem_append.mp hq with hq | hq
          · exact no q hq
          · rw [List.mem_singleton.mp hq]; exact c
        have hit : r.1 ≤ o → o < r.2 → ∀ t H', Same H1 H' → H' t = some (.tup [.int r.1, .int r.2]) → Q (.ref t) H' := fun c1 c2 => by
          rcases h with ⟨q, hq, d1, d2, k⟩ | ⟨n, _⟩
          · have e := pair_uniq hO.nrm rm hq c1 c2 d1 d2
            rw [e]
            exact k
          · exact absurd ⟨r, rm, c1, c2⟩ n
        refine brD (fun c1 => ?_) (fun c1 => ?_)
        · o_args
          refine brD (fun c2 => ?_) (fun c2 => ?_)
          · o_args
            refine newTup (by simp) fun u H2 nu s2 h2 => ?_
            o_args
            exact hit c1 c2 u H2 s2 h2
          · o_args
            exact ⟨_, _, rfl, rfl, skip fun z => c2 z.2⟩
        · o_args
          exact ⟨_, _, rfl, rfl, skip fun z => c1 z.1⟩
      · rintro σ H1 ⟨a, b, rfl, rfl, no⟩
        rw [List.length_map, hR.len, List.take_length] at no
        o_args
        rcases h with ⟨q, hq, d1, d2, _⟩ | ⟨_, k⟩
        · exact absurd ⟨d1, d2⟩ (no q hq)
        · exact k
    · refine ⟨_, false, rfl, hx, ?_⟩
      o_args
      exact k
/-- ends that make no run -/
def BadEnds (K : PySem.W.Frag) (H : Hp) (a b : V) : Prop := Less K H a 0 ∨ ∃ n, a = .int n ∧ 0 ≤ n ∧ Less K H b n
def sp_Spans_put (K : PySem.W.Frag) (C Ce : Addr) : Sp := fun vs H Q E => ∃ (e : Addr) (F : List Addr) (rs : List Run) (lo hi : V), vs = [.ref e, lo, hi] ∧ SpA C e F rs H ∧ rs.length < 20000 ∧
  ((∃ a b, lo = .int a ∧ hi = .int b ∧ 0 ≤ a ∧ a ≤ b ∧ ∀ H' rs', Ch [e] H H' → (∀ G, Al G H → e ∉ G → SpA C e G rs' H') → rs'.length ≤ rs.length + 1 → (∀ o, Mem o rs' ↔ Mem o rs ∨ a ≤ o ∧ o < b) → Q .non H') ∨ (BadEnds K H lo hi ∧ ErrT Ce lo hi H E))
theorem ok_Spans_put (T : Txt K mg) : FnOk P w K mg base (L2.CX P w) 4 T.a_Spans_put T.fd_Spans_put ["self", "low", "high"] (sp_Spans_put K T.c_Spans T.c_InvalidNumber) := by
  have S := sc_Spans_put
  refine T.F_Spans_put.okX S (fun vs H Q E h => ?_) (fun cdv A outer s H vs Q E hr h => ?_)
  · obtain ⟨e, F, rs, lo, hi, rfl, _⟩ := h
    rfl
  · obtain ⟨e, F, rs, lo, hi, rfl, ⟨dx, l, ts, he, hR, _, _, _, hO⟩, hz, h⟩ := h
    refine ⟨_, (pss_cons (ps_if (pt_not (pt_val (pe_call (ok_is_run T) (hr.mono (by decide)) rfl T.g_is_run T.F_is_run.kp T.B_is_run .nil pass0 (pa_cons (pe_tup (pa_cons (pv 1) (pa_cons (pv 2) pa_nil))) pa_nil)))) (pss_one (ps_raise rfl (takes_of rfl rfl rfl rfl) (pmk_oex T.X_InvalidNumber.o T.X_InvalidNumber.i T.X_InvalidNumber.t (ok_InvalidNumber_init_ T) (hr.mono (by decide)) T.B_InvalidNumber_init_ .nil pass0 rfl T.X_InvalidNumber.g (pa_cons (pe_tup (pa_cons (pv 1) (pa_cons (pv 2) pa_nil))) pa_nil)))) pss_nil)
      (pss_one (ps_fld (pv 0) (pe_call (ok_joined T) (hr.mono (by decide)) rfl T.g_joined T.F_joined.kp T.B_joined .nil pass0 (pa_cons (pe_lst (StX.pa_star (pe_fld (pv 0) rfl) (pa_cons (pe_tup (pa_cons (pv 1) (pa_cons (pv 2) pa_nil))) pa_nil))) pa_nil)) rfl))), ?_⟩
    refine st_Spans_put ?_
    o_args
    refine newTup (by simp) fun u H1 nu s1 h1 => ?_
    o_args
    rcases h with ⟨a, b, rfl, rfl, a0, ab, k⟩ | ⟨hb, hE⟩
    · refine ⟨_, rfl, .inl ⟨(a, b), ⟨u, rfl, .inl h1⟩, a0, ab, fun H2 s2 => ?_⟩⟩
      have S2 := s1.trans s2
      o_args
      refine fget (S2 _ _ he) T.cl_Spans T.n_Spans__runs rfl ?_
      have hR2 := hR.same S2
      refine ⟨l, _, rfl, .inr (SqL.of hR2.1), ?_⟩
      o_args
      refine newTup (by simp) fun v H3 nv s3 h3 => ?_
      o_args
      refine newList (by simp [hR.len]; omega) fun m H4 nm s4 h4 => ?_
      have hR4 := (hR2.same s3).same s4
      o_args
      have lnn := hR.len
      refine ⟨m, ts.map V.ref ++ [.ref v], rs ++ [(a, b)], rfl, SeqA.lst h4, by simp; omega, by simp; omega, fun i x p hx hp => ?_, fun l' ts' rs' H5 nl nt s5 r5 z5 n5 m5 lo5 => ?_⟩
      · by_cases il : i < rs.length
        · rw [List.getElem?_append_left (by simp; omega)] at hx
          rw [List.getElem?_append_left il] at hp
          obtain ⟨t, _, e2, ht⟩ := hR4.at hp
          rw [e2] at hx
          cases hx
          exact ⟨t, rfl, .inl ht⟩
        · rw [List.getElem?_append_right (by simp; omega)] at hx
          rw [List.getElem?_append_right (by omega)] at hp
          have ip := getq_lt hp
          simp at ip
          rw [show i - rs.length = 0 by omega] at hp
          rw [show i - (ts.map V.ref).length = 0 by simp; omega] at hx
          cases hx
          cases hp
          exact ⟨v, rfl, .inl (s4 _ _ h3)⟩
      · have S4 := (S2.trans s3).trans s4
        o_args
        refine fstore ((S4.trans s5) _ _ he) T.cl_Spans T.n_Spans__runs (Nat.le_of_ble_eq_true rfl) rfl fun H6 s6 h6 => ?_
        have tn : ∀ t ∈ ts', H t = none := fun t ht => none_of S4 (nt t ht)
        have ln : H l' = none := none_of S4 nl
        have np : ∀ {b}, H b = none → b ∉ [e] := fun n z => by rw [List.mem_singleton.mp z, he] at n; cases n
        o_args
        refine k H6 rs' ((Ch.of (S4.trans s5)).trans (Ch.ofX (by simp) s6 h6)) (fun G A eG => ⟨dx, l', ts', h6, r5.ch (Ch.ofX (by simp) s6 h6) (np ln) (fun t ht => np (tn t ht)), eG, A.new ln, fun t ht => A.new (tn t ht), n5, fun r hr => ?_⟩) (by simp at z5; exact z5) (fun o => ?_)
        · obtain ⟨p, hp, e⟩ := lo5 r hr
          rw [e]
          rcases List.mem_append.mp hp with hp | hp
          · exact hO.lo p hp
          · rw [List.mem_singleton.mp hp]; exact a0
        · rw [m5 o, Mem.app, Mem.one]
    · refine ⟨_, rfl, .inr ⟨.inr ⟨u, _, rfl, SeqA.tup h1, .inr ⟨lo, hi, rfl, hb.imp (fun h => h.same s1) fun ⟨n, e, n0, h⟩ => ⟨n, e, n0, h.same s1⟩⟩⟩, fun H2 s2 => ?_⟩⟩
      o_args
      refine x_mkO ?_
      o_args
      refine newTup (by simp) fun v H3 nv s3 h3 => ?_
      o_args
      exact mkO_of T.X_InvalidNumber.o T.nX_InvalidNumber fun d H4 nd ss hx => hE v d H4 (((s1.trans s2).trans s3).trans ss) (ss _ _ h3) hx
def sp_Spans_drop (K : PySem.W.Frag) (C Ce : Addr) : Sp := fun vs H Q E => ∃ (e : Addr) (F : List Addr) (rs : List Run) (lo hi : V), vs = [.ref e, lo, hi] ∧ SpA C e F rs H ∧ rs.length < 20000 ∧
  ((∃ a b, lo = .int a ∧ hi = .int b ∧ 0 ≤ a ∧ a ≤ b ∧ ∀ H' rs', Ch [e] H H' → (∀ G, Al G H → e ∉ G → SpA C e G rs' H') → rs'.length ≤ rs.length + 2 → (∀ o, Mem o rs' ↔ Mem o rs ∧ ¬ (a ≤ o ∧ o < b)) → Q .non H') ∨ (BadEnds K H lo hi ∧ ErrT Ce lo hi H E))
theorem ok_Spans_drop (T : Txt K mg) : FnOk P w K mg base (L2.CX P w) 4 T.a_Spans_drop T.fd_Spans_drop ["self", "low", "high"] (sp_Spans_drop K T.c_Spans T.c_InvalidNumber) := by
  have S := sc_Spans_drop
  refine T.F_Spans_drop.okX S (fun vs H Q E h => ?_) (fun cdv A outer s H vs Q E hr h => ?_)
  · obtain ⟨e, F, rs, lo, hi, rfl, _⟩ := h
    rfl
  · obtain ⟨e, F, rs, lo, hi, rfl, ⟨dx, l, ts, he, hR, _, _, _, hO⟩, hz, h⟩ := h
    refine ⟨_, (pss_cons (ps_if (pt_not (pt_val (pe_call (ok_is_run T) (hr.mono (by decide)) rfl T.g_is_run T.F_is_run.kp T.B_is_run .nil pass0 (pa_cons (pe_tup (pa_cons (pv 1) (pa_cons (pv 2) pa_nil))) pa_nil)))) (pss_one (ps_raise rfl (takes_of rfl rfl rfl rfl) (pmk_oex T.X_InvalidNumber.o T.X_InvalidNumber.i T.X_InvalidNumber.t (ok_InvalidNumber_init_ T) (hr.mono (by decide)) T.B_InvalidNumber_init_ .nil pass0 rfl T.X_InvalidNumber.g (pa_cons (pe_tup (pa_cons (pv 1) (pa_cons (pv 2) pa_nil))) pa_nil)))) pss_nil)
      (pss_one (ps_fld (pv 0) (pe_call (ok_without T) (hr.mono (by decide)) rfl T.g_without T.F_without.kp T.B_without .nil pass0 (pa_cons (pe_fld (pv 0) rfl) (pa_cons (pe_call (ok_joined T) (hr.mono (by decide)) rfl T.g_joined T.F_joined.kp T.B_joined .nil pass0 (pa_cons (pe_lst (pa_cons (pe_tup (pa_cons (pv 1) (pa_cons (pv 2) pa_nil))) pa_nil)) pa_nil)) pa_nil))) rfl))), ?_⟩
    refine st_Spans_drop ?_
    o_args
    refine newTup (by simp) fun u H1 nu s1 h1 => ?_
    o_args
    rcases h with ⟨a, b, rfl, rfl, a0, ab, k⟩ | ⟨hb, hE⟩
    · refine ⟨_, rfl, .inl ⟨(a, b), ⟨u, rfl, .inl h1⟩, a0, ab, fun H2 s2 => ?_⟩⟩
      have S2 := s1.trans s2
      o_args
      refine fget (S2 _ _ he) T.cl_Spans T.n_Spans__runs rfl ?_
      have hR2 := hR.same S2
      o_args
      refine newTup (by simp) fun v H3 nv s3 h3 => ?_
      o_args
      refine newList (by simp) fun m H4 nm s4 h4 => ?_
      have hR4 := (hR2.same s3).same s4
      o_args
      refine ⟨m, [.ref v], [(a, b)], rfl, SeqA.lst h4, by simp, by simp, fun i x p hx hp => ?_, fun l' ts' rs' H5 nl nt s5 r5 z5 n5 m5 lo5 => ?_⟩
      · have ip := getq_lt hp
        simp at ip
        subst ip
        cases hx
        cases hp
        exact ⟨v, rfl, .inl (s4 _ _ h3)⟩
      · o_args
        simp at z5
        refine ⟨l, l', ts, ts', rs, rs', rfl, hR4.same s5, r5, hO, n5, by omega, by omega, fun l2 us out H6 nl2 nu2 s6 r6 z6 n6 m6 => ?_⟩
        have S5 := (((S2.trans s3).trans s4).trans s5)
        o_args
        refine fstore ((S5.trans s6) _ _ he) T.cl_Spans T.n_Spans__runs (Nat.le_of_ble_eq_true rfl) rfl fun H7 s7 h7 => ?_
        have tn : ∀ t ∈ us, H t = none := fun t ht => none_of S5 (nu2 t ht)
        have ln : H l2 = none := none_of S5 nl2
        have np : ∀ {b}, H b = none → b ∉ [e] := fun n z => by rw [List.mem_singleton.mp z, he] at n; cases n
        o_args
        refine k H7 out ((Ch.of (S5.trans s6)).trans (Ch.ofX (by simp) s7 h7)) (fun G A eG => ⟨dx, l2, us, h7, r6.ch (Ch.ofX (by simp) s7 h7) (np ln) (fun t ht => np (tn t ht)), eG, A.new ln, fun t ht => A.new (tn t ht), n6⟩) (by omega) (fun o => ?_)
        rw [m6 o, m5 o, Mem.one]
    · refine ⟨_, rfl, .inr ⟨.inr ⟨u, _, rfl, SeqA.tup h1, .inr ⟨lo, hi, rfl, hb.imp (fun h => h.same s1) fun ⟨n, e, n0, h⟩ => ⟨n, e, n0, h.same s1⟩⟩⟩, fun H2 s2 => ?_⟩⟩
      o_args
      refine x_mkO ?_
      o_args
      refine newTup (by simp) fun v H3 nv s3 h3 => ?_
      o_args
      exact mkO_of T.X_InvalidNumber.o T.nX_InvalidNumber fun d H4 nd ss hx => hE v d H4 (((s1.trans s2).trans s3).trans ss) (ss _ _ h3) hx
theorem for_rev {K : PySem.W.Frag} {a : Addr} {xs : List V} {g : TG} {tb : TS} {D : Ends} {σ : L2.St} {H : Hp} (Pv : Nat → L2.St → Hp → Prop) (h0 : Pv 0 σ H) (hl : ∀ i σ H, i ≤ xs.length → Pv i σ H → SqL K H a xs)
    (hs : ∀ i x σ H, i < xs.length → xs[xs.length - 1 - i]? = some x → Pv i σ H → g x σ H fun σ2 H2 => tb { D with nx := Pv (i + 1), ct := Pv (i + 1), bk := D.nx } σ2 H2) (hd : ∀ σ H, Pv xs.length σ H → D.nx σ H) :
    ∃ W : Nat → Nat → L2.St → Hp → Prop, (∃ m, W 0 m σ H) ∧ ∀ i m σ H, W i m σ H →
      ((Itv K a xs.length).stop i H ∧ D.nx σ H) ∨ ((Itv K a xs.length).go i H ∧ ∃ N : L2.St → Hp → Prop, (∀ σ' H', N σ' H' → ∃ m', m' < m ∧ W (i + 1) m' σ' H') ∧ ∀ x H', (Itv K a xs.length).yld i H x H' → g x σ H' fun σ2 H2 => tb { D with nx := N, ct := N, bk := D.nx } σ2 H2) := by
  refine ⟨fun i m σ H => m = xs.length - i ∧ i ≤ xs.length ∧ Pv i σ H, ⟨xs.length, by simp, Nat.zero_le _, h0⟩, ?_⟩
  rintro i m σ H ⟨rfl, hi, p⟩
  have q := hl i σ H hi p
  by_cases hlt : i < xs.length
  · have e : xs[xs.length - 1 - i]? = some xs[xs.length - 1 - i] := List.getElem?_eq_getElem (by omega)
    refine .inr ⟨⟨hlt, xs, _, q, e⟩, Pv (i + 1), fun σ' H' p' => ⟨xs.length - (i + 1), by omega, rfl, hlt, p'⟩, fun x H' y => ?_⟩
    obtain ⟨e, y⟩ := y
    subst e
    exact hs i x σ _ hlt (y xs q) p
  · have e : i = xs.length := by omega
    subst e
    exact .inl ⟨Nat.le_refl _, hd σ H p⟩
theorem x_forRev {K : PySem.W.Frag} {ta : TA} {g : TG} {tb : TS} {D : Ends} {σ : L2.St} {H : Hp} (q : ta σ H fun vs H1 => ∃ (a : Addr) (xs : List V), vs = [.ref a] ∧ SqL K H1 a xs ∧ forK (Itv K a xs.length) g tb D σ H1) : tFor (iRev K ta) g tb D σ H := q
/-! ### the highest offset -/
def hiV (rs : List Run) : V := match rs.getLast? with
  | none => .non
  | some r => .int (r.2 - 1)
def sp_Spans_highest (K : PySem.W.Frag) (C : Addr) : Sp := fun vs H Q _ => ∃ (e : Addr) (F : List Addr) (rs : List Run), vs = [.ref e, .int 1] ∧ SpA C e F rs H ∧ Q (hiV rs) H
theorem ok_Spans_highest (T : Txt K mg) : FnOk P w K mg base CX0 3 T.a_Spans_highest T.fd_Spans_highest ["self", "count"] (sp_Spans_highest K T.c_Spans) := by
  have S := sc_Spans_highest
  refine T.F_Spans_highest.ok S (fun vs H Q E h => ?_) (fun cdv A outer s H vs Q E hr h => ?_)
  · obtain ⟨e, F, rs, rfl, _⟩ := h
    rfl
  · obtain ⟨e, F, rs, rfl, ⟨dx, l, ts, he, hR, _, _, _, hO⟩, k⟩ := h
    refine ⟨_, (pss_cons (ps_if (pt_not (pt_val (pe_call (ok_is_at_least T) (hr.mono (by decide)) rfl T.g_is_at_least T.F_is_at_least.kp T.B_is_at_least .nil pass0 (pa_cons (pv 1) (pa_cons pe_int pa_nil))))) (pss_one ps_never) pss_nil)
      (pss_cons (ps_set (i := 2) S.nd rfl (Or.inl rfl) (pv 1))
      (pss_cons (ps_for PassesOwn.never rfl (pi_reversed (by rfl) T.b_reversed (pa_cons (pe_fld (pv 0) rfl) pa_nil)) (pg_tup rfl (pgs_cons (pg_name (i := 3) S.nd rfl (Or.inl rfl)) (pgs_cons (pg_name (i := 4) S.nd rfl (Or.inl rfl)) pgs_nil))) (pss_cons (ps_if (pt_cmpR op_ge (pe_op op_sub (pv 4) (pv 3)) (pv 2) (nomark _)) (pss_one (ps_ret (pe_op op_sub (pv 4) (pv 2)))) pss_nil)
      (pss_one (ps_aug (i := 2) S.nd rfl (.inl rfl) (pe_op op_sub (pv 4) (pv 3)) ip_sub))))
      (pss_one (ps_ret pe_non))))), ?_⟩
    refine st_Spans_highest ?_
    o_args
    refine ⟨_, _, rfl, .inl ⟨1, rfl, by decide, ?_⟩⟩
    o_args
    refine x_forRev ?_
    o_args
    refine fget he T.cl_Spans T.n_Spans__runs rfl ?_
    refine ⟨l, ts.map V.ref, rfl, SqL.of hR.1, for_rev (K := K) (a := l) (xs := ts.map V.ref) (fun i σ H' => i = 0 ∧ σ = [some (.ref e), some (.int 1), some (.int 1), none, none] ∧ H' = H) ⟨rfl, rfl, rfl⟩ (fun i σ H' _ ⟨_, _, e⟩ => by rw [e]; exact SqL.of hR.1) ?_ ?_⟩
    · rintro i v σ H1 il hv ⟨rfl, rfl, rfl⟩
      rw [List.length_map, hR.len] at il
      rw [List.length_map, hR.len] at hv
      obtain ⟨t, _, e2, ht⟩ := hR.at (List.getElem?_eq_getElem (show rs.length - 1 - 0 < rs.length by omega))
      rw [e2] at hv
      cases hv
      have rm := List.getElem_mem (show rs.length - 1 - 0 < rs.length by omega)
      have hr : rs.getLast? = some rs[rs.length - 1 - 0] := by rw [List.getLast?_eq_getElem?]; exact List.getElem?_eq_getElem (by omega)
      unfold hiV at k
      rw [hr] at k
      generalize rs[rs.length - 1 - 0] = r at rm ht k
      have pos := hO.nrm.1 r rm
      refine two_to ht ?_
      o_args
      refine brDT (by omega) ?_
      o_args
      exact k
    · rintro σ H1 ⟨h0, rfl, rfl⟩
      rw [List.length_map, hR.len] at h0
      o_args
      rw [List.eq_nil_of_length_eq_zero h0] at k
      exact k
/-! ### repr of data of any kind (behind guard) -/
section
open PySem.Spec PyProof.Rows
variable {X : Cx}
/-- what repr is asked of: data without dicts, its text within the line, its ints within the digits -/
def rReprD (K : PySem.W.Frag) : List V → Hp → VK → Prop := fun xs H Q => ∃ (x : V) (d : PyData), xs = [x] ∧ Dp K H x d ∧ d.showable = true ∧ d.hasDict = false ∧ d.depth ≤ 100 ∧ d.shown.length ≤ sizeLine ∧ (∀ i, d = .int i → i.natAbs.log2 < 1920) ∧ Q (.str d.shown) H
theorem call_reprD (still : X.A.guards = some []) (un : X.A.units + 150 < cLine) : CallR X (.builtin "repr") (rReprD X.K) := by
  intro pins s σ H xs us Q I rv h
  obtain ⟨x, d, rfl, hd, sh, nd, dp, sz, hi, q⟩ := h
  rcases rv with _ | ⟨r1, r2⟩
  cases r2
  cases hd with
  | non =>
    cases r1
    exact PySem.P.repr_of_none ⟨.str _, H, I.tok _, ⟨_, rfl⟩, by rw [PyData.shown_none] at q; exact q⟩
  | bl b =>
    cases r1
    exact PySem.P.repr_of_bool ⟨.str _, H, I.tok _, ⟨_, rfl⟩, by rw [PyData.shown_bool] at q; exact q⟩
  | int i =>
    obtain ⟨t, rfl⟩ := r1
    exact PySem.P.repr_of_int (hi i rfl) ⟨.str _, H, I.tok _, ⟨_, rfl⟩, by rw [PyData.shown_int] at q; exact q⟩
  | str z =>
    obtain ⟨t, rfl⟩ := r1
    rw [PyData.shown_str] at q sz
    exact PySem.P.repr_of_str ⟨.str _, H, I.tok _, ⟨_, rfl⟩, q⟩ sz
  | lst hs hr =>
    cases r1
    obtain ⟨as, hr⟩ := Dp.reads I _ _ _ (.lst hs hr) rfl
    exact repr_of_reads' hr sh (fun z => by rw [nd] at z; cases z) still (by omega) (fun _ _ z => z) (fun h' u tk keep => ⟨.str _, H, I.kept keep, ⟨u, rfl⟩, q⟩) sz
  | tup hs hr =>
    cases r1
    obtain ⟨as, hr⟩ := Dp.reads I _ _ _ (.tup hs hr) rfl
    exact repr_of_reads' hr sh (fun z => by rw [nd] at z; cases z) still (by omega) (fun _ _ z => z) (fun h' u tk keep => ⟨.str _, H, I.kept keep, ⟨u, rfl⟩, q⟩) sz
/-- in an except suite it is as still as outside -/
theorem still_suite {a : Addr} {pn : List (Addr × Obj)} (h : X.A.guards = some []) : (X.suite a pn).A.guards = some [] := h
end
theorem room_un {k : Nat} {A : Around} (r : Room k A) : A.units + 150 < cLine := by have := r.un; omega
theorem x_callS {σ : L2.St} {H : Hp} {Q : VK} {sp : Sp} {E : L2.St → XK} {t : TA} (q : t σ H fun vs H1 => sp vs H1 Q (E σ)) : tCallS sp E t σ H Q := q
theorem x_con {K : PySem.W.Frag} {te : TE} {f : Str} {σ : L2.St} {H : Hp} {Q : VK} (q : te σ H fun x H1 => ∃ a C dx fs v u, x = .ref a ∧ H1 a = some (.ins C dx fs) ∧ Cls K C ∧ Con K C f v u ∧ fs.lookup f = none ∧ Q v H1) : tCon K te f σ H Q := q
theorem x_neB {i j : Bool} {H : Hp} {Q : VK} (q : Q (.bl (!decide (i = j))) H) : rNe (.bl i) (.bl j) H Q := ⟨rfl, by
  have e : decide (V.bl i = V.bl j) = decide (i = j) := by cases i <;> cases j <;> decide +kernel
  rw [e]; exact q⟩
theorem x_eqB {i j : Bool} {H : Hp} {Q : VK} (q : Q (.bl (decide (i = j))) H) : rEq (.bl i) (.bl j) H Q := ⟨rfl, by
  have e : decide (V.bl i = V.bl j) = decide (i = j) := by cases i <;> cases j <;> decide +kernel
  rw [e]; exact q⟩
local macro_rules
  | `(tactic| w_up) => `(tactic| first | with_reducible refine x_callS ?_ | with_reducible refine x_con ?_ | with_reducible refine x_neB ?_ | with_reducible refine x_eqB ?_)
/-! ### del xs[:c] -/
section
open PySem.Spec PyProof.Rows
theorem drop_zip (c : Nat) (f : Value × Nat → Option Value) (hf : ∀ x k, f (x, k) = if k < c then none else some x) : ∀ (xs : List Value) (j : Nat), (xs.zipIdx j).filterMap f = xs.drop (c - j)
  | [], j => by simp
  | x :: xs, j => by
    rw [List.zipIdx_cons, List.filterMap_cons, hf]
    by_cases q : j < c
    · rw [if_pos q]
      show (xs.zipIdx (j + 1)).filterMap f = _
      rw [drop_zip c f hf xs (j + 1), show c - j = (c - (j + 1)) + 1 by omega]
      rfl
    · rw [if_neg q]
      show x :: (xs.zipIdx (j + 1)).filterMap f = _
      rw [drop_zip c f hf xs (j + 1), show c - j = 0 by omega, show c - (j + 1) = 0 by omega]
      rfl
theorem cut_bounds {c n : Nat} (hc : c ≤ n) : sliceBounds none (some (c : Int)) none n = (0, (c : Int), 1) := by
  simp only [sliceBounds, Option.getD_none]
  have h2 : ¬ ((c : Int) < 0) := by omega
  simp only [h2, if_false, show (1 : Int) > 0 by decide, if_true]
  congr 1
  congr 1
  omega
variable {prog : Program} {w : World} {A : Around} {E : Value → Shared → Prop} {s : Shared}
theorem delItem_cut {l sl : Addr} {items : Array Value} {n : Nat} {vu : Value} {c : Nat} {Q : Unit → Shared → Prop}
    (e : s.heap.get? l = some { cls := .type "list", data := .seq items n }) (hs : s.heap.IsSliceOf sl .none vu .none) (pu : IsPart vu (some (c : Int))) (hc : c ≤ items.size)
    (hsz : items.size ≤ sizeLine) (h : Q () { s with heap := s.heap.update l (Obj.mapSeq fun xs => (xs.toList.drop c).toArray) }) :
    wpAny (model prog w) A (delItem (.ref l) (.ref sl)) Q E s := by
  have hl : s.heap.IsList l items := PySem.IsL.isList e
  obtain ⟨os, hos, hcs, hds⟩ := id hs
  have hTs : s.TypeIs (.ref sl) "slice" := ⟨os, hos, hcs⟩
  have hstep : ¬ ((rawPart none == rawInt 0) = true) := Bool.false_ne_true
  refine wpAny_delItem_slot hl.typeIs (by decide) PySem.F.slot_list_delitem (wpAny_call_entry PySem.F.slot_list_delitem hl.typeIs PySem.F.entry_list_delitem ?_ (PySem.F.args_list_delitem_2 _ _))
  show wpAny _ _ (Builtin.List.listSubscript? (.ref sl) >>= _) _ _ s
  refine wpAny_bind ?_
  unfold Builtin.List.listSubscript?
  refine wpAny_bind (wpAny_specialOf hTs slice_no_index ?_)
  simp only [Option.isNone_none, if_true]
  refine wpAny_pure ?_
  show wpAny _ _ (typeOf (.ref sl) >>= _) _ _ s
  refine wpAny_bind (wpAny_typeOf hTs ?_)
  rw [if_neg (by decide)]
  rw [listSliceParts_eq]
  refine wpAny_bind (wpAny_bind (wpAny_field hos hds (x := .none) rfl (wpAny_bind (wpAny_listPart .none ?_))))
  rw [if_neg hstep]
  refine wpAny_bind (wpAny_field hos hds (x := .none) rfl (wpAny_bind (wpAny_listPart .none ?_)))
  refine wpAny_bind (wpAny_field hos hds (x := vu) rfl (wpAny_bind (wpAny_listPart pu (wpAny_pure ?_))))
  unfold Builtin.List.listItems
  refine wpAny_bind (wpAny_bind (wpAny_seqItems e rfl (wpAny_pure ?_)))
  refine wpAny_bind (wpAny_of_eq ((sliceIndices_raw none (some (c : Int)) none items.size (by simp)).trans (congrArg (pure : Int × Int × Int → Sem (Int × Int × Int)) (cut_bounds hc))) ?_)
  refine wpAny_bind (wpAny_rule ?_)
  refine wpAny_bind (m := updateSeq l _) ?_
  refine wpAny_updateSeq (hz := hsz) (_hz' := ?z) e rfl ?_
  case z =>
    rw [List.size_toArray]
    refine Nat.le_trans (List.length_filterMap_le _ _) ?_
    rw [List.length_zipIdx, Array.length_toList]
    omega
  refine wpAny_bind (wpAny_letGo ?_)
  refine wpAny_pure ⟨.none, rfl, ?_⟩
  have ef : ∀ f : Value × Nat → Option Value, (∀ x k, f (x, k) = if k < c then none else some x) → (fun xs : Array Value => (xs.toList.zipIdx.filterMap f).toArray) = fun xs => (xs.toList.drop c).toArray := fun f hf => by
    funext xs
    rw [drop_zip c f hf xs.toList 0, Nat.sub_zero]
  refine Eq.mpr (congrArg (fun g => Q () { s with heap := s.heap.update l (Obj.mapSeq g) }) (ef _ ?_)) h
  intro x k
  show (if (decide ((0 : Int) ≤ (k : Int)) && decide ((k : Int) < (c : Int)) && (((k : Int) - 0) % 1 == 0)) = true then none else some x) = _
  have z : (((k : Int) - 0) % 1 == 0) = true := by rw [Int.emod_one]; rfl
  rw [z, Bool.and_true, decide_eq_true (show (0 : Int) ≤ (k : Int) by omega), Bool.true_and]
  by_cases q : k < c
  · rw [if_pos q, if_pos (decide_eq_true (show (k : Int) < c by omega))]
  · rw [if_neg q, decide_eq_false (show ¬ (k : Int) < c by omega), if_neg Bool.false_ne_true]
end
section
open PySem.Spec PyProof.Rows
variable {X : Cx} {o hi : Expr} {to : TE} {th : TO} {tpos p2 pos : Pos}
/-- del xs[:c] of a list -/
def tDelCut (to : TE) (th : TO) : TS := fun D σ H => to σ H fun x H1 => th σ H1 fun u H2 => ∃ (l : Addr) (xs : List V) (c : Nat), x = .ref l ∧ u = some (c : Int) ∧ H2 l = some (.lst xs) ∧ c ≤ xs.length ∧ D.nx σ (L2.upd H2 l (.lst (xs.drop c)))
theorem ps_delCut (ho : PE X o to) (hh : PO X (some hi) th) : PS X (.Delete [.Subscript o (.Slice none (some hi) none p2) tpos] pos) (tDelCut to th) := by
  refine ⟨fun pins s σ H D I h => ?_⟩
  refine wpAny_Delete (wpAny_deleteEach_cons (wpAny_delete_Subscript (thn (ho.run pins s σ H _ I h) fun v s1 ⟨x, H1, I1, rx, q1⟩ => ?_)))
  refine wpAny_Slice (thn ((po_none (X := X)).run pins s1 σ H1 (fun l H' => l = none ∧ th σ H' _) I1 ⟨rfl, q1⟩) fun vl s2 ⟨l, H2, I2, pl, el0, q2⟩ => thn (hh.run pins s2 σ H2 _ I2 q2) fun vu s3 ⟨u, H3, I3, pu, q3⟩ => ?_)
  rw [evalPart_none]
  refine wpAny_pure ?_
  obtain ⟨l', xs, c, ex, eu, hH, hc, q⟩ := q3
  subst ex eu
  cases (show v = Value.ref l' from rx)
  have I4 : Inv X pins σ H3 { s3 with heap := s3.heap.push { cls := .type "slice", data := .fields #[vl, vu, .none] } } := I3.kept (t' := s3.toks) fun b ob q => Heap.get?_push_of_some _ q
  obtain ⟨z, its, n, r, hl, e⟩ := I4.lstM hH
  subst el0
  have el : vl = .none := by cases pl; rfl
  subst el
  have zl : its.length = xs.length := r.length.symm
  refine delItem_cut (c := c) e (Heap.IsSliceOf.new ..) pu (by rw [List.size_toArray]; omega) (by rw [List.size_toArray, zl]; omega) (wpAny_deleteEach_nil ⟨σ, _, ?_, q⟩)
  refine I4.lset (its' := its.drop c) (t' := s3.toks) hH e ?_ (r.drop c) ?_
  · rfl
  · rw [List.length_drop]; omega
end
/-! ### xs.extend(t), t a tuple -/
section
open PySem PySem.Spec PyProof.Rows PySem.AutoSeq1 PySem.MeetsSeq
set_option maxRecDepth 8000 in
theorem list_extend_tup (l : Addr) (items : Array Value) (n : Nat) (b : Addr) (d2 : Option Addr) (sl2 : Array (Option Value)) (items2 : Array Value) (n2 : Nat) (hs0 : ¬(!items.isEmpty && Builtin.List.listTooLong (items.size + items2.size)) = true) (hs1 : items.size ≤ sizeLine) (hs2 : items.size + items2.size ≤ sizeLine + 1) :
    Meets (Builtin.«list.extend» ⟨[.ref l, .ref b], []⟩) (fun _ R s => s.heap.get? l = some { cls := .type "list", dict := none, data := .seq items n, slots := #[] } ∧ s.heap.get? b = some ⟨.type "tuple", d2, .seq items2 n2, sl2⟩ ∧ R (.ok (.ret Value.none)) { s with heap := s.heap.update l (Obj.mapSeq fun x => x ++ items2), toks := s.toks }) :=
  .of_wp fun prog w A R s h => by
    obtain ⟨hp, g, d, tk, os⟩ := s; obtain ⟨hl, hb, h⟩ := h; have f1 := PySem.AutoSeq1.idx_int; have f2 := PySem.AutoSeq1.sub_tuple_tuple; have f3 := PySem.AutoSeq1.sub_list_list; have f4 := PySem.AutoSeq1.sub_tuple_list; have f5 := PySem.AutoSeq1.sub_list_tuple;
    have hz' : (items ++ items2).size ≤ sizeLine + 1 := by rw [Array.size_append]; exact hs2
    wp_walk using (wpAny_updateSeq hl rfl (hz := hs1) (_hz' := hz')), wpAny_loadPart' hl, wpAny_loadPart' hb; exact ⟨_, rfl, h⟩
def rExtendT (K : PySem.W.Frag) : V → List V → Hp → VK → Prop := fun x vs H Q => ∃ l b xs zs, x = .ref l ∧ vs = [.ref b] ∧ H l = some (.lst xs) ∧ SqT K H b zs ∧ xs.length + zs.length ≤ sizeLine ∧ Q .non (L2.upd H l (.lst (xs ++ zs)))
theorem mt_extendT {X : Cx} : MtM X "list.extend" (rExtendT X.K) := by
  intro pins s σ H x vs v us Q I rx rv h
  obtain ⟨l, b, xs, zs, rfl, rfl, hH, hB, hz, q⟩ := h
  cases rx
  obtain ⟨u, rfl, ru⟩ := rv.one
  cases ru
  obtain ⟨z, its, n, r, hl, e⟩ := I.lstM hH
  obtain ⟨its2, r2, ⟨o2, e2, c2, n2, d2⟩, _⟩ := I.tuple hB
  obtain ⟨oc, od, oda, osl⟩ := o2
  simp only at c2 d2
  subst c2 d2
  have l2 : zs.length = its2.length := r2.length
  have hsz : its.toArray.size + its2.toArray.size ≤ sizeLine := by rw [List.size_toArray, List.size_toArray]; omega
  have hlong : ¬ (!its.toArray.isEmpty && Builtin.List.listTooLong (its.toArray.size + its2.toArray.size)) = true := by
    rw [notLongL hsz, Bool.and_false]
    exact Bool.false_ne_true
  refine call_meets PySem.F.slot_list_extend ⟨_, e, rfl⟩ PySem.F.entry_list_extend (PySem.F.args_list_extend_2 _ _)
    (list_extend_tup l its.toArray n b od osl its2.toArray n2 hlong (by rw [List.size_toArray]; omega) (by omega)) ⟨e, e2, ?_⟩
  refine ⟨.non, _, I.lset (its' := its ++ its2) hH e (by simp) (r.append r2) ?_, rfl, q⟩
  rw [List.length_append]
  omega
end
/-! ### dicts with words for keys -/
theorem room_u1 {k : Nat} {A A' : Around} (r : Room k A) (e : A'.units = A.units := by rfl) : A'.units + 1 < cLine := by have := r.un; rw [e]; omega
section
variable {K : PySem.W.Frag} {σ : L2.St} {H : Hp} {Q : VK} {v : V} {td ty tv : TE} {D : Ends}
theorem x_dget (q : td σ H fun x H1 => ty σ H1 fun y H2 => ∃ a v, x = .ref a ∧ DGet H2 a y (some v) ∧ Q v H2) : tDGet td ty σ H Q := q
theorem x_dput (q : tv σ H fun v H1 => td σ H1 fun x H2 => ty σ H2 fun y H3 => ∃ a H4, x = .ref a ∧ DPut H3 a y v H4 ∧ D.nx σ H4) : sDPut td ty tv D σ H := q
/-- d["k"] -/
theorem dget {a : Addr} {kvs : List (Key × V)} {k : Str} {P : V → Prop} (h : H a = some (.dK kvs)) (e : valV kvs (.inr k) = some v) (q : P v) : ∃ b u, V.ref a = .ref b ∧ DGet H b (.str k) (some u) ∧ P u := ⟨a, v, rfl, .inl ⟨kvs, .inr k, .inl h, rfl, e.symm⟩, q⟩
/-- d["k"] = v -/
theorem dput {a : Addr} {kvs kvs' : List (Key × V)} {k : Str} {P : Hp → Prop} (h : H a = some (.dK kvs)) (l : kvs.length < 1000) (e : putK kvs (.inr k) v = kvs') (q : ∀ H', SameX a H H' → H' a = some (.dK kvs') → P H') : ∃ b H4, V.ref a = .ref b ∧ DPut H b (.str k) v H4 ∧ P H4 :=
  ⟨a, _, rfl, .inl ⟨kvs, .inr k, h, rfl, Nat.lt_of_lt_of_le l (by decide), rfl⟩, q _ SameX.upd (by rw [e]; exact upd_same)⟩
end
section
variable {σ : L2.St} {H : Hp} {Q : VK} {Qp : List (V × V) → Hp → Prop} {tk tv : TE} {trs : List (TE × TE)}
theorem x_disp (q : ∀ p, H p = none → tPairs trs σ (upd H p (.dK [])) fun ps H2 => H2 p = some (.dK []) ∧ ∃ kvs : List (Key × V), ps = kvs.map (fun kv => (kV kv.1, kv.2)) ∧ kvs.length ≤ 15 ∧ Q (.ref p) (upd H2 p (.dK (mergeK [] kvs)))) : tDisp trs σ H Q := q
theorem x_pnil (q : Qp [] H) : tPairs [] σ H Qp := q
theorem x_pcons (q : tk σ H fun x H1 => tv σ H1 fun y H2 => tPairs trs σ H2 fun ps H3 => Qp ((x, y) :: ps) H3) : tPairs ((tk, tv) :: trs) σ H Qp := q
end
local macro_rules
  | `(tactic| w_up) => `(tactic| first | with_reducible refine x_dget ?_ | with_reducible refine x_dput ?_ | with_reducible refine x_disp ?_ | with_reducible refine x_pcons ?_ | with_reducible refine x_pnil ?_ | with_reducible refine x_setp ?_ | with_reducible refine dget (by assumption) (by with_unfolding_all exact rfl) ?_)
/-! ### slices of a list or a tuple; extended by either -/
section
open PySem.Spec PyProof.Rows
def SeqN (K : PySem.W.Frag) (H : Hp) (a : Addr) (xs : List V) : Prop := H a = some (.lst xs) ∨ SqT K H a xs
def rSlQ (K : PySem.W.Frag) : V → Option Int → Option Int → Hp → VK → Prop := fun x lo hi H Q => rSlL K x lo hi H Q ∨ L2.rSlA K x lo hi H Q
theorem sl_seqQ {X : Cx} : SlR X (rSlQ X.K) := by
  exact SlR.or sl_list sl_tupA
def rExtA (K : PySem.W.Frag) : V → List V → Hp → VK → Prop := fun x vs H Q => rExtend x vs H Q ∨ rExtendT K x vs H Q
theorem mt_extendA {X : Cx} : MtM X "list.extend" (rExtA X.K) := by
  intro pins s σ H x vs v us Q I rx rv h
  rcases h with h | h
  · exact mt_extend pins s σ H x vs v us Q I rx rv h
  · exact mt_extendT pins s σ H x vs v us Q I rx rv h
theorem sliceA {K : PySem.W.Frag} {H : Hp} {Q : VK} {a : Addr} {xs : List V} {lo hi : Option Int} (h : SeqA K H a xs) (q : ∀ l H', Same H H' → SeqN K H' l (cutV xs lo hi) → Q (.ref l) H') : rSlQ K (.ref a) lo hi H Q := by
  rcases h with h | h
  · exact .inl ⟨a, xs, rfl, h, fun l hl => q l _ (Same.new hl) (.inl upd_same)⟩
  · refine .inr ⟨a, xs, rfl, h, fun z => q a H (Same.refl H) (.inr ?_), fun _ l hl => q l _ (Same.new hl) (.inr (SqT.of upd_same))⟩
    have e : cutV xs lo hi = xs := by
      unfold cutV
      rw [z.1, z.2, List.drop_zero, Nat.sub_zero, List.take_length]
    rw [e]
    exact h
theorem extA {K : PySem.W.Frag} {H : Hp} {Q : VK} {a b : Addr} {xs zs : List V} (ha : H a = some (.lst xs)) (hb : SeqN K H b zs) (h : xs.length + zs.length ≤ 100000) (q : ∀ H', SameX a H H' → H' a = some (.lst (xs ++ zs)) → Q .non H') : rExtA K (.ref a) [.ref b] H Q := by
  rcases hb with hb | hb
  · exact .inl ⟨a, b, xs, zs, rfl, rfl, ha, hb, Nat.le_trans h (by decide), q _ SameX.upd upd_same⟩
  · exact .inr ⟨a, b, xs, zs, rfl, rfl, ha, hb, Nat.le_trans h (by decide), q _ SameX.upd upd_same⟩
end
/-- for x in a list or a tuple -/
theorem forSeq {K : PySem.W.Frag} {a : Addr} {xs : List V} {te : TE} {g : TG} {ts : TS} {D : Ends} {σ : L2.St} {H : Hp} (hte : ∀ R : VK, R (.ref a) H → te σ H R) (hS : SeqA K H a xs) (Pv : Nat → L2.St → Hp → Prop) (h0 : Pv 0 σ H) (hk : ∀ i σ H', Pv i σ H' → ∀ o, H a = some o → H' a = some o)
    (hs : ∀ i x σ H, xs[i]? = some x → Pv i σ H → g x σ H fun σ2 H2 => ts { D with nx := Pv (i + 1), ct := Pv (i + 1), bk := D.nx } σ2 H2) (hd : ∀ σ H, Pv xs.length σ H → D.nx σ H) : tFor (iOr (iList K te) (iTup K te)) g ts D σ H := by
  rcases hS with hS | hS
  · exact .inl (hte _ ⟨a, rfl, ⟨_, hS⟩, for_list Pv h0 (fun i σ H' _ p => sqL_at hS (hk i σ H' p)) hs hd⟩)
  · exact .inr (hte _ ⟨a, rfl, ⟨_, hS⟩, for_tup Pv h0 (fun i σ H' _ p => sqT_at hS (hk i σ H' p)) hs hd⟩)
/-! ### a generator's body that walks: for x in xs: .. yield .. -/
section
open PySem.Spec PyProof.Rows GenW
variable {X : Cx}
def tGFor (wi : TI) (g : TG) (tb : TGn) : TGn := fun D ys σ H => wi σ H fun J H1 => ∃ W : Nat → Nat → List V → L2.St → Hp → Prop, (∃ m, W 0 m ys σ H1) ∧ ∀ i m zs σ2 H2, W i m zs σ2 H2 →
  (J.stop i H2 ∧ D.nx zs σ2 H2) ∨ (J.go i H2 ∧ ∃ N : List V → L2.St → Hp → Prop, (∀ zs' σ' H', N zs' σ' H' → ∃ m', m' < m ∧ W (i + 1) m' zs' σ' H') ∧ ∀ x H3, J.yld i H2 x H3 → g x σ2 H3 fun σ4 H4 => tb { D with nx := N, ct := N, bk := D.nx } zs σ4 H4)
/-- one turn of a for's code, amid a generator -/
theorem turn_for {prog : Program} {w : World} {A : Around} {R : GenEnd} {Y : Protocol} {n : Nat} {s₀ s : Shared} {fs : List Frame} {env : Env} {tg : Expr} {it : Value} {body : List Stmt}
    (h : wpAny (model prog w) (A.over (.forLoop tg it body [] env) fs) (pyNext it) (fun r s1 => match r with
        | none => Seg (model prog w) A R Y n s₀ (.block [] env) (.pure (.done .next)) fs s1
        | some v => wpAny (model prog w) (A.over (.forLoop tg it body [] env) fs) (letOwnedTupleGo tg it v) (fun _ s2 => wpAny (model prog w) (A.over (.forLoop tg it body [] env) fs) (assign tg env v) (fun _ s3 =>
            Seg (model prog w) A R Y n s₀ (.forLoop tg it body [] env) ((execs body env).wrap (fun f => match f with
              | .brk => .pure (.done .next)
              | .ret v => .pure (.done (.ret v))
              | _ => .pure (.again (.forLoop tg it body [] env))) (fun e => (noteFrame e env >>= fun _ => theTreesLotGoes e : Sem Unit).wrap (fun _ => .raise e) .raise id id) id id) fs s3)
            (fun x s' => Seg (model prog w) A R Y n s₀ (.forLoop tg it body [] env) ((noteFrame x env >>= fun _ => theTreesLotGoes x : Sem Unit).wrap (fun _ => .raise x) .raise id id) fs s') s2)
          (fun x s' => Seg (model prog w) A R Y n s₀ (.forLoop tg it body [] env) ((noteFrame x env >>= fun _ => theTreesLotGoes x : Sem Unit).wrap (fun _ => .raise x) .raise id id) fs s') s1)
      (fun x s' => Seg (model prog w) A R Y n s₀ (.forLoop tg it body [] env) ((noteFrame x env >>= fun _ => theTreesLotGoes x : Sem Unit).wrap (fun _ => .raise x) .raise id id) fs s') s) :
    Seg (model prog w) A R Y n s₀ (.forLoop tg it body [] env) ((model prog w).den (.forLoop tg it body [] env)) fs s := by
  show Seg _ A R Y n s₀ _ ((forTurn tg it body [] env).onRaise (fun x => noteFrame x env >>= fun _ => theTreesLotGoes x)) fs s
  unfold forTurn
  rw [Sem.onRaise_eq_wrap]
  refine seg_bind_wrap (wpAny_standAt ?_)
  refine seg_bind_wrap (wpAny_onRaise (wpAny_mono h (fun r s1 h1 => ?_) fun x s' hx => wpAny_standAt ?_))
  · cases r with
    | none =>
      show Seg _ A R Y n s₀ _ (.pure (.again (.block [] env))) fs s1
      exact seg_again rfl h1
    | some v =>
      show Seg _ A R Y n s₀ _ (Sem.wrap _ _ _ _ (letOwnedTupleGo tg it v >>= fun _ => assign tg env v >>= fun _ => execs body env >>= fun f => match f with | .next | .cont => again (.forLoop tg it body [] env) | .brk => pure (.done .next) | .ret v => pure (.done (.ret v)))) fs s1
      refine seg_bind_wrap (wpAny_mono h1 (fun _ s2 h2 => ?_) fun x s' hx => by rw [← Sem.bind_eq_wrap] at hx; exact hx)
      refine seg_bind_wrap (wpAny_mono h2 (fun _ s3 h3 => ?_) fun x s' hx => by rw [← Sem.bind_eq_wrap] at hx; exact hx)
      rw [Sem.bind_eq_wrap', Sem.wrap_wrap]
      refine cast (congrArg (fun t => Seg (model prog w) A R Y n s₀ (.forLoop tg it body [] env) t fs s3) ?_) h3
      refine Sem.wrap_congr (execs body env) _ _ (fun f => ?_) fun e => ?_
      · cases f <;> rfl
      · rw [← Sem.bind_eq_wrap] <;> rfl
  · rw [← Sem.bind_eq_wrap] at hx
    exact hx
theorem gs_for {tg iter : Expr} {body : List Stmt} {wi : TI} {g : TG} {tb : TGn} {pos : Pos} (own : PassesOwn (model X.prog X.w) X.A X.env X.xe) (calm : X.calm = true) (hi : PI X tg iter wi) (hg : PG X tg g) (hb : GSs X body tb)
    (fold : ∀ x, foldedSetIterable iter X.env x = pure x := by intro _; rfl) : GS X (.For tg iter body [] pos) (tGFor wi g tb) := by
  refine ⟨fun A S ip R n ys s₀ c fs K J gd lv s σ H D gc hn k hI want => ?_⟩
  rw [exec_For]
  refine seg_bind_wrap (wpAny_standAt ?_)
  obtain ⟨acc, cc, r, I⟩ := hI
  refine seg_bind_wrap ?_
  rw [gc.over]
  refine wpAny_mono (hi.run _ s σ H _ I want) (fun v s1 h1 => ?_) fun x t hx => k.exc n s₀ x t hx
  refine seg_bind_wrap (wpAny_of_eq (fold v) ?_)
  refine seg_bind_wrap (wpAny_standAt ?_)
  refine seg_bind_wrap (wpAny_holding ?_)
  rw [gc.over]
  refine wpAny_mono h1 (fun itv s2 h2 => ?_) fun x t hx => k.exc n s₀ x t hx
  obtain ⟨it, fp, tn, Jt, H2, rfl, I2, T, st2, f2, W, ⟨m0, w0⟩, turn⟩ := h2
  refine seg_call fun p => ?_
  have gl := fun (kk : Result → Sem PySem.Fin) => gc_loop (k := kk) (c' := .forLoop tg (.ref it) body [] X.env) (l := lv []) (kp := []) (p := p) gc rfl rfl
  have away : ∀ b ∈ fp, b ≠ S := fun b hb' e => (f2 b hb').2.2.2.2.2 (S, lstObj acc cc) (List.mem_append_right _ List.mem_cons_self) e.symm
  have stat : ∀ {ac : Array Value} {ca : Nat} {H' : Hp}, (∀ b ∈ fp, H' b = none) → ∀ b ∈ fp, FpOk X ((S, lstObj ac ca) :: ip) H' b := fun hz b hb' => by
    obtain ⟨_, x1, x2, x3, x4, x5⟩ := f2 b hb'
    refine ⟨hz b hb', x1, x2, x3, x4, fun q hq => ?_⟩
    rcases List.mem_append.mp hq with z | z
    · exact x5 q (List.mem_append_left _ z)
    · rcases List.mem_cons.mp z with z | z
      · rw [z]
        exact fun e => away b hb' e.symm
      · exact x5 q (List.mem_append_right _ (List.mem_cons_of_mem _ z))
  have main : ∀ (m i n : Nat) (zs : List V) (t₀ t : Shared) (τ : L2.St) (G : Hp), n + zs.length = sizeLine → W i m zs τ G → GI X S ip zs τ G t → tn i t.heap → (∀ b ∈ fp, G b = none) →
      Seg (model X.prog X.w) A R (GY X S) n t₀ (.forLoop tg (.ref it) body [] X.env) ((model X.prog X.w).den (.forLoop tg (.ref it) body [] X.env))
        (.ret (fun r => ((match r with | .ok f => (.pure f : Sem Flow) | .error e => .raise e).onRaise (cameBack X.env)).wrap K J gd lv) none (gd false) (lv []) c p [] :: fs) t := by
    intro m
    induction m using Nat.strongRecOn with
    | ind m ih =>
      intro i n zs t₀ t τ G hz w hG st fr
      have out : ∀ (n : Nat) (t₀ : Shared) (x : Value) (t' : Shared), X.xe x t' → Seg (model X.prog X.w) A R (GY X S) n t₀ (.forLoop tg (.ref it) body [] X.env)
          ((noteFrame x X.env >>= fun _ => theTreesLotGoes x : Sem Unit).wrap (fun _ => .raise x) .raise id id)
          (.ret (fun r => ((match r with | .ok f => (.pure f : Sem Flow) | .error e => .raise e).onRaise (cameBack X.env)).wrap K J gd lv) none (gd false) (lv []) c p [] :: fs) t' := fun n t₀ x t' hx => by
        refine seg_wrap ?_
        rw [(gl _).over]
        refine wpAny_bind (wpAny_mono (own x t' hx) (fun _ t2 back => wpAny_theTreesLotGoes (seg_leaf (.error x) (seg_cameBack gc k back))) fun y t2 back => seg_leaf (.error y) (seg_cameBack gc k back))
      refine turn_for ?_
      rw [(gl _).over]
      obtain ⟨ac, ca, ra, IG⟩ := hG
      rcases turn i m zs τ G w with ⟨stop, qn⟩ | ⟨go, N, hN, step⟩
      · refine wpAny_mono (T.done X rfl rfl rfl calm i _ t τ G X.xe IG (stat fr) st stop) (fun r' t4 ⟨e4, I4⟩ => ?_) fun x t' hx => out n t₀ x t' hx
        subst e4
        exact seg_leaf (.ok .next) (k.ok n zs t₀ t4 .next hz ⟨τ, G, ⟨ac, ca, ra, I4⟩, qn⟩)
      · refine wpAny_mono (T.item X rfl rfl rfl calm i _ t τ G X.xe IG (stat fr) st go) (fun r' t4 ⟨u, e4, h4⟩ => ?_) fun x t' hx => out n t₀ x t' hx
        subst e4
        refine wpAny_mono h4 (fun _ t5 ⟨x, H5, I5, r5, y5, st5, fr5⟩ => ?_) fun x t' hx => out n t₀ x t' hx
        have I5' := I5.pinned (stat fr5) (T.obj _ _ st5)
        refine wpAny_mono (hg.run _ t5 τ H5 x u _ I5' r5 (step x H5 y5)) (fun _ t6 ⟨σ6, H6, I6, q6⟩ => ?_) fun x t' hx => out n t₀ x t' hx
        have gi : ∀ q ∈ ip ++ pinsAt fp t5.heap, q.1 ≠ S := fun q hq => (List.mem_append.mp hq).elim (fun z => gc.ip q z) fun z => away _ (of_pinsAt z).1
        have fin : ∀ {zs' : List V} {σ7 : L2.St} {H7 : Hp} {t7 : Shared}, GI X S (ip ++ pinsAt fp t5.heap) zs' σ7 H7 t7 → GI X S ip zs' σ7 H7 t7 ∧ tn (i + 1) t7.heap ∧ ∀ b ∈ fp, H7 b = none := fun {zs' σ7 H7 t7} hG7 => by
          obtain ⟨a7, c7, r7, I7⟩ := hG7
          have pin : ∀ b ∈ fp, ∀ o, t5.heap.get? b = some o → t7.heap.get? b = some o ∧ H7 b = none := fun b hb' o e => by
            have z := I7.pin (b, o) (List.mem_append_right _ (List.mem_cons_of_mem _ (List.mem_append_right _ (mem_pinsAt hb' e))))
            exact ⟨z.1, z.2.1⟩
          refine ⟨⟨a7, c7, r7, Inv.unpinned (pins := (S, lstObj a7 c7) :: ip) (pl := pinsAt fp t5.heap) I7⟩, T.keep _ _ _ st5 fun b hb' o e => (pin b hb' o e).1, fun b hb' => ?_⟩
          obtain ⟨o, e, _⟩ := T.obj _ _ st5 b hb'
          exact (pin b hb' o e).2
        refine hb.run A S (ip ++ pinsAt fp t5.heap) R n zs t₀ _ _ _ _ id id t6 σ6 H6 _ ⟨gc.pn, gi, gc.apart, (gl _).over, (gl _).split, (gl _).guard, rfl⟩ hz ⟨fun n' zs' t₀' t7 f hn' hs => ?_, fun n' t₀' x t' hx => out n' t₀' x t' hx⟩ ⟨ac, ca, ra, I6⟩ q6
        cases f with
        | next =>
          obtain ⟨σ7, H7, G7, n7⟩ := hs
          obtain ⟨m', hm, w7⟩ := hN zs' σ7 H7 n7
          obtain ⟨g7, st7, fr7⟩ := fin G7
          exact seg_again rfl (ih m' hm (i + 1) n' zs' t₀' t7 σ7 H7 hn' w7 g7 st7 fr7)
        | cont =>
          obtain ⟨σ7, H7, G7, n7⟩ := hs
          obtain ⟨m', hm, w7⟩ := hN zs' σ7 H7 n7
          obtain ⟨g7, st7, fr7⟩ := fin G7
          exact seg_again rfl (ih m' hm (i + 1) n' zs' t₀' t7 σ7 H7 hn' w7 g7 st7 fr7)
        | brk =>
          obtain ⟨σ7, H7, G7, q7⟩ := hs
          exact seg_leaf (.ok .next) (k.ok n' zs' t₀' t7 .next hn' ⟨σ7, H7, (fin G7).1, q7⟩)
        | ret v =>
          obtain ⟨v7, σ7, H7, G7, r7, q7⟩ := hs
          exact seg_leaf (.ok (.ret v)) (k.ok n' zs' t₀' t7 (.ret v) hn' ⟨v7, σ7, H7, (fin G7).1, r7, q7⟩)
  exact main m0 0 n ys s₀ s2 σ H2 hn w0 ⟨acc, cc, r, I2⟩ st2 fun b hb' => (f2 b hb').1
theorem x_gthen {t u : TGn} {D : GEnds} {ys : List V} {σ : L2.St} {H : Hp} (q : t { D with nx := fun ys' σ' H' => u D ys' σ' H' } ys σ H) : tGThen t u D ys σ H := q
theorem x_g00 {D : GEnds} {ys : List V} {σ : L2.St} {H : Hp} (q : D.nx ys σ H) : tG0 D ys σ H := q
theorem x_gyield {te : TE} {D : GEnds} {ys : List V} {σ : L2.St} {H : Hp} (z : ys.length < 100000) (q : te σ H fun x H1 => D.nx (ys ++ [x]) σ H1) : tGYield te D ys σ H := ⟨Nat.lt_of_lt_of_le z (by decide), q⟩
def gforK (J : It) (g : TG) (tb : TGn) (D : GEnds) (ys : List V) (σ : L2.St) (H1 : Hp) : Prop := ∃ W : Nat → Nat → List V → L2.St → Hp → Prop, (∃ m, W 0 m ys σ H1) ∧ ∀ i m zs σ2 H2, W i m zs σ2 H2 →
  (J.stop i H2 ∧ D.nx zs σ2 H2) ∨ (J.go i H2 ∧ ∃ N : List V → L2.St → Hp → Prop, (∀ zs' σ' H', N zs' σ' H' → ∃ m', m' < m ∧ W (i + 1) m' zs' σ' H') ∧ ∀ x H3, J.yld i H2 x H3 → g x σ2 H3 fun σ4 H4 => tb { D with nx := N, ct := N, bk := D.nx } zs σ4 H4)
theorem x_gfor {K : PySem.W.Frag} {te : TE} {g : TG} {tb : TGn} {D : GEnds} {ys : List V} {σ : L2.St} {H : Hp} (q : te σ H fun x H1 => ∃ a, x = .ref a ∧ (∃ xs, SqL K H1 a xs) ∧ gforK (Itl K a) g tb D ys σ H1) : tGFor (iList K te) g tb D ys σ H := q
/-- over a list that stands -/
theorem gfor_list {K : PySem.W.Frag} {a : Addr} {xs : List V} {g : TG} {tb : TGn} {D : GEnds} {ys : List V} {σ : L2.St} {H : Hp} (Pv : Nat → List V → L2.St → Hp → Prop) (p0 : Pv 0 ys σ H) (hl : ∀ i zs σ' H', Pv i zs σ' H' → SqL K H' a xs)
    (hs : ∀ i v zs σ' H', xs[i]? = some v → Pv i zs σ' H' → g v σ' H' fun σ2 H2 => tb { D with nx := Pv (i + 1), ct := Pv (i + 1), bk := D.nx } zs σ2 H2) (hd : ∀ zs σ' H', Pv xs.length zs σ' H' → D.nx zs σ' H') : gforK (Itl K a) g tb D ys σ H := by
  refine ⟨fun i m zs σ' H' => m = xs.length - i ∧ i ≤ xs.length ∧ Pv i zs σ' H', ⟨_, rfl, Nat.zero_le _, p0⟩, ?_⟩
  rintro i m zs σ' H' ⟨rfl, hi, p⟩
  have q := hl i zs σ' H' p
  by_cases z : i < xs.length
  · obtain ⟨v, hv⟩ : ∃ v, xs[i]? = some v := ⟨_, List.getElem?_eq_getElem z⟩
    refine .inr ⟨⟨xs, v, q, hv⟩, Pv (i + 1), fun zs2 σ2 H2 p2 => ⟨_, by omega, rfl, z, p2⟩, ?_⟩
    rintro x H3 ⟨rfl, hx⟩
    have e := (hx xs q).symm.trans hv
    cases e
    exact hs i v zs σ' _ hv p
  · have e : i = xs.length := by omega
    subst e
    exact .inl ⟨⟨xs, q, Nat.le_refl _⟩, hd zs σ' H' p⟩
/-- a generator def by its body -/
theorem gen_fn {P : Program} {w : World} {K : PySem.W.Frag} {mg : Str → Option Value} {base : Heap} {x qual : Str} {st : Stmt} {f : Addr} {fd : FuncData} {N ps : List Str} {k : Nat} {sp : SpG} (F : Fun K x qual st f fd) (S : GScope N ps (defScope st))
    (cnt : ∀ vs H Q E, sp vs H Q E → vs.length = ps.length)
    (bod : ∀ (cdv : Value) (A : Around) (outer : List Env) (s : Shared) (H : Hp) (vs : List V) (Q : List V → Hp → Prop) (E : XK) (pn : List (Addr × Obj)), Room k (A.deeper (envOfC qual (defScope st) s.heap.objs.size f cdv)) → sp vs H Q E →
      ∃ t, GSs (gcxOf P w K mg base N qual (defScope st) f cdv A outer s H E pn) (defBody st) t ∧ t { nx := fun ys _ H' => Q ys H', rt := fun ys v H' => v = .non ∧ Q ys H' } [] (L2.start N vs) H) : GFn P w K mg base (k + 1) f fd ps sp := by
  obtain ⟨oc, od, kV, doc, pm, an, cdv, ct, osl, rfl, lk, hcd⟩ := F.ex
  exact gfn_of lk hcd S cnt fun A outer s H vs Q E pn hr h => bod cdv A outer s H vs Q E pn hr h
end
/-! ### the outbox -/
abbrev sp_NotAllowed_init_ (K : PySem.W.Frag) : Sp := sp_xinit K "state"
theorem ok_NotAllowed_init_ (T : Txt K mg) : FnOk P w K mg base CX0 1 T.a_NotAllowed_init_ T.fd_NotAllowed_init_ ["self", "state"] (sp_NotAllowed_init_ K) := by
  have S := sc_NotAllowed_init_
  refine T.F_NotAllowed_init_.ok S (fun vs H Q E h => ?_) (fun cdv A outer s H vs Q E hr h => ?_)
  · obtain ⟨a, C, v, rfl, _⟩ := h
    rfl
  · obtain ⟨a, C, v, rfl, O, hn, ha, k⟩ := h
    refine ⟨_, (pss_one (ps_ost (pv 0) (pv 1))), ?_⟩
    exact ⟨_, rfl, _, rfl, a, C, rfl, O, hn, .inl ⟨ha, k⟩⟩
/-! ### bytes, data, limits -/
theorem Err.same {C : Addr} {f : Str} {v : V} {H H' : Hp} {E : XK} (h : Err C f v H E) (s : Same H H') : Err C f v H' E := fun d H1 s1 e => h d H1 (s.trans s1) e
def sp_is_byte (K : PySem.W.Frag) : Sp := fun vs H Q _ => ∃ (x : V), vs = [x] ∧ ((∃ n, x = .int n ∧ 0 ≤ n ∧ n ≤ 255 ∧ Q (.bl true) H) ∨ (Out K H x 0 255 ∧ Q (.bl false) H))
theorem ok_is_byte (T : Txt K mg) : FnOk P w K mg base CX0 3 T.a_is_byte T.fd_is_byte ["value"] (sp_is_byte K) := by
  have S := sc_is_byte
  refine T.F_is_byte.ok S (fun vs H Q E h => ?_) (fun cdv A outer s H vs Q E hr h => ?_)
  · obtain ⟨x, rfl, _⟩ := h
    rfl
  · obtain ⟨x, rfl, h⟩ := h
    refine ⟨_, (pss_one (ps_ret (pe_call (ok_is_between T) (hr.mono (by decide)) rfl T.g_is_between T.F_is_between.kp T.B_is_between .nil pass0 (pa_cons (pv 0) (pa_cons pe_int (pa_cons pe_int pa_nil)))))), ?_⟩
    refine st_is_byte ?_
    o_args
    rcases h with ⟨n, rfl, h0, h1, k⟩ | ⟨ho, k⟩
    · refine in_between h0 h1 ?_
      o_args
      exact k
    · refine out_between ho ?_
      o_args
      exact k
def sp_require_limit (K : PySem.W.Frag) (Ce : Addr) : Sp := fun vs H Q E => ∃ (x : V), vs = [x] ∧ ((∃ n, x = .int n ∧ 1 ≤ n ∧ n ≤ 65535 ∧ Q .non H) ∨ (Out K H x 1 65535 ∧ Err Ce "setting" (.str "limit") H E))
theorem ok_require_limit (T : Txt K mg) : FnOk P w K mg base (L2.CX P w) 3 T.a_require_limit T.fd_require_limit ["limit"] (sp_require_limit K T.c_InvalidSetting) := by
  have S := sc_require_limit
  refine T.F_require_limit.okX S (fun vs H Q E h => ?_) (fun cdv A outer s H vs Q E hr h => ?_)
  · obtain ⟨x, rfl, _⟩ := h
    rfl
  · obtain ⟨x, rfl, h⟩ := h
    refine ⟨_, (pss_one (ps_if (pt_not (pt_val (pe_call (ok_is_between T) (hr.mono (by decide)) rfl T.g_is_between T.F_is_between.kp T.B_is_between .nil pass0 (pa_cons (pv 0) (pa_cons pe_int (pa_cons pe_int pa_nil)))))) (pss_one (ps_raise rfl (takes_of rfl rfl rfl rfl) (pmk_oex T.X_InvalidSetting.o T.X_InvalidSetting.i T.X_InvalidSetting.t (ok_InvalidSetting_init_ T) (hr.mono (by decide)) T.B_InvalidSetting_init_ .nil pass0 rfl T.X_InvalidSetting.g (pa_cons pe_str pa_nil)))) pss_nil)), ?_⟩
    refine st_require_limit ?_
    o_args
    rcases h with ⟨n, rfl, h0, h1, k⟩ | ⟨ho, hE⟩
    · refine in_between h0 h1 ?_
      o_args
      exact k
    · refine out_between ho ?_
      o_args
      exact mkO_of T.X_InvalidSetting.o T.nX_InvalidSetting fun d H1 nd ss hx => hE d H1 ss hx
/-- what require_data is told: bytes, no sequence, or a sequence whose first item that is no byte is y -/
def Bytes (ns : List Int) : Prop := ∀ n ∈ ns, 0 ≤ n ∧ n ≤ 255
def DataSp (K : PySem.W.Frag) (Ce : Addr) (x : V) (H : Hp) (E : XK) (P : List Int → Prop) : Prop :=
  (∃ a ns, x = .ref a ∧ SeqA K H a (ns.map V.int) ∧ Bytes ns ∧ ns.length ≤ 1000 ∧ P ns) ∨ (SeqK K H x false ∧ Err Ce "number" x H E) ∨
  (∃ a ns y zs, x = .ref a ∧ SeqA K H a (ns.map V.int ++ y :: zs) ∧ Bytes ns ∧ Out K H y 0 255 ∧ Err Ce "number" y H E)
theorem DataSp.mono {K : PySem.W.Frag} {Ce : Addr} {x : V} {H : Hp} {E E' : XK} {P P' : List Int → Prop} (h : DataSp K Ce x H E P) (hp : ∀ ns, P ns → P' ns) (he : ∀ a b c, E a b c → E' a b c) : DataSp K Ce x H E' P' := by
  rcases h with ⟨a, ns, h1, h2, h3, h4, h5⟩ | ⟨h1, h2⟩ | ⟨a, ns, y, zs, h1, h2, h3, h4, h5⟩
  · exact .inl ⟨a, ns, h1, h2, h3, h4, hp _ h5⟩
  · exact .inr (.inl ⟨h1, fun d H' s e => he _ _ _ (h2 d H' s e)⟩)
  · exact .inr (.inr ⟨a, ns, y, zs, h1, h2, h3, h4, fun d H' s e => he _ _ _ (h5 d H' s e)⟩)
theorem SeqK.same {K : PySem.W.Frag} {H H' : Hp} {x : V} {r : Bool} (h : SeqK K H x r) (s : Same H H') : SeqK K H' x r := h.elim fun t h => ⟨t, tyX_same h.1 s, h.2⟩
def sp_require_data (K : PySem.W.Frag) (Ce : Addr) : Sp := fun vs H Q E => ∃ (x : V), vs = [x] ∧ DataSp K Ce x H E (fun _ => ∀ H', Same H H' → Q .non H')
theorem ok_require_data (T : Txt K mg) : FnOk P w K mg base (L2.CX P w) 4 T.a_require_data T.fd_require_data ["data"] (sp_require_data K T.c_InvalidNumber) := by
  have S := sc_require_data
  refine T.F_require_data.okX S (fun vs H Q E h => ?_) (fun cdv A outer s H vs Q E hr h => ?_)
  · obtain ⟨x, rfl, _⟩ := h
    rfl
  · obtain ⟨x, rfl, h⟩ := h
    refine ⟨_, (pss_cons (ps_if (pt_not (pt_val (pe_call (ok_is_sequence T) (hr.mono (by decide)) rfl T.g_is_sequence T.F_is_sequence.kp T.B_is_sequence .nil pass0 (pa_cons (pv 0) pa_nil)))) (pss_one (ps_raise rfl (takes_of rfl rfl rfl rfl) (pmk_oex T.X_InvalidNumber.o T.X_InvalidNumber.i T.X_InvalidNumber.t (ok_InvalidNumber_init_ T) (hr.mono (by decide)) T.B_InvalidNumber_init_ .nil pass0 rfl T.X_InvalidNumber.g (pa_cons (pv 0) pa_nil)))) pss_nil)
      (pss_one (ps_for (passes_of rfl) rfl (pi_seqA (pv 0)) (pg_name (i := 1) S.nd rfl (Or.inl rfl)) (pss_one (ps_if (pt_not (pt_val (pe_call (ok_is_byte T) (hr.mono (by decide)) rfl T.g_is_byte T.F_is_byte.kp T.B_is_byte .nil pass0 (pa_cons (pv 1) pa_nil)))) (pss_one (ps_raise rfl (takes_of rfl rfl rfl rfl) (pmk_oex T.X_InvalidNumber.o T.X_InvalidNumber.i T.X_InvalidNumber.t (ok_InvalidNumber_init_ T) (hr.mono (by decide)) T.B_InvalidNumber_init_ .nil pass0 rfl T.X_InvalidNumber.g (pa_cons (pv 1) pa_nil)))) pss_nil))))), ?_⟩
    refine st_require_data ?_
    o_args
    rcases h with ⟨a, ns, rfl, hA, hb, hl, k⟩ | ⟨hk, hE⟩ | ⟨a, ns, y, zs, rfl, hA, hb, ho, hE⟩
    · refine ⟨_, true, rfl, seqK_of hA, fun H1 s1 => ?_⟩
      o_args
      refine forSeq (fun R q => ⟨_, rfl, q⟩) (hA.sm s1) (fun i σ H' => (∃ z, σ = [some (.ref a), z]) ∧ Same H1 H') ⟨⟨none, rfl⟩, Same.refl H1⟩ (fun i σ H' h o e => h.2 _ _ e) (fun i x σ H' hi h => ?_) (fun σ H' h => ?_)
      · obtain ⟨⟨z, rfl⟩, s⟩ := h
        rw [List.getElem?_map] at hi
        obtain ⟨n, en, rfl⟩ := Option.map_eq_some_iff.mp hi
        obtain ⟨b0, b1⟩ := hb n (List.mem_of_getElem? en)
        o_args
        refine ⟨_, rfl, .inl ⟨n, rfl, b0, b1, ?_⟩⟩
        o_args
        exact ⟨⟨_, rfl⟩, s⟩
      · obtain ⟨⟨z, rfl⟩, s⟩ := h
        o_args
        exact k _ (s1.trans s)
    · refine ⟨_, false, rfl, hk, fun H1 s1 => ?_⟩
      o_args
      exact ⟨_, rfl, mkO_of T.X_InvalidNumber.o T.nX_InvalidNumber fun d H2 nd ss hx => hE d H2 (s1.trans ss) hx⟩
    · refine ⟨_, true, rfl, seqK_of hA, fun H1 s1 => ?_⟩
      o_args
      refine forSeq (fun R q => ⟨_, rfl, q⟩) (hA.sm s1) (fun i σ H' => i ≤ ns.length ∧ (∃ z, σ = [some (.ref a), z]) ∧ Same H1 H') ⟨Nat.zero_le _, ⟨none, rfl⟩, Same.refl H1⟩ (fun i σ H' h o e => h.2.2 _ _ e) (fun i x σ H' hi h => ?_) (fun σ H' h => ?_)
      · obtain ⟨il, ⟨z, rfl⟩, s⟩ := h
        by_cases q : i < ns.length
        · rw [List.getElem?_append_left (by rw [List.length_map]; exact q), List.getElem?_map] at hi
          obtain ⟨n, en, rfl⟩ := Option.map_eq_some_iff.mp hi
          obtain ⟨b0, b1⟩ := hb n (List.mem_of_getElem? en)
          o_args
          refine ⟨_, rfl, .inl ⟨n, rfl, b0, b1, ?_⟩⟩
          o_args
          exact ⟨q, ⟨_, rfl⟩, s⟩
        · have e : i = ns.length := by omega
          subst e
          rw [List.getElem?_append_right (by rw [List.length_map]; exact Nat.le_refl _), List.length_map, Nat.sub_self] at hi
          cases hi
          o_args
          refine ⟨_, rfl, .inr ⟨ho.same (s1.trans s), ?_⟩⟩
          o_args
          exact ⟨_, rfl, mkO_of T.X_InvalidNumber.o T.nX_InvalidNumber fun d H2 nd ss hx => hE d H2 ((s1.trans s).trans ss) hx⟩
      · obtain ⟨il, _⟩ := h
        rw [List.length_append, List.length_map, List.length_cons] at il
        omega
/-! ### the outbox's object: the limit, all that was ever put, the base, whether it is closed, the urgent end -/
structure Bx where
  lim : Int
  con : List Int
  base : Nat
  closed : Bool
  urg : Int
structure Bx.ok (B : Bx) : Prop where
  l1 : 1 ≤ B.lim
  l2 : B.lim ≤ 65535
  b1 : 1 ≤ B.base
  b2 : B.base ≤ B.con.length + 1
  sz : B.con.length ≤ 50000
def Bx.kept (B : Bx) : List Int := B.con.drop (B.base - 1)
def Bx.fs (B : Bx) (l : Addr) : List (Str × V) := [("_limit", .int B.lim), ("base", .int B.base), ("end", .int (1 + B.con.length)), ("closed", .bl B.closed), ("urgent_end", .int B.urg), ("_kept", .ref l)]
def OutAt (C : Addr) (H : Hp) (p l : Addr) (B : Bx) : Prop := (∃ dx, H p = some (.ins C dx (B.fs l))) ∧ H l = some (.lst (B.kept.map V.int)) ∧ B.ok
section
variable {C p l : Addr} {H H' : Hp} {B : Bx} {G : List Addr}
theorem OutAt.same (h : OutAt C H p l B) (s : Same H H') : OutAt C H' p l B := ⟨h.1.elim fun dx h => ⟨dx, s _ _ h⟩, s _ _ h.2.1, h.2.2⟩
theorem OutAt.ch (h : OutAt C H p l B) (s : Ch G H H') (n : p ∉ G) (m : l ∉ G) : OutAt C H' p l B := ⟨h.1.elim fun dx h => ⟨dx, s.at n h⟩, s.at m h.2.1, h.2.2⟩
theorem OutAt.ne (h : OutAt C H p l B) : l ≠ p := fun e => by
  obtain ⟨⟨dx, h1⟩, h2, _⟩ := h
  rw [e, h1] at h2
  cases h2
end
def Bx.spare (B : Bx) : Int := max 0 (B.lim - (1 + B.con.length - B.base))
def Bx.many (B : Bx) (ns : List Int) : Int := min B.spare ns.length
def Bx.add (B : Bx) (ns : List Int) : Bx := { B with con := B.con ++ ns.take (B.many ns).toNat }
def Bx.urge (B : Bx) (ns : List Int) : Bx := { B.add ns with urg := if 0 < B.many ns then 1 + (B.add ns).con.length else B.urg }
theorem Bx.many0 (B : Bx) (ns : List Int) : 0 ≤ B.many ns ∧ B.many ns ≤ ns.length := by
  unfold Bx.many Bx.spare
  omega
theorem Bx.add_len (B : Bx) (ns : List Int) : ((B.add ns).con.length : Int) = B.con.length + B.many ns := by
  have := B.many0 ns
  show ((B.con ++ ns.take (B.many ns).toNat).length : Int) = _
  rw [List.length_append, List.length_take]
  omega
theorem Bx.add_kept (B : Bx) (ns : List Int) (h : B.ok) : (B.add ns).kept = B.kept ++ ns.take (B.many ns).toNat := by
  show (B.con ++ ns.take (B.many ns).toNat).drop (B.base - 1) = _
  rw [List.drop_append_of_le_length (by have := h.b2; omega)]
  rfl
theorem Bx.kept_len (B : Bx) (h : B.ok) : (B.kept.length : Int) = B.con.length + 1 - B.base := by
  have := h.b1; have := h.b2
  unfold Bx.kept
  rw [List.length_drop]
  omega
/-- all that stands but the fields of the one -/
theorem OutAt.put {C p l dx : Addr} {H H' : Hp} {B B' : Bx} (h : OutAt C H p l B) (s : SameX p H H') (e : H' p = some (.ins C dx (B'.fs l))) (k : B'.kept = B.kept) (o : B'.ok) : OutAt C H' p l B' := ⟨⟨dx, e⟩, by rw [k]; exact s _ _ h.ne h.2.1, o⟩
/-- the limit is set by its property -/
def sp_Outbox_limit_set (K : PySem.W.Frag) (C Ce : Addr) : Sp := fun vs H Q E => ∃ (p dx : Addr) (fs : List (Str × V)) (x : V), vs = [.ref p, x] ∧ H p = some (.ins C dx fs) ∧ fs.length < 1000 ∧
  ((∃ n, x = .int n ∧ 1 ≤ n ∧ n ≤ 65535 ∧ ∀ H', SameX p H H' → H' p = some (.ins C dx (putF "_limit" (.int n) fs)) → Q .non H') ∨ (Out K H x 1 65535 ∧ Err Ce "setting" (.str "limit") H E))
theorem ok_Outbox_limit_set (T : Txt K mg) : FnOk P w K mg base (L2.CX P w) 4 T.a_Outbox_limit_set T.fd_Outbox_limit_set ["self", "value"] (sp_Outbox_limit_set K T.c_Outbox T.c_InvalidSetting) := by
  have S := sc_Outbox_limit_set
  refine T.F_Outbox_limit_set.okX S (fun vs H Q E h => ?_) (fun cdv A outer s H vs Q E hr h => ?_)
  · obtain ⟨p, dx, fs, x, rfl, _⟩ := h
    rfl
  · obtain ⟨p, dx, fs, x, rfl, hp, hl, h⟩ := h
    refine ⟨_, (pss_cons (ps_expr (pe_call (ok_require_limit T) (hr.mono (by decide)) rfl T.g_require_limit T.F_require_limit.kp T.B_require_limit .nil (passes_call (takes_of rfl rfl rfl rfl) (fun _ _ _ _ h => h)) (pa_cons (pv 1) pa_nil)))
      (pss_one (ps_fld (pv 0) (pv 1) rfl))), ?_⟩
    refine st_Outbox_limit_set ?_
    o_args
    rcases h with ⟨n, rfl, h0, h1, k⟩ | ⟨ho, hE⟩
    · refine ⟨_, rfl, .inl ⟨n, rfl, h0, h1, ?_⟩⟩
      o_args
      refine fstore hp T.cl_Outbox T.n_Outbox__limit hl rfl fun H1 s1 h1 => ?_
      o_args
      exact k H1 s1 h1
    · exact ⟨_, rfl, .inr ⟨ho, hE⟩⟩
def sp_Outbox_init_ (K : PySem.W.Frag) (C Ce : Addr) : Sp := fun vs H Q E => ∃ (p dx : Addr) (x : V), vs = [.ref p, x] ∧ H p = some (.ins C dx []) ∧
  ((∃ n, x = .int n ∧ 1 ≤ n ∧ n ≤ 65535 ∧ ∀ l H', H l = none → Ch [p] H H' → OutAt C H' p l ⟨n, [], 1, false, 0⟩ → Q .non H') ∨ (Out K H x 1 65535 ∧ Err Ce "setting" (.str "limit") H E))
theorem ok_Outbox_init_ (T : Txt K mg) : FnOk P w K mg base (L2.CX P w) 7 T.a_Outbox_init_ T.fd_Outbox_init_ ["self", "limit"] (sp_Outbox_init_ K T.c_Outbox T.c_InvalidSetting) := by
  have S := sc_Outbox_init_
  refine T.F_Outbox_init_.okX S (fun vs H Q E h => ?_) (fun cdv A outer s H vs Q E hr h => ?_)
  · obtain ⟨p, dx, x, rfl, _⟩ := h
    rfl
  · obtain ⟨p, dx, x, rfl, hp, h⟩ := h
    refine ⟨_, (pss_cons (ps_setp (pv 0) (pv 1) T.cl_Outbox T.SE_Outbox_limit_set (ok_Outbox_limit_set T) (hr.mono (by decide)) T.B_Outbox_limit_set (passes_call (takes_of rfl rfl rfl rfl) (fun _ _ _ _ h => h)) rfl)
      (pss_cons (ps_fld (pv 0) pe_int rfl)
      (pss_cons (ps_fld (pv 0) pe_int rfl)
      (pss_cons (ps_fld (pv 0) pe_bl rfl)
      (pss_cons (ps_fld (pv 0) pe_int rfl)
      (pss_one (ps_fld (pv 0) (pe_lst pa_nil) rfl))))))), ?_⟩
    refine st_Outbox_init_ ?_
    o_args
    refine ⟨p, dx, _, rfl, hp, ?_⟩
    refine ⟨p, dx, _, x, rfl, hp, by decide, ?_⟩
    rcases h with ⟨n, rfl, h0, h1, k⟩ | ⟨ho, hE⟩
    · refine .inl ⟨n, rfl, h0, h1, fun H1 s1 h1 => ?_⟩
      o_args
      refine fstore h1 T.cl_Outbox T.n_Outbox_base (Nat.le_of_ble_eq_true rfl) rfl fun H2 s2 h2 => ?_
      o_args
      refine fstore h2 T.cl_Outbox T.n_Outbox_end (Nat.le_of_ble_eq_true rfl) rfl fun H3 s3 h3 => ?_
      o_args
      refine fstore h3 T.cl_Outbox T.n_Outbox_closed (Nat.le_of_ble_eq_true rfl) rfl fun H4 s4 h4 => ?_
      o_args
      refine fstore h4 T.cl_Outbox T.n_Outbox_urgent_end (Nat.le_of_ble_eq_true rfl) rfl fun H5 s5 h5 => ?_
      o_args
      refine newList (by simp) fun l H6 nl s6 h6 => ?_
      have lp : l ≠ p := Ne.symm (ne_of_none h5 nl)
      o_args
      refine fstore (s6 _ _ h5) T.cl_Outbox T.n_Outbox__kept (Nat.le_of_ble_eq_true rfl) rfl fun H7 s7 h7 => ?_
      o_args
      have S : SameX p H H5 := (((s1.trans s2).trans s3).trans s4).trans s5
      have c : Ch [p] H H7 := (Ch.ofX List.mem_cons_self S h5).trans ((Ch.of s6).trans (Ch.ofX List.mem_cons_self s7 h7))
      exact k l H7 (none_back S lp nl) c ⟨⟨_, h7⟩, s7 _ _ lp h6, ⟨h0, by assumption, Nat.le_refl _, Nat.le_refl _, Nat.zero_le _⟩⟩
    · exact .inr ⟨ho, hE⟩
theorem x_delCut {to : TE} {th : TO} {D : Ends} {σ : L2.St} {H : Hp} (q : to σ H fun x H1 => th σ H1 fun u H2 => ∃ (l : Addr) (xs : List V) (c : Nat), x = .ref l ∧ u = some (c : Int) ∧ H2 l = some (.lst xs) ∧ c ≤ xs.length ∧ D.nx σ (L2.upd H2 l (.lst (xs.drop c)))) : tDelCut to th D σ H := q
theorem cut_mid (xs : List V) (i j : Nat) : cutV xs (some (i : Int)) (some (j : Int)) = (xs.take j).drop i := by
  have e1 : HT.sIx xs.length 0 (some (i : Int)) = min i xs.length := HT.sIx_nat _ _ _
  have e2 : HT.sIx xs.length xs.length (some (j : Int)) = min j xs.length := HT.sIx_nat _ _ _
  unfold cutV
  rw [e1, e2, List.drop_take]
  by_cases h : i ≤ xs.length
  · rw [Nat.min_eq_left h, List.take_eq_take_iff, List.length_drop]
    omega
  · have e3 : min i xs.length = xs.length := by omega
    rw [e3, List.drop_of_length_le (Nat.le_refl _), List.drop_of_length_le (show xs.length ≤ i by omega), List.take_nil, List.take_nil]
def sp_Outbox_limit (C : Addr) : Sp := fun vs H Q _ => ∃ (p l : Addr) (B : Bx), vs = [.ref p] ∧ OutAt C H p l B ∧ Q (.int B.lim) H
theorem ok_Outbox_limit (T : Txt K mg) : FnOk P w K mg base CX0 1 T.a_Outbox_limit T.fd_Outbox_limit ["self"] (sp_Outbox_limit T.c_Outbox) := by
  have S := sc_Outbox_limit
  refine T.F_Outbox_limit.ok S (fun vs H Q E h => ?_) (fun cdv A outer s H vs Q E hr h => ?_)
  · obtain ⟨p, l, B, rfl, _⟩ := h
    rfl
  · obtain ⟨p, l, B, rfl, ⟨⟨dx, hp⟩, hl, ok⟩, k⟩ := h
    refine ⟨_, (pss_one (ps_ret (pe_fld (pv 0) rfl))), ?_⟩
    refine st_Outbox_limit ?_
    o_args
    refine fget hp T.cl_Outbox T.n_Outbox__limit rfl ?_
    o_args
    exact k
def sp_Outbox_free (C : Addr) : Sp := fun vs H Q _ => ∃ (p l : Addr) (B : Bx), vs = [.ref p] ∧ OutAt C H p l B ∧ Q (.int B.spare) H
theorem ok_Outbox_free (T : Txt K mg) : FnOk P w K mg base CX0 1 T.a_Outbox_free T.fd_Outbox_free ["self"] (sp_Outbox_free T.c_Outbox) := by
  have S := sc_Outbox_free
  refine T.F_Outbox_free.ok S (fun vs H Q E h => ?_) (fun cdv A outer s H vs Q E hr h => ?_)
  · obtain ⟨p, l, B, rfl, _⟩ := h
    rfl
  · obtain ⟨p, l, B, rfl, ⟨⟨dx, hp⟩, hl, ok⟩, k⟩ := h
    refine ⟨_, (pss_one (ps_ret (pe_callB (id := "max") (call_max2K rfl) (by rfl) T.b_max (by decide +kernel) (pa_cons pe_int (pa_cons (pe_op op_sub (pe_fld (pv 0) rfl) (pe_op op_sub (pe_fld (pv 0) rfl) (pe_fld (pv 0) rfl))) pa_nil))))), ?_⟩
    refine st_Outbox_free ?_
    o_args
    refine fget hp T.cl_Outbox T.n_Outbox__limit rfl ?_
    o_args
    refine fget hp T.cl_Outbox T.n_Outbox_end rfl ?_
    o_args
    refine fget hp T.cl_Outbox T.n_Outbox_base rfl ?_
    o_args
    exact k
def Bx.bound (B : Bx) : Int := if B.closed = true then 1 + B.con.length + 1 else 1 + B.con.length
def sp_Outbox_bound (C : Addr) : Sp := fun vs H Q _ => ∃ (p l : Addr) (B : Bx), vs = [.ref p] ∧ OutAt C H p l B ∧ Q (.int B.bound) H
theorem ok_Outbox_bound (T : Txt K mg) : FnOk P w K mg base CX0 1 T.a_Outbox_bound T.fd_Outbox_bound ["self"] (sp_Outbox_bound T.c_Outbox) := by
  have S := sc_Outbox_bound
  refine T.F_Outbox_bound.ok S (fun vs H Q E h => ?_) (fun cdv A outer s H vs Q E hr h => ?_)
  · obtain ⟨p, l, B, rfl, _⟩ := h
    rfl
  · obtain ⟨p, l, B, rfl, ⟨⟨dx, hp⟩, hl, ok⟩, k⟩ := h
    refine ⟨_, (pss_one (ps_ret (pe_ifExp (pt_val (pe_fld (pv 0) rfl)) (pe_op op_add (pe_fld (pv 0) rfl) pe_int) (pe_fld (pv 0) rfl)))), ?_⟩
    refine st_Outbox_bound ?_
    o_args
    unfold Bx.bound at k
    refine fget hp T.cl_Outbox T.n_Outbox_closed rfl ?_
    o_args
    refine br2 (fun q => ?_) (fun q => ?_)
    · rw [if_pos q] at k
      o_args
      refine fget hp T.cl_Outbox T.n_Outbox_end rfl ?_
      o_args
      exact k
    · rw [if_neg (by rw [q]; exact Bool.false_ne_true)] at k
      o_args
      refine fget hp T.cl_Outbox T.n_Outbox_end rfl ?_
      o_args
      exact k
def sp_Outbox_resize (K : PySem.W.Frag) (C Ce : Addr) : Sp := fun vs H Q E => ∃ (p l : Addr) (B : Bx) (x : V), vs = [.ref p, x] ∧ OutAt C H p l B ∧
  ((∃ n, x = .int n ∧ 1 ≤ n ∧ n ≤ 65535 ∧ ∀ H', Ch [p] H H' → OutAt C H' p l { B with lim := n } → Q .non H') ∨ (Out K H x 1 65535 ∧ Err Ce "setting" (.str "limit") H E))
def sp_Outbox_shut (C : Addr) : Sp := fun vs H Q _ => ∃ (p l : Addr) (B : Bx), vs = [.ref p] ∧ OutAt C H p l B ∧ ∀ H', Ch [p] H H' → OutAt C H' p l { B with closed := true } → Q .non H'
theorem ok_Outbox_shut (T : Txt K mg) : FnOk P w K mg base CX0 1 T.a_Outbox_shut T.fd_Outbox_shut ["self"] (sp_Outbox_shut T.c_Outbox) := by
  have S := sc_Outbox_shut
  refine T.F_Outbox_shut.ok S (fun vs H Q E h => ?_) (fun cdv A outer s H vs Q E hr h => ?_)
  · obtain ⟨p, l, B, rfl, _⟩ := h
    rfl
  · obtain ⟨p, l, B, rfl, O, k⟩ := h
    obtain ⟨⟨dx, hp⟩, hl, ok⟩ := id O
    refine ⟨_, (pss_one (ps_fld (pv 0) pe_bl rfl)), ?_⟩
    refine st_Outbox_shut ?_
    o_args
    refine fstore hp T.cl_Outbox T.n_Outbox_closed (by decide : 6 < 1000) rfl fun H1 s1 h1 => ?_
    o_args
    exact k H1 (Ch.ofX List.mem_cons_self s1 h1) (O.put s1 h1 rfl ⟨ok.l1, ok.l2, ok.b1, ok.b2, ok.sz⟩)
/-- the closed outbox refuses; else the data is looked at -/
def PutSp (K : PySem.W.Frag) (Ca Ce : Addr) (B : Bx) (x : V) (H : Hp) (E : XK) (P : List Int → Prop) : Prop := (B.closed = true ∧ Err Ca "state" (.str "closed") H E) ∨ (B.closed = false ∧ DataSp K Ce x H E P)
def sp_Outbox_put (K : PySem.W.Frag) (C Ca Ce : Addr) : Sp := fun vs H Q E => ∃ (p l : Addr) (B : Bx) (x : V), vs = [.ref p, x] ∧ OutAt C H p l B ∧ B.con.length < 40000 ∧ PutSp K Ca Ce B x H E fun ns => ∀ H', Ch [p, l] H H' → OutAt C H' p l (B.add ns) → Q (.int (B.many ns)) H'
theorem ok_Outbox_put (T : Txt K mg) : FnOk P w K mg base (L2.CX P w) 5 T.a_Outbox_put T.fd_Outbox_put ["self", "data"] (sp_Outbox_put K T.c_Outbox T.c_NotAllowed T.c_InvalidNumber) := by
  have S := sc_Outbox_put
  refine T.F_Outbox_put.okX S (fun vs H Q E h => ?_) (fun cdv A outer s H vs Q E hr h => ?_)
  · obtain ⟨p, l, B, x, rfl, _⟩ := h
    rfl
  · obtain ⟨p, l, B, x, rfl, O, hz, h⟩ := h
    obtain ⟨⟨dx, hp⟩, hl, ok⟩ := id O
    refine ⟨_, (pss_cons (ps_if (pt_val (pe_fld (pv 0) rfl)) (pss_one (ps_raise rfl (takes_of rfl rfl rfl rfl) (pmk_oex T.X_NotAllowed.o T.X_NotAllowed.i T.X_NotAllowed.t (ok_NotAllowed_init_ T) (hr.mono (by decide)) T.B_NotAllowed_init_ .nil pass0 rfl T.X_NotAllowed.g (pa_cons pe_str pa_nil)))) pss_nil)
      (pss_cons (ps_expr (pe_call (ok_require_data T) (hr.mono (by decide)) rfl T.g_require_data T.F_require_data.kp T.B_require_data .nil (passes_call (takes_of rfl rfl rfl rfl) (fun _ _ _ _ h => h)) (pa_cons (pv 1) pa_nil)))
      (pss_cons (ps_set (i := 2) S.nd rfl (Or.inl rfl) (pe_callB (id := "min") (call_min2K rfl) (by rfl) T.b_min (by decide +kernel) (pa_cons (pe_prop (pv 0) T.cl_Outbox T.PR_Outbox_free (ok_Outbox_free T) (hr.mono (by decide)) T.B_Outbox_free .nil pass0 rfl) (pa_cons (pe_callB (id := "len") (call_lenK (K := K) rfl) (by rfl) T.b_len (by decide +kernel) (pa_cons (pv 1) pa_nil)) pa_nil))))
      (pss_cons (ps_expr (pe_bm PySem.F.plainAttrs_list PySem.F.slot_list_extend PySem.F.type_list_extend mt_extendA (pe_fld (pv 0) rfl) (pa_cons (pe_slice sl_seqQ (pv 1) po_none (po_some (pv 2))) pa_nil)))
      (pss_cons (ps_fldaug (pv 0) (pv 2) ip_add)
      (pss_one (ps_ret (pv 2)))))))), ?_⟩
    refine st_Outbox_put ?_
    o_args
    refine fget hp T.cl_Outbox T.n_Outbox_closed rfl ?_
    o_args
    rcases h with ⟨hc, hE⟩ | ⟨hc, h⟩
    · refine brT hc ?_
      o_args
      exact mkO_of T.X_NotAllowed.o T.nX_NotAllowed fun d H2 nd ss hx => hE d H2 ss hx
    refine brF hc ?_
    o_args
    rcases h with ⟨a, ns, rfl, hA, hb, hn, k⟩ | h | h
    · refine ⟨_, rfl, .inl ⟨a, ns, rfl, hA, hb, hn, fun H1 s1 => ?_⟩⟩
      have O1 := O.same s1
      obtain ⟨⟨dx1, hp1⟩, hl1, _⟩ := id O1
      have A1 := hA.sm s1
      o_args
      refine ⟨p, dx1, _, rfl, hp1, ?_⟩
      refine ⟨p, l, B, rfl, O1, ?_⟩
      o_args
      refine lenA A1 ?_
      rw [List.length_map]
      o_args
      refine fget hp1 T.cl_Outbox T.n_Outbox__kept rfl ?_
      o_args
      refine ⟨isList hl1, ?_⟩
      o_args
      refine sliceA A1 fun m H2 s2 hm => ?_
      have mn := B.many0 ns
      obtain ⟨c, hc'⟩ : ∃ c : Nat, B.many ns = c := ⟨(B.many ns).toNat, by omega⟩
      have hm : SeqN K H2 m ((ns.take c).map V.int) := by
        have e : min B.spare (ns.length : Int) = (c : Int) := hc'
        rw [e, cut_to, ← List.map_take] at hm
        exact hm
      have kl := B.kept_len ok
      have := ok.b1
      o_args
      refine extA (s2 _ _ hl1) hm (by rw [List.length_map, List.length_map, List.length_take]; omega) fun H3 s3 h3 => ?_
      have lp := O.ne
      have hp3 := s3 _ _ (Ne.symm lp) (s2 _ _ hp1)
      have c3 : Ch [p, l] H H3 := (Ch.of (s1.trans s2)).trans (Ch.ofX (by simp) s3 h3)
      o_args
      refine fraise hp3 T.cl_Outbox T.n_Outbox_end (by decide : 6 < 1000) rfl ?_
      o_args
      refine fput hp3 (by decide : 6 < 1000) rfl fun H4 s4 h4 => ?_
      o_args
      refine k H4 (c3.trans (Ch.ofX (by simp) s4 h4)) ⟨⟨dx1, ?_⟩, ?_, ok.l1, ok.l2, ok.b1, ?_, ?_⟩
      · rw [h4]
        unfold Bx.fs
        rw [B.add_len]
        show some (HO.ins _ _ [_, _, ("end", V.int (1 + (B.con.length : Int) + min B.spare (ns.length : Int))), _, _, _]) = _
        rw [show (1 + ((B.con.length : Int) + B.many ns)) = 1 + (B.con.length : Int) + min B.spare (ns.length : Int) by unfold Bx.many; omega]
        rfl
      · rw [s4 _ _ lp h3, B.add_kept ns ok, List.map_append, hc']
        rfl
      · have e := B.add_len ns
        have := ok.b2
        show B.base ≤ _
        omega
      · have e := B.add_len ns
        have := hn
        omega
    · exact ⟨_, rfl, .inr (.inl h)⟩
    · exact ⟨_, rfl, .inr (.inr h)⟩
theorem putF_urg {B : Bx} {l : Addr} {v : Int} : putF "urgent_end" (.int v) (B.fs l) = ({ B with urg := v } : Bx).fs l := rfl
def sp_Outbox_urge (K : PySem.W.Frag) (C Ca Ce : Addr) : Sp := fun vs H Q E => ∃ (p l : Addr) (B : Bx) (x : V), vs = [.ref p, x] ∧ OutAt C H p l B ∧ B.con.length < 40000 ∧ PutSp K Ca Ce B x H E fun ns => ∀ H', Ch [p, l] H H' → OutAt C H' p l (B.urge ns) → Q (.int (B.many ns)) H'
theorem ok_Outbox_urge (T : Txt K mg) : FnOk P w K mg base (L2.CX P w) 6 T.a_Outbox_urge T.fd_Outbox_urge ["self", "data"] (sp_Outbox_urge K T.c_Outbox T.c_NotAllowed T.c_InvalidNumber) := by
  have S := sc_Outbox_urge
  refine T.F_Outbox_urge.okX S (fun vs H Q E h => ?_) (fun cdv A outer s H vs Q E hr h => ?_)
  · obtain ⟨p, l, B, x, rfl, _⟩ := h
    rfl
  · obtain ⟨p, l, B, x, rfl, O, hz, h⟩ := h
    obtain ⟨⟨dx, hp⟩, hl, ok⟩ := id O
    refine ⟨_, (pss_cons (ps_set (i := 2) S.nd rfl (Or.inl rfl) (pe_meth (pv 0) T.cl_Outbox T.m_Outbox_put (ok_Outbox_put T) (hr.mono (by decide)) T.B_Outbox_put .nil (passes_call (takes_of rfl rfl rfl rfl) (fun _ _ _ _ h => h)) (pa_cons (pv 1) pa_nil)))
      (pss_cons (ps_if (pt_cmpR op_gt (pv 2) pe_int (nomark _)) (pss_one (ps_fld (pv 0) (pe_fld (pv 0) rfl) rfl)) pss_nil)
      (pss_one (ps_ret (pv 2))))), ?_⟩
    refine st_Outbox_urge ?_
    o_args
    refine ⟨p, dx, _, rfl, hp, rfl, ?_⟩
    o_args
    refine ⟨p, l, B, x, rfl, O, hz, ?_⟩
    rcases h with h | ⟨hc, h⟩
    · exact .inl h
    · refine .inr ⟨hc, h.mono (fun ns k H1 c1 O1 => ?_) (fun _ _ _ z => z)⟩
      obtain ⟨⟨dx1, hp1⟩, hl1, ok1⟩ := id O1
      o_args
      refine brD (fun q => ?_) (fun q => ?_)
      · o_args
        refine fget hp1 T.cl_Outbox T.n_Outbox_end rfl ?_
        o_args
        refine fstore hp1 T.cl_Outbox T.n_Outbox_urgent_end (by decide : 6 < 1000) putF_urg fun H2 s2 h2 => ?_
        o_args
        have e : B.urge ns = { B.add ns with urg := 1 + ((B.add ns).con.length : Int) } := by
          unfold Bx.urge
          rw [if_pos q]
        refine k H2 (c1.trans (Ch.ofX (by simp) s2 h2)) ?_
        rw [e]
        exact O1.put s2 h2 rfl ⟨ok1.l1, ok1.l2, ok1.b1, ok1.b2, ok1.sz⟩
      · o_args
        have e : B.urge ns = B.add ns := by
          unfold Bx.urge
          rw [if_neg q]
          rfl
        exact k H1 c1 (by rw [e]; exact O1)
def sp_Outbox_cut (K : PySem.W.Frag) (C Ce : Addr) : Sp := fun vs H Q E => ∃ (p l : Addr) (B : Bx) (x y : V), vs = [.ref p, x, y] ∧ OutAt C H p l B ∧
  ((∃ m n : Nat, x = .int m ∧ y = .int n ∧ B.base ≤ m ∧ m ≤ n ∧ n ≤ B.con.length + 1 ∧ ∀ t H', H t = none → Same H H' → H' t = some (.tup (((B.con.take (n - 1)).drop (m - 1)).map V.int)) → Q (.ref t) H') ∨
   (Out K H x B.base (1 + B.con.length) ∧ Err Ce "number" x H E) ∨ (∃ m : Int, x = .int m ∧ B.base ≤ m ∧ m ≤ 1 + B.con.length ∧ Out K H y m (1 + B.con.length) ∧ Err Ce "number" y H E))
theorem ok_Outbox_cut (T : Txt K mg) : FnOk P w K mg base (L2.CX P w) 3 T.a_Outbox_cut T.fd_Outbox_cut ["self", "low", "high"] (sp_Outbox_cut K T.c_Outbox T.c_InvalidNumber) := by
  have S := sc_Outbox_cut
  refine T.F_Outbox_cut.okX S (fun vs H Q E h => ?_) (fun cdv A outer s H vs Q E hr h => ?_)
  · obtain ⟨p, l, B, x, y, rfl, _⟩ := h
    rfl
  · obtain ⟨p, l, B, x, y, rfl, O, h⟩ := h
    obtain ⟨⟨dx, hp⟩, hl, ok⟩ := id O
    refine ⟨_, (pss_cons (ps_if (pt_not (pt_val (pe_call (ok_is_between T) (hr.mono (by decide)) rfl T.g_is_between T.F_is_between.kp T.B_is_between .nil pass0 (pa_cons (pv 1) (pa_cons (pe_fld (pv 0) rfl) (pa_cons (pe_fld (pv 0) rfl) pa_nil)))))) (pss_one (ps_raise rfl (takes_of rfl rfl rfl rfl) (pmk_oex T.X_InvalidNumber.o T.X_InvalidNumber.i T.X_InvalidNumber.t (ok_InvalidNumber_init_ T) (hr.mono (by decide)) T.B_InvalidNumber_init_ .nil pass0 rfl T.X_InvalidNumber.g (pa_cons (pv 1) pa_nil)))) pss_nil)
      (pss_cons (ps_if (pt_not (pt_val (pe_call (ok_is_between T) (hr.mono (by decide)) rfl T.g_is_between T.F_is_between.kp T.B_is_between .nil pass0 (pa_cons (pv 2) (pa_cons (pv 1) (pa_cons (pe_fld (pv 0) rfl) pa_nil)))))) (pss_one (ps_raise rfl (takes_of rfl rfl rfl rfl) (pmk_oex T.X_InvalidNumber.o T.X_InvalidNumber.i T.X_InvalidNumber.t (ok_InvalidNumber_init_ T) (hr.mono (by decide)) T.B_InvalidNumber_init_ .nil pass0 rfl T.X_InvalidNumber.g (pa_cons (pv 2) pa_nil)))) pss_nil)
      (pss_one (ps_ret (pe_callTy (T := "tuple") (call_tupK (K := K) rfl) (by rfl) T.b_tuple (by decide +kernel) (pa_cons (pe_slice sl_list (pe_fld (pv 0) rfl) (po_some (pe_op op_sub (pv 1) (pe_fld (pv 0) rfl))) (po_some (pe_op op_sub (pv 2) (pe_fld (pv 0) rfl)))) pa_nil)))))), ?_⟩
    refine st_Outbox_cut ?_
    o_args
    refine fget hp T.cl_Outbox T.n_Outbox_base rfl ?_
    o_args
    refine fget hp T.cl_Outbox T.n_Outbox_end rfl ?_
    o_args
    have b1 := ok.b1
    rcases h with ⟨m, n, rfl, rfl, h1, h2, h3, k⟩ | ⟨ho, hE⟩ | ⟨m, rfl, h1, h2, ho, hE⟩
    · refine in_between (by omega) (by omega) ?_
      o_args
      refine fget hp T.cl_Outbox T.n_Outbox_end rfl ?_
      o_args
      refine in_between (by omega) (by omega) ?_
      o_args
      refine fget hp T.cl_Outbox T.n_Outbox__kept rfl ?_
      o_args
      refine fget hp T.cl_Outbox T.n_Outbox_base rfl ?_
      o_args
      refine fget hp T.cl_Outbox T.n_Outbox_base rfl ?_
      o_args
      refine sliceL (SqL.of hl) fun l2 H1 n1 s1 h1' => ?_
      o_args
      refine ⟨l2, _, rfl, .inl ⟨SqL.of h1', fun t nt => ?_⟩⟩
      o_args
      refine k t _ (none_of s1 nt) (s1.trans (Same.new nt)) ?_
      have e : cutV (B.kept.map V.int) (some ((m : Int) - B.base)) (some ((n : Int) - B.base)) = ((B.con.take (n - 1)).drop (m - 1)).map V.int := by
        rw [show (m : Int) - B.base = ((m - B.base : Nat) : Int) by omega, show (n : Int) - B.base = ((n - B.base : Nat) : Int) by omega, cut_mid, ← List.map_take, ← List.map_drop]
        unfold Bx.kept
        rw [List.drop_take, List.drop_drop, List.drop_take, show B.base - 1 + (m - B.base) = m - 1 by omega, show n - B.base - (m - B.base) = n - 1 - (m - 1) by omega]
      rw [← e]
      exact upd_same
    · refine out_between ho ?_
      o_args
      exact ⟨_, rfl, mkO_of T.X_InvalidNumber.o T.nX_InvalidNumber fun d H2 nd ss hx => hE d H2 ss hx⟩
    · refine in_between h1 h2 ?_
      o_args
      refine fget hp T.cl_Outbox T.n_Outbox_end rfl ?_
      o_args
      refine out_between ho ?_
      o_args
      exact ⟨_, rfl, mkO_of T.X_InvalidNumber.o T.nX_InvalidNumber fun d H2 nd ss hx => hE d H2 ss hx⟩
def sp_Outbox_release (K : PySem.W.Frag) (C Ce : Addr) : Sp := fun vs H Q E => ∃ (p l : Addr) (B : Bx) (x : V), vs = [.ref p, x] ∧ OutAt C H p l B ∧
  ((∃ m : Nat, x = .int m ∧ B.base ≤ m ∧ m ≤ B.con.length + 1 ∧ ∀ H', Ch [p, l] H H' → OutAt C H' p l { B with base := m } → Q (.int ((m : Int) - B.base)) H') ∨ (Out K H x B.base (1 + B.con.length) ∧ Err Ce "number" x H E))
theorem ok_Outbox_release (T : Txt K mg) : FnOk P w K mg base (L2.CX P w) 3 T.a_Outbox_release T.fd_Outbox_release ["self", "offset"] (sp_Outbox_release K T.c_Outbox T.c_InvalidNumber) := by
  have S := sc_Outbox_release
  refine T.F_Outbox_release.okX S (fun vs H Q E h => ?_) (fun cdv A outer s H vs Q E hr h => ?_)
  · obtain ⟨p, l, B, x, rfl, _⟩ := h
    rfl
  · obtain ⟨p, l, B, x, rfl, O, h⟩ := h
    obtain ⟨⟨dx, hp⟩, hl, ok⟩ := id O
    refine ⟨_, (pss_cons (ps_if (pt_not (pt_val (pe_call (ok_is_between T) (hr.mono (by decide)) rfl T.g_is_between T.F_is_between.kp T.B_is_between .nil pass0 (pa_cons (pv 1) (pa_cons (pe_fld (pv 0) rfl) (pa_cons (pe_fld (pv 0) rfl) pa_nil)))))) (pss_one (ps_raise rfl (takes_of rfl rfl rfl rfl) (pmk_oex T.X_InvalidNumber.o T.X_InvalidNumber.i T.X_InvalidNumber.t (ok_InvalidNumber_init_ T) (hr.mono (by decide)) T.B_InvalidNumber_init_ .nil pass0 rfl T.X_InvalidNumber.g (pa_cons (pv 1) pa_nil)))) pss_nil)
      (pss_cons (ps_set (i := 2) S.nd rfl (Or.inl rfl) (pe_op op_sub (pv 1) (pe_fld (pv 0) rfl)))
      (pss_cons (ps_delCut (pe_fld (pv 0) rfl) (po_some (pv 2)))
      (pss_cons (ps_fld (pv 0) (pv 1) rfl)
      (pss_one (ps_ret (pv 2))))))), ?_⟩
    refine st_Outbox_release ?_
    o_args
    refine fget hp T.cl_Outbox T.n_Outbox_base rfl ?_
    o_args
    refine fget hp T.cl_Outbox T.n_Outbox_end rfl ?_
    o_args
    have b1 := ok.b1
    rcases h with ⟨m, rfl, h1, h2, k⟩ | ⟨ho, hE⟩
    · refine in_between (by omega) (by omega) ?_
      o_args
      refine fget hp T.cl_Outbox T.n_Outbox_base rfl ?_
      o_args
      refine x_delCut ?_
      o_args
      refine fget hp T.cl_Outbox T.n_Outbox__kept rfl ?_
      o_args
      have kl := B.kept_len ok
      refine ⟨l, _, m - B.base, rfl, by rw [show (m : Int) - B.base = ((m - B.base : Nat) : Int) by omega], hl, by rw [List.length_map]; omega, ?_⟩
      have lp := O.ne
      generalize hH1 : L2.upd H l (.lst ((B.kept.map V.int).drop (m - B.base))) = H1
      have s1 : SameX l H H1 := by rw [← hH1]; exact SameX.upd
      have h1' : H1 l = some (.lst ((B.kept.map V.int).drop (m - B.base))) := by rw [← hH1]; exact upd_same
      have hp1 := s1 _ _ (Ne.symm lp) hp
      o_args
      refine fstore hp1 T.cl_Outbox T.n_Outbox_base (by decide : 6 < 1000) rfl fun H2 s2 h2' => ?_
      o_args
      refine k H2 ((Ch.ofX (by simp) s1 h1').trans (Ch.ofX (by simp) s2 h2')) ⟨⟨dx, h2'⟩, ?_, ok.l1, ok.l2, by show 1 ≤ m; omega, h2, ok.sz⟩
      rw [s2 _ _ lp h1', ← List.map_drop]
      unfold Bx.kept
      rw [List.drop_drop, show B.base - 1 + (m - B.base) = m - 1 by omega]
    · refine out_between ho ?_
      o_args
      exact ⟨_, rfl, mkO_of T.X_InvalidNumber.o T.nX_InvalidNumber fun d H2 nd ss hx => hE d H2 ss hx⟩
/-! ### the gaps, one by one -/
def sp_Spans_gaps (K : PySem.W.Frag) (C : Addr) : SpG := fun vs H cont _ => ∃ (e : Addr) (F : List Addr) (rs : List Run) (lo hi : Int), vs = [.ref e, .int lo, .int hi] ∧ SpA C e F rs H ∧ rs.length < 20000 ∧
  ∀ ts out H', (∀ t ∈ ts, H t = none) → Same H H' → Tups H' ts out → out.length ≤ rs.length + 1 → Nrm out → (∀ q ∈ out, lo ≤ q.1 ∧ q.2 ≤ hi) → (∀ o, Mem o out ↔ lo ≤ o ∧ o < hi ∧ ¬ Mem o rs) → cont (ts.map V.ref) H'
theorem ok_Spans_gaps (T : Txt K mg) : GFn P w K mg base 2 T.a_Spans_gaps T.fd_Spans_gaps ["self", "low", "high"] (sp_Spans_gaps K T.c_Spans) := by
  have S := sc_Spans_gaps
  refine gen_fn T.F_Spans_gaps S (fun vs H Q E h => ?_) (fun cdv A outer s H vs Q E pn hr h => ?_)
  · obtain ⟨e, F, rs, lo, hi, rfl, _⟩ := h
    rfl
  · obtain ⟨e, F, rs, lo, hi, rfl, ⟨dx, l, ts0, he, hR, _, _, _, hO⟩, hz, k⟩ := h
    refine ⟨_, (gss_cons (gs_for owns_gcx rfl (pi_list (pe_call (ok_missing T) (hr.mono (by decide)) rfl T.g_missing T.F_missing.kp T.B_missing .nil pass0 (pa_cons (pe_fld (pv 0) rfl) (pa_cons (pv 1) (pa_cons (pv 2) pa_nil))))) (pg_name (i := 3) S.nd rfl (Or.inl rfl)) (gss_cons (gs_yield (pv 3)) gss_nil)) gss_nil), ?_⟩
    refine st_Spans_gaps ?_
    refine x_gthen ?_
    refine x_gfor ?_
    o_args
    refine fget he T.cl_Spans T.n_Spans__runs rfl ?_
    o_args
    refine ⟨l, ts0, rs, lo, hi, rfl, hR, hO.nrm, by omega, fun m ts out H1 nm nt s1 r1 zo n1 b1 m1 => ?_⟩
    refine ⟨m, rfl, ⟨_, SqL.of r1.1⟩, gfor_list (xs := ts.map V.ref) (fun i zs σ' H' => (∃ z, σ' = [some (.ref e), some (.int lo), some (.int hi), z]) ∧ H' = H1 ∧ zs = (ts.take i).map V.ref) ⟨⟨none, rfl⟩, rfl, rfl⟩ (fun i zs σ' H' h => ?_) (fun i v zs σ' H' hv h => ?_) (fun zs σ' H' h => ?_)⟩
    · rw [h.2.1]
      exact SqL.of r1.1
    · obtain ⟨⟨z, rfl⟩, rfl, rfl⟩ := h
      have il := getq_lt hv
      rw [List.length_map] at il
      o_args
      refine x_gthen ?_
      have := r1.len
      refine x_gyield (by rw [List.length_map, List.length_take]; omega) ?_
      o_args
      refine x_g00 ⟨⟨_, rfl⟩, rfl, ?_⟩
      rw [List.getElem?_map, List.getElem?_eq_getElem il] at hv
      cases hv
      rw [List.take_succ, List.getElem?_eq_getElem il, List.map_append]
      rfl
    · obtain ⟨⟨z, rfl⟩, rfl, rfl⟩ := h
      rw [List.length_map, List.take_length]
      exact k ts out H' nt s1 r1.2 zo n1 b1 m1
/-! ### the inbox's object -/
theorem dgetI {H : Hp} {v : V} {a : Addr} {kvs : List (Key × V)} {k : Int} {P : V → Prop} (h : H a = some (.dK kvs)) (e : valV kvs (.inl k) = some v) (q : P v) : ∃ b u, V.ref a = .ref b ∧ DGet H b (.int k) (some u) ∧ P u := ⟨a, v, rfl, .inl ⟨kvs, .inl k, .inl h, rfl, e.symm⟩, q⟩
theorem dputI {H : Hp} {v : V} {a : Addr} {kvs : List (Key × V)} {k : Int} {P : Hp → Prop} (h : H a = some (.dK kvs)) (l : kvs.length < 100000) (q : ∀ H', SameX a H H' → H' a = some (.dK (putK kvs (.inl k) v)) → P H') : ∃ b H4, V.ref a = .ref b ∧ DPut H b (.int k) v H4 ∧ P H4 :=
  ⟨a, _, rfl, .inl ⟨kvs, .inl k, h, rfl, Nat.lt_of_lt_of_le l (by decide), rfl⟩, q _ SameX.upd upd_same⟩
/-- the dict tells what is stored where -/
def Tells (kvs : List (Key × V)) (f : Int → Option Int) : Prop := ∀ k, valV kvs (.inl k) = (f k).map V.int
theorem Tells.put {kvs : List (Key × V)} {f : Int → Option Int} {k v : Int} (h : Tells kvs f) : Tells (putK kvs (.inl k) (.int v)) (fun j => if j = k then some v else f j) := fun j => by
  show _ = Option.map V.int (if j = k then some v else f j)
  rw [valV_put]
  by_cases e : j = k
  · rw [if_pos e, if_pos (congrArg Sum.inl e)]; rfl
  · rw [if_neg e, if_neg (fun z => e (Sum.inl.inj z)), h j]
theorem valV_dropI (k j : Int) : ∀ kvs : List (Key × V), valV (dropK kvs (.inl k)) (.inl j) = if j = k then none else valV kvs (.inl j)
  | [] => by split <;> rfl
  | p :: r => by
    have ih := valV_dropI k j r
    unfold dropK at ih ⊢
    rw [List.filter_cons]
    by_cases a : p.1 = .inl k
    · rw [if_neg (by simp [a]), ih]
      by_cases e : j = k
      · rw [if_pos e, if_pos e]
      · rw [if_neg e, if_neg e, valV_neg (fun z => e (Sum.inl.inj (z.symm.trans a)))]
    · rw [if_pos (by simp [a])]
      by_cases b : p.1 = .inl j
      · rw [valV_pos b, valV_pos b, if_neg (fun e => a (by rw [b, e]))]
      · rw [valV_neg b, valV_neg b, ih]
theorem Tells.drop {kvs : List (Key × V)} {f : Int → Option Int} {k : Int} (h : Tells kvs f) : Tells (dropK kvs (.inl k)) (fun j => if j = k then none else f j) := fun j => by
  show _ = Option.map V.int (if j = k then none else f j)
  rw [valV_dropI]
  by_cases e : j = k
  · rw [if_pos e, if_pos e]; rfl
  · rw [if_neg e, if_neg e, h j]
theorem Tells.nil : Tells [] (fun _ => none) := fun _ => rfl
/-- limit, next, read, latest; final; what is stored; the runs ahead -/
structure Ib where
  lim : Int
  nx : Int
  rd : Int
  fin : Option Int
  urg : Int
  la : Int
  st : Int → Option Int
  ah : List Run
def finV : Option Int → V
  | none => .non
  | some n => .int n
def Ib.fs (B : Ib) (d e : Addr) : List (Str × V) := [("_limit", .int B.lim), ("next_offset", .int B.nx), ("read_offset", .int B.rd), ("final", finV B.fin), ("urgent_end", .int B.urg), ("_stored", .ref d), ("_ahead", .ref e), ("_latest", .int B.la)]
/-- at p the inbox, at d what it stores, at e the runs ahead; F: what is apart from the runs' own -/
structure InAt (C Cs p d e : Addr) (F : List Addr) (m : Nat) (B : Ib) (H : Hp) : Prop where
  oo : ∃ dx, H p = some (.ins C dx (B.fs d e))
  dd : ∃ kvs, H d = some (.dK kvs) ∧ Tells kvs B.st ∧ kvs.length ≤ m
  ee : SpA Cs e F B.ah H
  pe : p ≠ e
  li : 1 ≤ B.lim ∧ B.lim ≤ 65535
  ff : p ∈ F ∧ d ∈ F
section
variable {C Cs p d e : Addr} {F G : List Addr} {m m' : Nat} {B : Ib} {H H' : Hp}
theorem InAt.same (h : InAt C Cs p d e F m B H) (s : Same H H') : InAt C Cs p d e F m B H' := ⟨h.oo.elim fun dx h => ⟨dx, s _ _ h⟩, h.dd.elim fun k h => ⟨k, s _ _ h.1, h.2⟩, h.ee.same s, h.pe, h.li, h.ff⟩
theorem InAt.more (h : InAt C Cs p d e F m B H) (z : m ≤ m') : InAt C Cs p d e F m' B H := ⟨h.oo, h.dd.elim fun k h => ⟨k, h.1, h.2.1, Nat.le_trans h.2.2 z⟩, h.ee, h.pe, h.li, h.ff⟩
end
/-- C() -/
theorem make_spans0 {C Ce : Addr} {H : Hp} {G' : Addr → Hp → Prop} {E : XK} (k : ∀ e H', H e = none → Same H H' → (∀ G, Al G H → SpA C e G [] H') → G' e H') :
    ∀ x dx, H x = none → H dx = none → dx ≠ x → starSp 1 (sp_Spans_init_ K C Ce) [.ref x] (upd (upd H dx (.own x)) x (.ins C dx [])) (fun v H2 => v = .non ∧ G' x H2) E := by
  intro x dx hx hdx ne
  have s0 : Same H (upd (upd H dx (.own x)) x (.ins C dx [])) := fun b o e => by rw [upd_ne (ne_of_none e hx), upd_ne (ne_of_none e hdx)]; exact e
  have h0 : upd (upd H dx (.own x)) x (.ins C dx []) x = some (.ins C dx []) := upd_same
  generalize upd (upd H dx (.own x)) x (.ins C dx []) = H0 at s0 h0
  refine ⟨[.ref x], [], rfl, rfl, by decide, fun p hp0 => ?_⟩
  have s1 : Same H0 (upd H0 p (.tup [])) := Same.new hp0
  have h1 : upd H0 p (.tup []) p = some (.tup []) := upd_same
  generalize upd H0 p (.tup []) = H1 at s1 h1
  have S := s0.trans s1
  refine ⟨x, p, dx, [], rfl, s1 _ _ h0, h1, by decide, .inl ⟨[], rfl, (fun i y r a b => by cases a), fun H' rs c hS z m => ⟨rfl, ?_⟩⟩⟩
  have e : rs = [] := List.eq_nil_of_length_eq_zero (Nat.le_zero.mp z)
  subst e
  exact k x H' hx (Ch.same (((Ch.of S).trans c).drop hx)) (fun G A => hS G (A.same S) (A.new hx))
def sp_Inbox_limit_set (K : PySem.W.Frag) (C Ce : Addr) : Sp := fun vs H Q E => ∃ (p dx : Addr) (fs : List (Str × V)) (x : V), vs = [.ref p, x] ∧ H p = some (.ins C dx fs) ∧ fs.length < 1000 ∧
  ((∃ n, x = .int n ∧ 1 ≤ n ∧ n ≤ 65535 ∧ ∀ H', SameX p H H' → H' p = some (.ins C dx (putF "_limit" (.int n) fs)) → Q .non H') ∨ (Out K H x 1 65535 ∧ Err Ce "setting" (.str "limit") H E))
theorem ok_Inbox_limit_set (T : Txt K mg) : FnOk P w K mg base (L2.CX P w) 4 T.a_Inbox_limit_set T.fd_Inbox_limit_set ["self", "value"] (sp_Inbox_limit_set K T.c_Inbox T.c_InvalidSetting) := by
  have S := sc_Inbox_limit_set
  refine T.F_Inbox_limit_set.okX S (fun vs H Q E h => ?_) (fun cdv A outer s H vs Q E hr h => ?_)
  · obtain ⟨p, dx, fs, x, rfl, _⟩ := h
    rfl
  · obtain ⟨p, dx, fs, x, rfl, hp, hl, h⟩ := h
    refine ⟨_, (pss_cons (ps_expr (pe_call (ok_require_limit T) (hr.mono (by decide)) rfl T.g_require_limit T.F_require_limit.kp T.B_require_limit .nil (passes_call (takes_of rfl rfl rfl rfl) (fun _ _ _ _ h => h)) (pa_cons (pv 1) pa_nil)))
      (pss_one (ps_fld (pv 0) (pv 1) rfl))), ?_⟩
    refine st_Inbox_limit_set ?_
    o_args
    rcases h with ⟨n, rfl, h0, h1, k⟩ | ⟨ho, hE⟩
    · refine ⟨_, rfl, .inl ⟨n, rfl, h0, h1, ?_⟩⟩
      o_args
      refine fstore hp T.cl_Inbox T.n_Inbox__limit hl rfl fun H1 s1 h1 => ?_
      o_args
      exact k H1 s1 h1
    · exact ⟨_, rfl, .inr ⟨ho, hE⟩⟩
def Ib.new (n : Int) : Ib := ⟨n, 1, 1, none, 0, 0, fun _ => none, []⟩
def sp_Inbox_init_ (K : PySem.W.Frag) (C Cs Ce : Addr) : Sp := fun vs H Q E => ∃ (p dx : Addr) (x : V), vs = [.ref p, x] ∧ H p = some (.ins C dx []) ∧
  ((∃ n, x = .int n ∧ 1 ≤ n ∧ n ≤ 65535 ∧ ∀ d e H', H d = none → H e = none → Ch [p] H H' → (∀ F, Al F H → p ∈ F → InAt C Cs p d e (d :: F) 0 (Ib.new n) H') → Q .non H') ∨ (Out K H x 1 65535 ∧ Err Ce "setting" (.str "limit") H E))
theorem ok_Inbox_init_ (T : Txt K mg) : FnOk P w K mg base (L2.CX P w) 7 T.a_Inbox_init_ T.fd_Inbox_init_ ["self", "limit"] (sp_Inbox_init_ K T.c_Inbox T.c_Spans T.c_InvalidSetting) := by
  have S := sc_Inbox_init_
  refine T.F_Inbox_init_.okX S (fun vs H Q E h => ?_) (fun cdv A outer s H vs Q E hr h => ?_)
  · obtain ⟨p, dx, x, rfl, _⟩ := h
    rfl
  · obtain ⟨p, dx, x, rfl, hp, h⟩ := h
    refine ⟨_, (pss_cons (ps_setp (pv 0) (pv 1) T.cl_Inbox T.SE_Inbox_limit_set (ok_Inbox_limit_set T) (hr.mono (by decide)) T.B_Inbox_limit_set (passes_call (takes_of rfl rfl rfl rfl) (fun _ _ _ _ h => h)) rfl)
      (pss_cons (ps_fld (pv 0) pe_int rfl)
      (pss_cons (ps_fld (pv 0) pe_int rfl)
      (pss_cons (ps_fld (pv 0) pe_non rfl)
      (pss_cons (ps_fld (pv 0) pe_int rfl)
      (pss_cons (ps_fld (pv 0) pe_dnewK rfl)
      (pss_cons (ps_fld (pv 0) (pe_makeR0 T.M_Spans (ok_Spans_init_ T) (hr.mono (by decide)) rfl T.g_Spans (passes_call (takes_of rfl rfl rfl rfl) (fun _ _ _ _ h => h))) rfl)
      (pss_one (ps_fld (pv 0) pe_int rfl))))))))), ?_⟩
    refine st_Inbox_init_ ?_
    o_args
    refine ⟨p, dx, _, rfl, hp, ?_⟩
    refine ⟨p, dx, _, x, rfl, hp, by decide, ?_⟩
    rcases h with ⟨n, rfl, h0, h1, k⟩ | ⟨ho, hE⟩
    · refine .inl ⟨n, rfl, h0, h1, fun H1 s1 h1 => ?_⟩
      o_args
      refine fstore h1 T.cl_Inbox T.n_Inbox_next_offset (Nat.le_of_ble_eq_true rfl) rfl fun H2 s2 h2 => ?_
      o_args
      refine fstore h2 T.cl_Inbox T.n_Inbox_read_offset (Nat.le_of_ble_eq_true rfl) rfl fun H3 s3 h3 => ?_
      o_args
      refine fstore h3 T.cl_Inbox T.n_Inbox_final (Nat.le_of_ble_eq_true rfl) rfl fun H4 s4 h4 => ?_
      o_args
      refine fstore h4 T.cl_Inbox T.n_Inbox_urgent_end (Nat.le_of_ble_eq_true rfl) rfl fun H5 s5 h5 => ?_
      o_args
      intro d nd
      have sd := Same.new (o := .dK []) nd
      have hd : L2.upd H5 d (.dK []) d = some (.dK []) := upd_same
      generalize L2.upd H5 d (.dK []) = H6 at sd hd
      have dp : d ≠ p := fun e => by rw [e, h5] at nd; cases nd
      o_args
      refine fstore (sd _ _ h5) T.cl_Inbox T.n_Inbox__stored (Nat.le_of_ble_eq_true rfl) rfl fun H7 s7 h7 => ?_
      have hd7 := s7 _ _ dp hd
      o_args
      refine make_spans0 fun e H8 ne s8 hS => ?_
      have ep : p ≠ e := fun z => by rw [← z, h7] at ne; cases ne
      have ed : e ≠ d := fun z => by rw [z, hd7] at ne; cases ne
      o_args
      refine fstore (s8 _ _ h7) T.cl_Inbox T.n_Inbox__ahead (Nat.le_of_ble_eq_true rfl) rfl fun H9 s9 h9 => ?_
      o_args
      refine fstore h9 T.cl_Inbox T.n_Inbox__latest (Nat.le_of_ble_eq_true rfl) rfl fun H10 s10 h10 => ?_
      o_args
      have X5 : SameX p H H5 := (((s1.trans s2).trans s3).trans s4).trans s5
      have c5 : Ch [p] H H5 := Ch.ofX (by simp) X5 h5
      have c7 : Ch [p] H H7 := (c5.trans (Ch.of sd)).trans (Ch.ofX (by simp) s7 h7)
      have c10 : Ch [p] H8 H10 := (Ch.ofX (by simp) s9 h9).trans (Ch.ofX (by simp) s10 h10)
      have nd0 : H d = none := c5.none nd
      have ne0 : H e = none := c7.none ne
      refine k d e H10 nd0 ne0 ((c7.trans (Ch.of s8)).trans c10) fun F A pF => ⟨⟨_, h10⟩, ⟨[], (c10.at (by simp [dp]) (s8 _ _ hd7)), Tells.nil, Nat.le_refl _⟩, ?_, ep, ⟨h0, by assumption⟩, List.mem_cons_of_mem _ pF, List.mem_cons_self⟩
      refine (hS (d :: F) ?_).ch c10 (fun b hb => by rw [List.mem_singleton.mp hb]; exact List.mem_cons_of_mem _ pF)
      exact .cons hd7 (A.ch c7)
    · exact .inr ⟨ho, hE⟩
def sp_Inbox_limit (C Cs : Addr) : Sp := fun vs H Q _ => ∃ (p d e : Addr) (F : List Addr) (m : Nat) (B : Ib), vs = [.ref p] ∧ InAt C Cs p d e F m B H ∧ Q (.int B.lim) H
theorem ok_Inbox_limit (T : Txt K mg) : FnOk P w K mg base CX0 1 T.a_Inbox_limit T.fd_Inbox_limit ["self"] (sp_Inbox_limit T.c_Inbox T.c_Spans) := by
  have S := sc_Inbox_limit
  refine T.F_Inbox_limit.ok S (fun vs H Q E h => ?_) (fun cdv A outer s H vs Q E hr h => ?_)
  · obtain ⟨p, d, e, F, m, B, rfl, _⟩ := h
    rfl
  · obtain ⟨p, d, e, F, m, B, rfl, I, k⟩ := h
    obtain ⟨dx, hp⟩ := I.oo
    refine ⟨_, (pss_one (ps_ret (pe_fld (pv 0) rfl))), ?_⟩
    refine st_Inbox_limit ?_
    o_args
    refine fget hp T.cl_Inbox T.n_Inbox__limit rfl ?_
    o_args
    exact k
def Ib.edge (B : Ib) : Int := max B.nx (B.rd + B.lim)
def sp_Inbox_edge (C Cs : Addr) : Sp := fun vs H Q _ => ∃ (p d e : Addr) (F : List Addr) (m : Nat) (B : Ib), vs = [.ref p] ∧ InAt C Cs p d e F m B H ∧ Q (.int B.edge) H
theorem ok_Inbox_edge (T : Txt K mg) : FnOk P w K mg base CX0 1 T.a_Inbox_edge T.fd_Inbox_edge ["self"] (sp_Inbox_edge T.c_Inbox T.c_Spans) := by
  have S := sc_Inbox_edge
  refine T.F_Inbox_edge.ok S (fun vs H Q E h => ?_) (fun cdv A outer s H vs Q E hr h => ?_)
  · obtain ⟨p, d, e, F, m, B, rfl, _⟩ := h
    rfl
  · obtain ⟨p, d, e, F, m, B, rfl, I, k⟩ := h
    obtain ⟨dx, hp⟩ := I.oo
    refine ⟨_, (pss_one (ps_ret (pe_callB (id := "max") (call_max2K rfl) (by rfl) T.b_max (by decide +kernel) (pa_cons (pe_fld (pv 0) rfl) (pa_cons (pe_op op_add (pe_fld (pv 0) rfl) (pe_fld (pv 0) rfl)) pa_nil))))), ?_⟩
    refine st_Inbox_edge ?_
    o_args
    refine fget hp T.cl_Inbox T.n_Inbox_next_offset rfl ?_
    o_args
    refine fget hp T.cl_Inbox T.n_Inbox_read_offset rfl ?_
    o_args
    refine fget hp T.cl_Inbox T.n_Inbox__limit rfl ?_
    o_args
    exact k
def sp_Inbox_room (C Cs : Addr) : Sp := fun vs H Q _ => ∃ (p d e : Addr) (F : List Addr) (m : Nat) (B : Ib), vs = [.ref p] ∧ InAt C Cs p d e F m B H ∧ Q (.int (B.edge - B.nx)) H
def sp_Inbox_ready (C Cs : Addr) : Sp := fun vs H Q _ => ∃ (p d e : Addr) (F : List Addr) (m : Nat) (B : Ib), vs = [.ref p] ∧ InAt C Cs p d e F m B H ∧ Q (.int (B.nx - B.rd)) H
theorem ok_Inbox_ready (T : Txt K mg) : FnOk P w K mg base CX0 1 T.a_Inbox_ready T.fd_Inbox_ready ["self"] (sp_Inbox_ready T.c_Inbox T.c_Spans) := by
  have S := sc_Inbox_ready
  refine T.F_Inbox_ready.ok S (fun vs H Q E h => ?_) (fun cdv A outer s H vs Q E hr h => ?_)
  · obtain ⟨p, d, e, F, m, B, rfl, _⟩ := h
    rfl
  · obtain ⟨p, d, e, F, m, B, rfl, I, k⟩ := h
    obtain ⟨dx, hp⟩ := I.oo
    refine ⟨_, (pss_one (ps_ret (pe_op op_sub (pe_fld (pv 0) rfl) (pe_fld (pv 0) rfl)))), ?_⟩
    refine st_Inbox_ready ?_
    o_args
    refine fget hp T.cl_Inbox T.n_Inbox_next_offset rfl ?_
    o_args
    refine fget hp T.cl_Inbox T.n_Inbox_read_offset rfl ?_
    o_args
    exact k
def Ib.stop (B : Ib) : Int := match B.fin with
  | none => B.edge
  | some n => min B.edge n
def sp_Inbox_stop (C Cs : Addr) : Sp := fun vs H Q _ => ∃ (p d e : Addr) (F : List Addr) (m : Nat) (B : Ib), vs = [.ref p] ∧ InAt C Cs p d e F m B H ∧ Q (.int B.stop) H
theorem ok_Inbox_stop (T : Txt K mg) : FnOk P w K mg base CX0 3 T.a_Inbox_stop T.fd_Inbox_stop ["self"] (sp_Inbox_stop T.c_Inbox T.c_Spans) := by
  have S := sc_Inbox_stop
  refine T.F_Inbox_stop.ok S (fun vs H Q E h => ?_) (fun cdv A outer s H vs Q E hr h => ?_)
  · obtain ⟨p, d, e, F, m, B, rfl, _⟩ := h
    rfl
  · obtain ⟨p, d, e, F, m, B, rfl, I, k⟩ := h
    obtain ⟨dx, hp⟩ := I.oo
    unfold Ib.stop at k
    refine ⟨_, (pss_one (ps_ret (pe_ifExp (pt_cmpR op_isN (pe_fld (pv 0) rfl) pe_non (nomark _)) (pe_prop (pv 0) T.cl_Inbox T.PR_Inbox_edge (ok_Inbox_edge T) (hr.mono (by decide)) T.B_Inbox_edge .nil pass0 rfl) (pe_callB (id := "min") (call_min2K rfl) (by rfl) T.b_min (by decide +kernel) (pa_cons (pe_prop (pv 0) T.cl_Inbox T.PR_Inbox_edge (ok_Inbox_edge T) (hr.mono (by decide)) T.B_Inbox_edge .nil pass0 rfl) (pa_cons (pe_fld (pv 0) rfl) pa_nil)))))), ?_⟩
    refine st_Inbox_stop ?_
    o_args
    refine fget hp T.cl_Inbox T.n_Inbox_final rfl ?_
    o_args
    cases hf : B.fin with
    | none =>
      rw [hf] at k
      refine brT (by rfl) ?_
      o_args
      refine ⟨p, dx, _, rfl, hp, p, d, e, F, m, B, rfl, I, ?_⟩
      o_args
      exact k
    | some n =>
      rw [hf] at k
      refine brF (by rfl) ?_
      o_args
      refine ⟨p, dx, _, rfl, hp, p, d, e, F, m, B, rfl, I, ?_⟩
      o_args
      refine fget hp T.cl_Inbox T.n_Inbox_final rfl ?_
      rw [hf]
      exact x_min2 k
/-! ### counted places -/
theorem nodup_le {α : Type} [DecidableEq α] : ∀ {l m : List α}, l.Nodup → (∀ x ∈ l, x ∈ m) → l.length ≤ m.length
  | [], _, _, _ => Nat.zero_le _
  | x :: l, m, n, h => by
    obtain ⟨n1, n2⟩ := List.nodup_cons.mp n
    have hx := h x List.mem_cons_self
    have := nodup_le (m := m.erase x) n2 fun y hy => (List.mem_erase_of_ne (fun e => n1 (by rw [← e]; exact hy))).mpr (h y (List.mem_cons_of_mem _ hy))
    rw [List.length_erase_of_mem hx] at this
    have := List.length_pos_of_mem hx
    rw [List.length_cons]
    omega
def sumR (rs : List Run) : Int := (rs.map fun r => r.2 - r.1).sum
def cnt (f : Int → Bool) (lo : Int) : Nat → Int
  | 0 => 0
  | n + 1 => cnt f lo n + if f (lo + n) = true then 1 else 0
theorem cnt_le (f : Int → Bool) (lo : Int) : ∀ n, 0 ≤ cnt f lo n ∧ cnt f lo n ≤ n
  | 0 => ⟨Int.le_refl _, Int.le_refl _⟩
  | n + 1 => by
    have := cnt_le f lo n
    unfold cnt
    split <;> omega
theorem cnt_none {f : Int → Bool} {lo : Int} : ∀ {n : Nat}, (∀ o, f o = false) → cnt f lo n = 0
  | 0, _ => rfl
  | n + 1, h => by unfold cnt; rw [cnt_none h, if_neg (by rw [h]; exact fun z => nomatch z)]; rfl
theorem cnt_add {f g k : Int → Bool} {lo : Int} (h : ∀ o, (f o = true ↔ g o = true ∨ k o = true) ∧ ¬ (g o = true ∧ k o = true)) : ∀ {n : Nat}, cnt f lo n = cnt g lo n + cnt k lo n
  | 0 => rfl
  | n + 1 => by
    unfold cnt
    rw [cnt_add h]
    obtain ⟨h1, h2⟩ := h (lo + n)
    by_cases c : g (lo + n) = true
    · rw [if_pos c, if_pos (h1.mpr (.inl c)), if_neg (fun d => h2 ⟨c, d⟩)]; omega
    · by_cases d : k (lo + n) = true
      · rw [if_neg c, if_pos d, if_pos (h1.mpr (.inr d))]; omega
      · rw [if_neg c, if_neg d, if_neg (fun z => (h1.mp z).elim c d)]; omega
theorem cnt_in {a b lo : Int} (h : lo ≤ a) (hab : a ≤ b) : ∀ n : Nat, cnt (fun o => decide (a ≤ o ∧ o < b)) lo n = max 0 (min b (lo + n) - a)
  | 0 => by show (0 : Int) = _; omega
  | n + 1 => by
    unfold cnt
    rw [cnt_in h hab n]
    by_cases c : a ≤ lo + n ∧ lo + n < b
    · rw [if_pos (decide_eq_true c)]; omega
    · rw [if_neg (fun z => c (of_decide_eq_true z))]; omega
theorem sumR_cnt {lo : Int} {n : Nat} : ∀ {ws : List Run} {f : Int → Bool}, Nrm ws → (∀ r ∈ ws, lo ≤ r.1 ∧ r.2 ≤ lo + n) → (∀ o, f o = true ↔ Mem o ws) → sumR ws = cnt f lo n
  | [], f, _, _, h => by
    rw [cnt_none fun o => by cases e : f o with
      | false => rfl
      | true => exact absurd ((h o).mp e) Mem.nil]
    rfl
  | w :: ws, f, N, b, h => by
    obtain ⟨n1, n2, n3⟩ := Nrm.cons.mp N
    obtain ⟨b1, b2⟩ := b w List.mem_cons_self
    have e := cnt_add (f := f) (g := fun o => decide (w.1 ≤ o ∧ o < w.2)) (k := fun o => f o && decide (w.2 ≤ o)) (lo := lo) (fun o => by
      have ho := h o
      rw [Mem.cons] at ho
      have lt : Mem o ws → w.2 < o := fun ⟨q, hq, c⟩ => by have := n2 q hq; omega
      constructor
      · rw [Bool.and_eq_true, decide_eq_true_iff, decide_eq_true_iff]
        constructor
        · intro z
          rcases ho.mp z with c | c
          · exact .inl c
          · exact .inr ⟨z, by have := lt c; omega⟩
        · rintro (c | c)
          · exact ho.mpr (.inl c)
          · exact c.1
      · rw [Bool.and_eq_true, decide_eq_true_iff, decide_eq_true_iff]
        omega) (n := n)
    have i := sumR_cnt (lo := lo) (n := n) (ws := ws) (f := fun o => f o && decide (w.2 ≤ o)) n3 (fun r hr => b r (List.mem_cons_of_mem _ hr)) fun o => by
      rw [Bool.and_eq_true, decide_eq_true_iff, h o, Mem.cons]
      constructor
      · rintro ⟨c | c, d⟩
        · omega
        · exact c
      · rintro ⟨q, hq, c⟩
        exact ⟨.inr ⟨q, hq, c⟩, by have := n2 q hq; omega⟩
    rw [e, ← i, cnt_in b1 (by omega)]
    unfold sumR
    rw [List.map_cons, List.sum_cons]
    omega
/-- a run each for keys that are in the dict -/
theorem runs_le {kvs : List (Key × V)} {f : Int → Option Int} {rs : List Run} (t : Tells kvs f) (n : Nrm rs) (h : ∀ o, Mem o rs → f o ≠ none) : rs.length ≤ kvs.length := by
  have hp : (rs.map fun r => (Sum.inl r.1 : Key)).Nodup := by
    rw [List.Nodup, List.pairwise_map]
    have pos := n.1
    refine n.2.imp_of_mem fun {a b} ha hb c e => ?_
    have e := Sum.inl.inj e
    have := pos a ha
    omega
  have := nodup_le (m := kvs.map (·.1)) hp fun k hk => by
    obtain ⟨r, hr, rfl⟩ := List.mem_map.mp hk
    have := h r.1 ⟨r, hr, Int.le_refl _, n.1 r hr⟩
    have e := t r.1
    cases q : f r.1 with
    | none => exact absurd q this
    | some x =>
      rw [q] at e
      obtain ⟨p, hp, e2⟩ := Option.map_eq_some_iff.mp e
      exact List.mem_map.mpr ⟨p, List.mem_of_find?_eq_some hp, by have z := List.find?_some hp; simpa using z⟩
  simpa using this
/-! ### the inbox takes -/
/-- what is new of n bytes from off on -/
def Ib.neu (B : Ib) (off : Int) (n : Nat) (o : Int) : Prop := max off B.nx ≤ o ∧ o < min (off + n) B.stop ∧ ¬ Mem o B.ah
structure Good (B : Ib) : Prop where
  r1 : 1 ≤ B.rd
  rn : B.rd ≤ B.nx
  ha : ∀ o, Mem o B.ah ↔ B.st o ≠ none ∧ B.nx ≤ o
  nn : B.st B.nx = none
  lo : ∀ o, B.st o ≠ none → B.rd ≤ o
  fu : ∀ o, B.rd ≤ o → o < B.nx → B.st o ≠ none
structure Took (B B' : Ib) (off : Int) (ns : List Int) (r : Int) : Prop where
  li : B'.lim = B.lim
  rd : B'.rd = B.rd
  fi : B'.fin = B.fin
  ur : B'.urg = B.urg
  s1 : ∀ o, B.neu off ns.length o → B'.st o = ns[(o - off).toNat]?
  s0 : ∀ o, ¬ B.neu off ns.length o → B'.st o = B.st o
  n0 : B.nx ≤ B'.nx
  n1 : ∀ o, B.nx ≤ o → o < B'.nx → Mem o B.ah ∨ B.neu off ns.length o
  n2 : ¬ (Mem B'.nx B.ah ∨ B.neu off ns.length B'.nx)
  ha : ∀ o, Mem o B'.ah ↔ (Mem o B.ah ∨ B.neu off ns.length o) ∧ B'.nx ≤ o
  la : ((∀ o, ¬ B.neu off ns.length o) ∧ B'.la = B.la) ∨ (B.neu off ns.length B'.la ∧ ∀ o, B.neu off ns.length o → B'.la ≤ o)
  cn : ∀ f : Int → Bool, (∀ o, f o = true ↔ B.neu off ns.length o) → r = cnt f off ns.length
theorem Took.good {B B' : Ib} {off r : Int} {ns : List Int} (t : Took B B' off ns r) (g : Good B) : Good B' := by
  have hs : ∀ o, B'.st o ≠ none ↔ B.st o ≠ none ∨ B.neu off ns.length o := fun o => by
    by_cases c : B.neu off ns.length o
    · rw [t.s1 o c]
      have c' := c
      obtain ⟨c1, c2, _⟩ := c'
      rw [List.getElem?_eq_getElem (show (o - off).toNat < ns.length by omega)]
      exact ⟨fun _ => .inr c, fun _ => by simp⟩
    · rw [t.s0 o c]
      exact ⟨.inl, fun h => h.resolve_right c⟩
  have n0 := t.n0
  have rn := g.rn
  refine ⟨by rw [t.rd]; exact g.r1, by rw [t.rd]; omega, fun o => ?_, ?_, fun o h => ?_, fun o h1 h2 => ?_⟩
  · rw [t.ha o, hs o, g.ha o]
    constructor
    · rintro ⟨c | c, d⟩
      · exact ⟨.inl c.1, d⟩
      · exact ⟨.inr c, d⟩
    · rintro ⟨c | c, d⟩
      · exact ⟨.inl ⟨c, by omega⟩, d⟩
      · exact ⟨.inr c, d⟩
  · have := t.n2
    rw [g.ha] at this
    cases e : B'.st B'.nx with
    | none => rfl
    | some x =>
      rcases (hs _).mp (by rw [e]; exact fun z => nomatch z) with c | c
      · exact absurd (.inl ⟨c, n0⟩) this
      · exact absurd (.inr c) this
  · rw [t.rd]
    rcases (hs o).mp h with c | c
    · exact g.lo o c
    · have := c.1; omega
  · rw [t.rd] at h1
    rw [hs]
    by_cases c : o < B.nx
    · exact .inl (g.fu o h1 c)
    · rcases t.n1 o (by omega) h2 with d | d
      · exact .inl ((g.ha o).mp d).1
      · exact .inr d
section
variable {C Cs p d e x : Addr} {F G : List Addr} {m : Nat} {B : Ib} {H H' : Hp} {K : PySem.W.Frag}
theorem InAt.own (I : InAt C Cs p d e F m B H) (hx : H x = none) (s : Same H H') : InAt C Cs p d e (x :: F) m B H' := ⟨(I.same s).oo, (I.same s).dd, I.ee.own hx s, I.pe, I.li, List.mem_cons_of_mem _ I.ff.1, List.mem_cons_of_mem _ I.ff.2⟩
theorem InAt.less (I : InAt C Cs p d e F m B H) (h : ∀ b ∈ G, b ∈ F) (h1 : p ∈ G) (h2 : d ∈ G) : InAt C Cs p d e G m B H := ⟨I.oo, I.dd, I.ee.less h, I.pe, I.li, h1, h2⟩
theorem InAt.ch (I : InAt C Cs p d e F m B H) (c : Ch G H H') (h : ∀ b ∈ G, b ∈ F) (hp : p ∉ G) (hd : d ∉ G) : InAt C Cs p d e F m B H' := ⟨I.oo.elim fun dx h => ⟨dx, c.at hp h⟩, I.dd.elim fun k h => ⟨k, c.at hd h.1, h.2⟩, I.ee.ch c h, I.pe, I.li, I.ff⟩
theorem pair_cmp {rs : List Run} {r q : Run} (n : Nrm rs) (hr : r ∈ rs) (hq : q ∈ rs) : r = q ∨ r.2 < q.1 ∨ q.2 < r.1 := by
  obtain ⟨i, hi⟩ := List.mem_iff_getElem?.mp hr
  obtain ⟨j, hj⟩ := List.mem_iff_getElem?.mp hq
  have il := getq_lt hi
  have jl := getq_lt hj
  rw [List.getElem?_eq_getElem il] at hi
  rw [List.getElem?_eq_getElem jl] at hj
  cases hi
  cases hj
  rcases Nat.lt_trichotomy i j with c | c | c
  · exact .inr (.inl (List.pairwise_iff_getElem.mp n.2 i j il jl c))
  · subst c; exact .inl rfl
  · exact .inr (.inr (List.pairwise_iff_getElem.mp n.2 j i jl il c))
theorem SpA.out (S : SpA C e F B.ah H) : e ∉ F := by
  obtain ⟨dx, l, ts, h1, h2, h3, h4, h5, h6⟩ := S
  exact h3
theorem SeqA.chs {a : Addr} {xs : List V} (h : SeqA K H a xs) (c : Ch [p, d, e] H H') (I : InAt C Cs p d e F m B H) : SeqA K H' a xs := by
  obtain ⟨dxp, hp⟩ := I.oo
  obtain ⟨kvs, hd, _⟩ := I.dd
  obtain ⟨dxe, l, ts, he, _⟩ := I.ee
  have k : ∀ {o}, (∀ C dx fs, o ≠ .ins C dx fs) → (∀ kvs, o ≠ .dK kvs) → H a = some o → H' a = some o := fun n1 n2 ha => c.at (fun z => by
    simp only [List.mem_cons, List.not_mem_nil, or_false] at z
    rcases z with z | z | z <;> rw [z] at ha
    · rw [hp] at ha; exact n1 _ _ _ (Option.some.inj ha).symm
    · rw [hd] at ha; exact n2 _ (Option.some.inj ha).symm
    · rw [he] at ha; exact n1 _ _ _ (Option.some.inj ha).symm) ha
  rcases h with ((h | ⟨o, h⟩) | h) | ((h | ⟨o, h⟩) | h)
  · exact .inl (.inl (.inl (k (fun _ _ _ => nofun) (fun _ => nofun) h)))
  · exact .inl (.inl (.inr ⟨o, k (fun _ _ _ => nofun) (fun _ => nofun) h⟩))
  · exact .inl (.inr h)
  · exact .inr (.inl (.inl (k (fun _ _ _ => nofun) (fun _ => nofun) h)))
  · exact .inr (.inl (.inr ⟨o, k (fun _ _ _ => nofun) (fun _ => nofun) h⟩))
  · exact .inr (.inr h)
end
def sp_Inbox_move_on (C Cs : Addr) : Sp := fun vs H Q _ => ∃ (p d e : Addr) (F : List Addr) (m : Nat) (B : Ib), vs = [.ref p] ∧ InAt C Cs p d e F m B H ∧ Al F H ∧ B.ah.length < 20000 ∧ (∀ o, Mem o B.ah → B.nx ≤ o) ∧ 0 ≤ B.nx ∧
  ∀ nx' ah' H', B.nx ≤ nx' → (∀ o, B.nx ≤ o → o < nx' → Mem o B.ah) → ¬ Mem nx' B.ah → (∀ o, Mem o ah' ↔ Mem o B.ah ∧ nx' ≤ o) → InAt C Cs p d e F m { B with nx := nx', ah := ah' } H' → Ch [p, d, e] H H' → Q .non H'
theorem ok_Inbox_move_on (T : Txt K mg) : FnOk P w K mg base CX0 5 T.a_Inbox_move_on T.fd_Inbox_move_on ["self"] (sp_Inbox_move_on T.c_Inbox T.c_Spans) := by
  have S := sc_Inbox_move_on
  refine T.F_Inbox_move_on.ok S (fun vs H Q E h => ?_) (fun cdv A outer s H vs Q E hr h => ?_)
  · obtain ⟨p, d, e, F, m, B, rfl, _⟩ := h
    rfl
  · obtain ⟨p, d, e, F, m, B, rfl, I, A, hz, ge, n0, k⟩ := h
    obtain ⟨dx, hp⟩ := I.oo
    obtain ⟨kvs, hd, ht, hk⟩ := I.dd
    have O := I.ee.offs
    obtain ⟨dxe, le, tse, he, _⟩ := id I.ee
    refine ⟨_, (pss_cons (ps_set (i := 1) S.nd rfl (Or.inl rfl) (pe_meth (pe_fld (pv 0) rfl) T.cl_Spans T.m_Spans_holding (ok_Spans_holding T) (hr.mono (by decide)) T.B_Spans_holding .nil pass0 (pa_cons (pe_fld (pv 0) rfl) pa_nil)))
      (pss_one (ps_if (pt_cmpR op_notN (pv 1) pe_non (nomark _)) (pss_cons (ps_fld (pv 0) (pe_ix ix_tup (pv 1) pe_int (fun _ _ => rfl)) rfl)
      (pss_one (ps_expr (pe_meth (pe_fld (pv 0) rfl) T.cl_Spans T.m_Spans_drop (ok_Spans_drop T) (hr.mono (by decide)) T.B_Spans_drop .nil passL (pa_cons (pe_ix ix_tup (pv 1) pe_int (fun _ _ => rfl)) (pa_cons (pe_ix ix_tup (pv 1) pe_int (fun _ _ => rfl)) pa_nil)))))) pss_nil))), ?_⟩
    refine st_Inbox_move_on ?_
    o_args
    refine fget hp T.cl_Inbox T.n_Inbox__ahead rfl ?_
    o_args
    refine ⟨e, dxe, _, rfl, he, rfl, ?_⟩
    o_args
    refine fget hp T.cl_Inbox T.n_Inbox_next_offset rfl ?_
    o_args
    refine ⟨e, F, B.ah, _, rfl, I.ee, .inl ⟨_, rfl, ?_⟩⟩
    by_cases c : Mem B.nx B.ah
    · obtain ⟨r, rm, c1, c2⟩ := c
      refine .inl ⟨r, rm, c1, c2, fun t H1 s1 h1 => ?_⟩
      have I1 := I.same s1
      have hp1 := s1 _ _ hp
      have r1 : r.1 = B.nx := by
        have := ge r.1 ⟨r, rm, Int.le_refl _, O.nrm.1 r rm⟩
        omega
      o_args
      refine brF (by rfl) ?_
      o_args
      refine fstore hp1 T.cl_Inbox T.n_Inbox_next_offset (Nat.le_of_ble_eq_true rfl) rfl fun H2 s2 h2 => ?_
      have tp : t ≠ p := fun z => by rw [z, hp1] at h1; cases h1
      have h1' := s2 _ _ tp h1
      have hd2 := s2 _ _ (fun z => by rw [z, hp] at hd; cases hd) (s1 _ _ hd)
      have c2' : Ch [p] H1 H2 := Ch.ofX (by simp) s2 h2
      have e2 : SpA T.c_Spans e F B.ah H2 := I1.ee.ch c2' fun b hb => by rw [List.mem_singleton.mp hb]; exact I.ff.1
      o_args
      refine fget h2 T.cl_Inbox T.n_Inbox__ahead rfl ?_
      o_args
      refine ⟨e, dxe, _, rfl, s2 _ _ I.pe.symm (s1 _ _ he), rfl, ?_⟩
      o_args
      refine ⟨e, F, B.ah, _, _, rfl, e2, hz, .inl ⟨r.1, r.2, rfl, rfl, by omega, by omega, fun H3 rs' c3 hS z3 m3 => ?_⟩⟩
      o_args
      have A2 : Al F H2 := (A.same s1).ch c2'
      have ef : e ∉ F := I.ee.out
      have pe : p ∉ [e] := fun z => I.pe (List.mem_singleton.mp z)
      have de : d ∉ [e] := fun z => ef (by rw [← List.mem_singleton.mp z]; exact I.ff.2)
      refine k r.2 rs' H3 (by omega) (fun o q1 q2 => ⟨r, rm, by omega, q2⟩) (fun ⟨q, hq, d1, d2⟩ => ?_) (fun o => ?_) ⟨⟨dx, c3.at pe h2⟩, ⟨kvs, c3.at de hd2, ht, hk⟩, hS F A2 ef, I.pe, I.li, I.ff⟩ (((Ch.of s1).trans (c2'.more (by simp))).trans (c3.more (by simp)))
      · rcases pair_cmp O.nrm rm hq with z | z | z
        · subst z; omega
        · omega
        · omega
      · rw [m3 o]
        constructor
        · rintro ⟨a, b⟩
          have := ge o a
          exact ⟨a, by omega⟩
        · rintro ⟨a, b⟩
          exact ⟨a, by omega⟩
    · refine .inr ⟨c, ?_⟩
      o_args
      exact k B.nx B.ah H (Int.le_refl _) (fun o q1 q2 => by omega) c (fun o => ⟨fun a => ⟨a, ge o a⟩, fun a => a.1⟩) I Ch.refl
/-! ### the inbox takes -/
theorem x_listG {tg : TGen} {σ : L2.St} {H : Hp} {Q : VK} (q : tg σ H fun out H2 => ∀ p, H2 p = none → Q (.ref p) (upd H2 p (.lst out))) : tListG tg σ H Q := q
theorem x_methG {C : Addr} {m : Str} {sp : SpG} {dvs : List V} {E : XK} {ta : TE} {t : TA} {σ : L2.St} {H : Hp} {cont : List V → Hp → Prop} (q : ta σ H fun x H1 => ∃ a dx fs, x = .ref a ∧ H1 a = some (.ins C dx fs) ∧ fs.lookup m = none ∧ t σ H1 fun vs H2 => sp (x :: (vs ++ dvs)) H2 cont E) : tMethG C m sp dvs E ta t σ H cont := q
theorem sumR_snoc {ws : List Run} {r : Run} : sumR (ws ++ [r]) = sumR ws + (r.2 - r.1) := by unfold sumR; rw [List.map_append, List.sum_append]; simp
theorem sumR_le {lo : Int} {n : Nat} {ws : List Run} (N : Nrm ws) (b : ∀ r ∈ ws, lo ≤ r.1 ∧ r.2 ≤ lo + n) : 0 ≤ sumR ws ∧ sumR ws ≤ n := by
  rw [sumR_cnt (f := fun o => ws.any fun r => decide (r.1 ≤ o ∧ o < r.2)) N b fun o => by simp [Mem, List.any_eq_true]]
  exact cnt_le _ _ _
theorem Nrm.take {ws : List Run} (N : Nrm ws) (i : Nat) : Nrm (ws.take i) := ⟨fun r h => N.1 r (List.mem_of_mem_take h), N.2.sublist (List.take_sublist i ws)⟩
theorem stop_le (B : Ib) : B.stop ≤ B.edge := by unfold Ib.stop; split <;> omega
theorem InAt.dict {C Cs p d e : Addr} {F : List Addr} {m m' : Nat} {B : Ib} {H H' : Hp} {kvs : List (Key × V)} {st : Int → Option Int} (I : InAt C Cs p d e F m B H) (s : SameX d H H') (h : H' d = some (.dK kvs)) (t : Tells kvs st) (l : kvs.length ≤ m') : InAt C Cs p d e F m' { B with st := st } H' := by
  obtain ⟨dx, hp⟩ := I.oo
  obtain ⟨kv, hd, _⟩ := I.dd
  have pd : p ≠ d := fun z => by rw [z, hd] at hp; cases hp
  exact ⟨⟨dx, s _ _ pd hp⟩, ⟨kvs, h, t, l⟩, I.ee.ch (Ch.ofX (a := d) (G := [d]) (by simp) s h) (fun b hb => by rw [List.mem_singleton.mp hb]; exact I.ff.2), I.pe, I.li, I.ff⟩
def sp_Inbox_take (K : PySem.W.Frag) (C Cs Ce : Addr) : Sp := fun vs H Q E => ∃ (p d e : Addr) (F : List Addr) (m : Nat) (B : Ib) (ov x : V), vs = [.ref p, ov, x] ∧ InAt C Cs p d e F m B H ∧ Al F H ∧ Good B ∧ m ≤ 5000 ∧ B.nx ≤ 2 ^ 60 ∧
  ((∃ off, ov = .int off ∧ 0 ≤ off ∧ DataSp K Ce x H E fun ns => ∀ B' r H', ∀ m' : Nat, (m' : Int) = m + r → Took B B' off ns r → InAt C Cs p d e F m' B' H' → Ch [p, d, e] H H' → Q (.int r) H') ∨ (Less K H ov 0 ∧ Err Ce "number" ov H E))
theorem ok_Inbox_take (T : Txt K mg) : FnOk P w K mg base (L2.CX P w) 8 T.a_Inbox_take T.fd_Inbox_take ["self", "offset", "data"] (sp_Inbox_take K T.c_Inbox T.c_Spans T.c_InvalidNumber) := by
  have S := sc_Inbox_take
  refine T.F_Inbox_take.okX S (fun vs H Q E h => ?_) (fun cdv A outer s H vs Q E hr h => ?_)
  · obtain ⟨p, d, e, F, m, B, ov, x, rfl, _⟩ := h
    rfl
  · obtain ⟨p, d, e, F, m, B, ov, x, rfl, I, A, g, hm, hn, h⟩ := h
    refine ⟨_, (pss_cons (ps_if (pt_not (pt_val (pe_call (ok_is_at_least T) (hr.mono (by decide)) rfl T.g_is_at_least T.F_is_at_least.kp T.B_is_at_least .nil pass0 (pa_cons (pv 1) (pa_cons pe_int pa_nil))))) (pss_one (ps_raise rfl (takes_of rfl rfl rfl rfl) (pmk_oex T.X_InvalidNumber.o T.X_InvalidNumber.i T.X_InvalidNumber.t (ok_InvalidNumber_init_ T) (hr.mono (by decide)) T.B_InvalidNumber_init_ .nil pass0 rfl T.X_InvalidNumber.g (pa_cons (pv 1) pa_nil)))) pss_nil)
      (pss_cons (ps_expr (pe_call (ok_require_data T) (hr.mono (by decide)) rfl T.g_require_data T.F_require_data.kp T.B_require_data .nil (passes_call (takes_of rfl rfl rfl rfl) (fun _ _ _ _ h => h)) (pa_cons (pv 2) pa_nil)))
      (pss_cons (ps_set (i := 3) S.nd rfl (Or.inl rfl) (pe_callB (id := "max") (call_max2K rfl) (by rfl) T.b_max (by decide +kernel) (pa_cons (pv 1) (pa_cons (pe_fld (pv 0) rfl) pa_nil))))
      (pss_cons (ps_set (i := 4) S.nd rfl (Or.inl rfl) (pe_callB (id := "min") (call_min2K rfl) (by rfl) T.b_min (by decide +kernel) (pa_cons (pe_op op_add (pv 1) (pe_callB (id := "len") (call_lenK (K := K) rfl) (by rfl) T.b_len (by decide +kernel) (pa_cons (pv 2) pa_nil))) (pa_cons (pe_meth0 (pv 0) T.cl_Inbox T.m_Inbox_stop (ok_Inbox_stop T) (hr.mono (by decide)) T.B_Inbox_stop .nil pass0) pa_nil))))
      (pss_cons (ps_set (i := 5) S.nd rfl (Or.inl rfl) (pe_listG (E := fun _ _ _ => False) (pgen_meth (pe_fld (pv 0) rfl) T.cl_Spans T.m_Spans_gaps (ok_Spans_gaps T) (hr.mono (by decide)) T.B_Spans_gaps .nil (pa_cons (pv 3) (pa_cons (pv 4) pa_nil))) (passes_call (takes_of rfl rfl rfl rfl) (fun _ _ _ _ h => False.elim h)) (fun _ _ _ h => False.elim h) (hr.mono (by decide)) rfl T.b_list (by decide +kernel)))
      (pss_cons (ps_for (passes_of rfl) rfl (pi_list (pv 5)) (pg_tup rfl (pgs_cons (pg_name (i := 6) S.nd rfl (Or.inl rfl)) (pgs_cons (pg_name (i := 7) S.nd rfl (Or.inl rfl)) pgs_nil))) (pss_cons (ps_for (passes_of rfl) rfl (pi_range2 (by rfl) T.b_range (pa_cons (pv 6) (pa_cons (pv 7) pa_nil))) (pg_name (i := 8) S.nd rfl (Or.inl rfl)) (pss_one (ps_dput (room_u1 hr) (pe_fld (pv 0) rfl) (pv 8) (pe_ix ix_seq (pv 2) (pe_op op_sub (pv 8) (pv 1)) (fun _ _ => rfl)) rfl)))
      (pss_one (ps_expr (pe_meth (pe_fld (pv 0) rfl) T.cl_Spans T.m_Spans_put (ok_Spans_put T) (hr.mono (by decide)) T.B_Spans_put .nil (passes_call (takes_of rfl rfl rfl rfl) (fun _ _ _ _ h => h)) (pa_cons (pv 6) (pa_cons (pv 7) pa_nil)))))))
      (C8.pss_cut (ps_if (pt_truth (pv 5) (fun _ => rfl)) (pss_one (ps_fld (pv 0) (pe_ix ix_tup (pe_ix ix_list (pv 5) pe_int (fun _ _ => rfl)) pe_int (fun _ _ => rfl)) rfl)) pss_nil)
      (pss_cons (ps_expr (pe_meth0 (pv 0) T.cl_Inbox T.m_Inbox_move_on (ok_Inbox_move_on T) (hr.mono (by decide)) T.B_Inbox_move_on .nil pass0))
      (pss_one (ps_ret (pe_callB (id := "sum") (cr_sum rfl) (by rfl) T.b_sum (by decide +kernel) (pa_cons (pe_lc (own := [("low", 6), ("high", 7)]) (g := gTup K 2 (gCons (gName 6) (gCons (gName 7) gNil))) (tt := tYes) rfl S.nd (pi_list (pv 5)) (blkOk_by (N := ["self", "offset", "data", "least", "end", "wanted", "low", "high", "at"]) (sc := defScope s_Inbox_take) (by decide +kernel)) (fun _ _ _ _ _ => pg_tup rfl (pgs_cons (pg_name (i := 6) S.nd rfl (Or.inl rfl)) (pgs_cons (pg_name (i := 7) S.nd rfl (Or.inl rfl)) pgs_nil))) (fun _ _ _ _ _ => pts_nil) (fun _ _ _ _ _ => (pe_op op_sub (pv 7) (pv 6)))) pa_nil)))))))))))), ?_⟩
    refine st_Inbox_take ?_
    o_args
    rcases h with ⟨off, rfl, o0, h⟩ | ⟨hl, hE⟩
    · refine ⟨_, _, rfl, .inl ⟨off, rfl, o0, ?_⟩⟩
      o_args
      refine ⟨_, rfl, ?_⟩
      rcases h with ⟨a, ns, rfl, hA, hb, hz, k⟩ | ⟨hk, hE⟩ | ⟨a, ns, y, zs, rfl, hA, hb, ho, hE⟩
      · refine .inl ⟨a, ns, rfl, hA, hb, hz, fun H1 s1 => ?_⟩
        have I1 := I.same s1
        have A1 := A.same s1
        have hA1 := hA.sm s1
        obtain ⟨dx, hp⟩ := I1.oo
        obtain ⟨kvs, hd, ht, hk⟩ := I1.dd
        obtain ⟨dxe, le, tse, he, _⟩ := id I1.ee
        have ahl : B.ah.length ≤ m := Nat.le_trans (runs_le ht I.ee.offs.nrm fun o c => ((g.ha o).mp c).1) hk
        o_args
        refine fget hp T.cl_Inbox T.n_Inbox_next_offset rfl ?_
        o_args
        refine lenA hA1 ?_
        o_args
        refine ⟨p, dx, _, rfl, hp, rfl, ?_⟩
        o_args
        refine ⟨p, d, e, F, m, B, rfl, I1, ?_⟩
        o_args
        refine x_listG ?_
        refine x_methG ?_
        o_args
        refine fget hp T.cl_Inbox T.n_Inbox__ahead rfl ?_
        refine ⟨e, dxe, _, rfl, he, rfl, ?_⟩
        o_args
        refine ⟨e, F, B.ah, _, _, rfl, I1.ee, by omega, fun ts ws H2 nt s2 T2 zo N bd mem => ?_⟩
        intro l nl
        have s3 := Same.new (o := .lst (ts.map V.ref)) nl
        have r3 : RunsL l ts ws (upd H2 l (.lst (ts.map V.ref))) := ⟨upd_same, T2.same s3⟩
        generalize upd H2 l (.lst (ts.map V.ref)) = H3 at s3 r3
        have S3 := s2.trans s3
        have I3 := I1.same S3
        have hA3 := hA1.sm S3
        have old : ∀ {b}, H1 b = none → b ∉ [p, d, e] := fun nb z => by
          simp only [List.mem_cons, List.not_mem_nil, or_false] at z
          rcases z with z | z | z
          · rw [z, hp] at nb; cases nb
          · rw [z, hd] at nb; cases nb
          · rw [z, he] at nb; cases nb
        have lo : l ∉ [p, d, e] := old (none_of s2 nl)
        have to : ∀ t ∈ ts, t ∉ [p, d, e] := fun t ht => old (nt t ht)
        have sl := stop_le B
        have hL := I.li
        have g1 := g.r1
        have g2 := g.rn
        unfold Ib.edge at sl
        have Bd : ∀ r ∈ ws, off ≤ r.1 ∧ r.2 ≤ off + (ns.length : Nat) ∧ B.nx ≤ r.1 ∧ r.2 ≤ B.nx + 65535 ∧ r.1 < r.2 := fun r hr => by
          have := bd r hr
          have := N.1 r hr
          simp only [List.length_map] at *
          omega
        have sz : ∀ i, 0 ≤ sumR (ws.take i) ∧ sumR (ws.take i) ≤ (ns.length : Nat) := fun i => sumR_le (N.take i) fun r hr => ⟨(Bd r (List.mem_of_mem_take hr)).1, (Bd r (List.mem_of_mem_take hr)).2.1⟩
        o_args
        refine overL (SqL.of r3.1) (for_list (K := K) (a := l) (xs := ts.map V.ref) (fun i σ H' => ∃ a' b' c' ah st mi, σ = [some (.ref p), some (.int off), some (.ref a), some (.int (max off B.nx)), some (.int (min (off + ↑(ns.map V.int).length) B.stop)), some (.ref l), a', b', c'] ∧ Ch [p, d, e] H3 H' ∧ InAt T.c_Inbox T.c_Spans p d e F mi { B with st := st, ah := ah } H' ∧ (mi : Int) = m + sumR (ws.take i) ∧ ah.length ≤ B.ah.length + i ∧ (∀ o, Mem o ah ↔ Mem o B.ah ∨ Mem o (ws.take i)) ∧ (∀ o, Mem o (ws.take i) → st o = ns[(o - off).toNat]?) ∧ (∀ o, ¬ Mem o (ws.take i) → st o = B.st o)) ⟨none, none, none, B.ah, B.st, m, rfl, Ch.refl, I3, by rw [List.take_zero]; show (m : Int) = m + 0; omega, Nat.le_refl _, fun o => by rw [List.take_zero]; exact ⟨.inl, fun z => z.resolve_right Mem.nil⟩, fun o z => absurd z (by rw [List.take_zero]; exact Mem.nil), fun o _ => rfl⟩ (fun i σ H' _ ⟨_, _, _, _, _, _, _, c, _⟩ => SqL.of (c.at lo r3.1)) ?_ ?_)
        · rintro i v σ Hi hv ⟨a', b', c', ah, st, mi, rfl, ci, Ii, em, za, ma, t1, t0⟩
          have il := getq_lt hv
          rw [List.length_map, r3.len] at il
          obtain ⟨t, _, e2, ht3⟩ := (r3.ch ci lo to).at (List.getElem?_eq_getElem il)
          rw [e2] at hv
          cases hv
          have tk : ws.take (i + 1) = ws.take i ++ [ws[i]] := by rw [List.take_succ, List.getElem?_eq_getElem il]; rfl
          have B1 := Bd _ (List.getElem_mem il)
          have apart : ∀ o, Mem o (ws.take i) → ¬ (ws[i].1 ≤ o ∧ o < ws[i].2) := fun o ⟨q, hq, c⟩ z => by
            have := N.take (i + 1)
            rw [tk] at this
            have := (Nrm.snoc.mp this).2.2 q hq
            omega
          have sz1 := sz (i + 1)
          rw [tk, sumR_snoc] at sz1
          have sz0 := sz i
          generalize ws[i] = r at tk ht3 B1 apart sz1
          refine two_to ht3 ?_
          o_args
          refine ⟨r.1, r.2, rfl, ⟨by omega, by omega, by omega, by omega⟩, for_range (lo := r.1) (n := (r.2 - r.1).toNat) (fun j σ H' => ∃ c'' st', σ = [some (.ref p), some (.int off), some (.ref a), some (.int (max off B.nx)), some (.int (min (off + ↑(ns.map V.int).length) B.stop)), some (.ref l), some (.int r.1), some (.int r.2), c''] ∧ Ch [p, d, e] H3 H' ∧ InAt T.c_Inbox T.c_Spans p d e F (mi + j) { B with st := st', ah := ah } H' ∧ (∀ o, r.1 ≤ o → o < r.1 + j → st' o = ns[(o - off).toNat]?) ∧ (∀ o, ¬ (r.1 ≤ o ∧ o < r.1 + j) → st' o = st o)) ⟨c', st, rfl, ci, Ii, fun o _ _ => by omega, fun o _ => rfl⟩ ?_ ?_⟩
          · rintro j σ Hj jl ⟨c'', st', rfl, cj, Ij, u1, u0⟩
            have hAj := hA3.chs cj I3
            obtain ⟨dxj, hpj⟩ := Ij.oo
            obtain ⟨kj, hdj, htj, hkj⟩ := Ij.dd
            have jn : (r.1 + j - off).toNat < ns.length := by omega
            o_args
            refine ix_seqA (v := .int ns[(r.1 + j - off).toNat]) hAj (by
              have z := atI_nat (xs := ns.map V.int) (j := (r.1 + j - off).toNat) (v := .int ns[(r.1 + j - off).toNat]) (by rw [List.getElem?_map, List.getElem?_eq_getElem jn]; rfl)
              rwa [Int.toNat_of_nonneg (by omega)] at z) ?_
            o_args
            refine fget hpj T.cl_Inbox T.n_Inbox__stored rfl ?_
            o_args
            refine dputI hdj (by omega) fun Hk sk hk' => ?_
            o_args
            have hkl := length_putK kj (.inl (r.1 + j)) (.int ns[(r.1 + j - off).toNat])
            refine ⟨_, _, rfl, cj.trans (Ch.ofX (by simp) sk hk'), (Ij.dict sk hk' htj.put (m' := mi + (j + 1)) (by omega)), fun o q1 q2 => ?_, fun o q => ?_⟩
            · by_cases c : o = r.1 + j
              · rw [if_pos c, c, List.getElem?_eq_getElem jn]
              · rw [if_neg c]
                exact u1 o q1 (by omega)
            · rw [if_neg (by omega)]
              exact u0 o (by omega)
          · rintro σ Hj ⟨c'', st', rfl, cj, Ij, u1, u0⟩
            obtain ⟨dxj, hpj⟩ := Ij.oo
            obtain ⟨kj, hdj, htj, hkj⟩ := Ij.dd
            obtain ⟨dxe', _, _, hej, _⟩ := id Ij.ee
            have ahj := Ij.ee.offs
            o_args
            refine fget hpj T.cl_Inbox T.n_Inbox__ahead rfl ?_
            o_args
            refine ⟨e, dxe', _, rfl, hej, rfl, ?_⟩
            o_args
            refine ⟨e, F, ah, _, _, rfl, Ij.ee, by omega, .inl ⟨r.1, r.2, rfl, rfl, by omega, by omega, fun H4 rs' c4 hS z4 m4 => ?_⟩⟩
            have ef : e ∉ F := I.ee.out
            have pe : p ∉ [e] := fun z => I.pe (List.mem_singleton.mp z)
            have de : d ∉ [e] := fun z => ef (by rw [← List.mem_singleton.mp z]; exact I.ff.2)
            have Aj : Al F Hj := (A1.same S3).ch cj
            o_args
            refine ⟨_, _, _, rs', st', mi + (r.2 - r.1).toNat, rfl, cj.trans (c4.more (by simp)), ⟨⟨dxj, c4.at pe hpj⟩, ⟨kj, c4.at de hdj, htj, hkj⟩, hS F Aj ef, I.pe, I.li, I.ff⟩, by rw [tk, sumR_snoc]; omega, by omega, fun o => ?_, fun o q => ?_, fun o q => ?_⟩
            · rw [m4 o, ma o, tk, Mem.app, Mem.one, or_assoc]
            · rw [tk, Mem.app, Mem.one] at q
              by_cases c : r.1 ≤ o ∧ o < r.2
              · exact u1 o c.1 (by omega)
              · rw [u0 o (by omega)]
                exact t1 o (q.resolve_right c)
            · rw [tk, Mem.app, Mem.one] at q
              rw [u0 o (by omega)]
              exact t0 o fun z => q (.inl z)
        · rintro σ Hi ⟨a', b', c', ah, st, mi, rfl, ci, Ii, em, za, ma, t1, t0⟩
          rw [List.length_map, r3.len, List.take_length] at em ma t1 t0
          rw [List.length_map, r3.len] at za
          have sz1 := sz ws.length
          rw [List.take_length] at sz1
          have ne : ∀ o, Mem o ws ↔ B.neu off ns.length o := fun o => by
            rw [mem o]
            unfold Ib.neu
            rw [List.length_map]
          have ri := r3.ch ci lo to
          o_args
          refine ⟨fun σ H' => ∃ la, σ = [some (.ref p), some (.int off), some (.ref a), some (.int (max off B.nx)), some (.int (min (off + ↑(ns.map V.int).length) B.stop)), some (.ref l), a', b', c'] ∧ Ch [p, d, e] H3 H' ∧ InAt T.c_Inbox T.c_Spans p d e F mi { B with st := st, ah := ah, la := la } H' ∧ ((ws = [] ∧ la = B.la) ∨ ∃ w ws', ws = w :: ws' ∧ la = w.1), ?_, ?_⟩
          · o_args
            refine ⟨_, truL ri.1, ?_⟩
            cases ws with
            | nil =>
              have e0 : ts = [] := List.eq_nil_of_length_eq_zero r3.len
              subst e0
              o_args
              refine brT rfl ?_
              o_args
              exact ⟨_, rfl, ci, Ii, .inl ⟨rfl, rfl⟩⟩
            | cons w ws' =>
              obtain ⟨t, e1, e2, ht⟩ := ri.at (i := 0) rfl
              have e0 : ∃ tr, ts = t :: tr := by
                cases ts with
                | nil => cases e1
                | cons x y => cases e1; exact ⟨_, rfl⟩
              obtain ⟨tr, rfl⟩ := e0
              obtain ⟨dxi, hpi⟩ := Ii.oo
              obtain ⟨ki, hdi, hti, hki⟩ := Ii.dd
              o_args
              refine brF rfl ?_
              o_args
              refine ixL (i := 0) ri.1 rfl ?_
              o_args
              refine fstore (P := fun H' => ∃ la, [some (.ref p), some (.int off), some (.ref a), some (.int (max off B.nx)), some (.int (min (off + ↑(ns.map V.int).length) B.stop)), some (.ref l), a', b', c'] = [some (.ref p), some (.int off), some (.ref a), some (.int (max off B.nx)), some (.int (min (off + ↑(ns.map V.int).length) B.stop)), some (.ref l), a', b', c'] ∧ Ch [p, d, e] H3 H' ∧ InAt T.c_Inbox T.c_Spans p d e F mi { B with st := st, ah := ah, la := la } H' ∧ ((w :: ws' = [] ∧ la = B.la) ∨ ∃ w1 ws1, w :: ws' = w1 :: ws1 ∧ la = w1.1)) hpi T.cl_Inbox T.n_Inbox__latest (Nat.le_of_ble_eq_true rfl) rfl fun Hk sk hk' => ?_
              have ck : Ch [p] Hi Hk := Ch.ofX (by simp) sk hk'
              have dp : d ∉ [p] := fun z => by
                rw [← List.mem_singleton.mp z, hdi] at hpi; cases hpi
              exact ⟨w.1, rfl, ci.trans (ck.more (by simp)), ⟨⟨dxi, hk'⟩, ⟨ki, ck.at dp hdi, hti, hki⟩, Ii.ee.ch ck (fun b hb => by rw [List.mem_singleton.mp hb]; exact I.ff.1), I.pe, I.li, I.ff⟩, .inr ⟨w, ws', rfl, rfl⟩⟩
          · rintro σ H4 ⟨la, rfl, c4, I4, hla⟩
            obtain ⟨dx4, hp4⟩ := I4.oo
            have A4 : Al F H4 := (A1.same S3).ch c4
            have geN : ∀ o, Mem o ah → B.nx ≤ o := fun o z => by
              rcases (ma o).mp z with c | c
              · exact ((g.ha o).mp c).2
              · obtain ⟨q, hq, c⟩ := c
                have := Bd q hq
                omega
            o_args
            refine ⟨p, dx4, _, rfl, hp4, rfl, ?_⟩
            o_args
            refine ⟨p, d, e, F, mi, _, rfl, I4, A4, (show ah.length < 20000 by omega), geN, (show (0 : Int) ≤ B.nx by omega), fun nx' ah' H5 m0 m1 m2 m3 I5 c5 => ?_⟩
            have r5 := (r3.ch c4 lo to).ch c5 lo to
            o_args
            refine lcG2 (a := l) (xs := ts.map V.ref) (fun D i vs H' => SameX D H5 H' ∧ vs = ((ws.take i).map fun r => r.2 - r.1).map V.int) (fun x y => rfl) (fun R h => ⟨_, rfl, h⟩) (SqL.of r5.1) (by rw [List.length_map, r5.len]; omega) (fun D _ => ⟨SameX.upd, by simp⟩) (fun D i vs H' hD hP => SqL.of (hP.1 _ _ (ne_of_none r5.1 hD) r5.1)) (fun D i v vs H' hD hv hle h1 hP => ?_) (fun D vs H' hD h1 hle hP => ?_)
            · obtain ⟨s, e1⟩ := hP
              have il := getq_lt hv
              rw [List.length_map, r5.len] at il
              obtain ⟨t, _, e2, ht⟩ := r5.at (List.getElem?_eq_getElem il)
              rw [e2] at hv
              cases hv
              have tk : ws.take (i + 1) = ws.take i ++ [ws[i]] := by rw [List.take_succ, List.getElem?_eq_getElem il]; rfl
              generalize ws[i] = r at tk ht
              refine ⟨t, _, _, rfl, s _ _ (ne_of_none ht hD) ht, fun Y N hY hN => ?_⟩
              dsimp only [tYes]
              rw [if_pos rfl]
              o_args
              exact hY _ H' h1 ⟨s.upd', by rw [e1, tk]; simp⟩
            · obtain ⟨s, e1⟩ := hP
              rw [List.length_map, r5.len, List.take_length] at e1
              subst e1
              have s6 := Same.ofX hD s
              refine ⟨D, _, rfl, SqL.of h1, ?_⟩
              o_args
              refine k { B with st := st, nx := nx', ah := ah', la := la } _ _ mi em ⟨rfl, rfl, rfl, rfl, fun o z => t1 o ((ne o).mpr z), fun o z => t0 o fun y => z ((ne o).mp y), m0, fun o q1 q2 => ?_, fun z => m2 ?_, fun o => ?_, ?_, fun f hf => sumR_cnt N (fun r hr => ⟨(Bd r hr).1, (Bd r hr).2.1⟩) fun o => (hf o).trans (ne o).symm⟩ (I5.same s6) ((((Ch.of s1).trans (Ch.of S3)).trans (c4.trans c5)).trans (Ch.of s6))
              · exact ((ma o).mp (m1 o q1 q2)).imp id (ne o).mp
              · exact (ma _).mpr (z.imp id (ne _).mpr)
              · rw [m3 o]
                show Mem o ah ∧ _ ↔ _
                rw [ma o, ne o]
              · rcases hla with ⟨rfl, rfl⟩ | ⟨w, ws', rfl, rfl⟩
                · exact .inl ⟨fun o z => Mem.nil ((ne o).mpr z), rfl⟩
                · obtain ⟨n1, n2, _⟩ := Nrm.cons.mp N
                  refine .inr ⟨(ne _).mp ⟨w, List.mem_cons_self, Int.le_refl _, n1⟩, fun o z => ?_⟩
                  rcases Mem.cons.mp ((ne o).mpr z) with c | ⟨q, hq, c⟩
                  · exact c.1
                  · have := n2 q hq
                    show w.1 ≤ o
                    omega
      · refine .inr (.inl ⟨hk, ?_⟩)
        exact hE
      · refine .inr (.inr ⟨a, ns, y, zs, rfl, hA, hb, ho, ?_⟩)
        exact hE
    · refine ⟨_, _, rfl, .inr ⟨hl, ?_⟩⟩
      o_args
      refine x_mkO ?_
      o_args
      exact mkO_of T.X_InvalidNumber.o T.nX_InvalidNumber fun d H2 nd ss hx => hE d H2 ss hx
/-! ### more of the inbox -/
def Ib.fed (B : Ib) : Bool := decide (B.fin = some B.nx)
def sp_Inbox_ended (C Cs : Addr) : Sp := fun vs H Q _ => ∃ (p d e : Addr) (F : List Addr) (m : Nat) (B : Ib), vs = [.ref p] ∧ InAt C Cs p d e F m B H ∧ Q (.bl B.fed) H
theorem ok_Inbox_ended (T : Txt K mg) : FnOk P w K mg base CX0 1 T.a_Inbox_ended T.fd_Inbox_ended ["self"] (sp_Inbox_ended T.c_Inbox T.c_Spans) := by
  have S := sc_Inbox_ended
  refine T.F_Inbox_ended.ok S (fun vs H Q E h => ?_) (fun cdv A outer s H vs Q E hr h => ?_)
  · obtain ⟨p, d, e, F, m, B, rfl, _⟩ := h
    rfl
  · obtain ⟨p, d, e, F, m, B, rfl, I, k⟩ := h
    obtain ⟨dx, hp⟩ := I.oo
    unfold Ib.fed at k
    refine ⟨_, (pss_one (ps_ret (pe_and (pe_cmpR op_notN (pe_fld (pv 0) rfl) pe_non (nomark _)) (pe_one (pe_cmpR op_eq (pe_fld (pv 0) rfl) (pe_fld (pv 0) rfl) (nomark _)))))), ?_⟩
    refine st_Inbox_ended ?_
    o_args
    refine fget hp T.cl_Inbox T.n_Inbox_final rfl ?_
    o_args
    cases hf : B.fin with
    | none =>
      rw [hf] at k
      refine brT (by rfl) ?_
      exact k
    | some n =>
      rw [hf] at k
      refine brF (by rfl) ?_
      o_args
      refine fget hp T.cl_Inbox T.n_Inbox_final rfl ?_
      rw [hf]
      dsimp only [finV]
      o_args
      refine fget hp T.cl_Inbox T.n_Inbox_next_offset rfl ?_
      o_args
      rw [show decide (some n = some B.nx) = decide (n = B.nx) by simp] at k
      exact k
def Ib.exp (B : Ib) : Int := if B.fed = true then B.nx + 1 else B.nx
def sp_Inbox_expected (C Cs : Addr) : Sp := fun vs H Q _ => ∃ (p d e : Addr) (F : List Addr) (m : Nat) (B : Ib), vs = [.ref p] ∧ InAt C Cs p d e F m B H ∧ Q (.int B.exp) H
theorem ok_Inbox_expected (T : Txt K mg) : FnOk P w K mg base CX0 3 T.a_Inbox_expected T.fd_Inbox_expected ["self"] (sp_Inbox_expected T.c_Inbox T.c_Spans) := by
  have S := sc_Inbox_expected
  refine T.F_Inbox_expected.ok S (fun vs H Q E h => ?_) (fun cdv A outer s H vs Q E hr h => ?_)
  · obtain ⟨p, d, e, F, m, B, rfl, _⟩ := h
    rfl
  · obtain ⟨p, d, e, F, m, B, rfl, I, k⟩ := h
    obtain ⟨dx, hp⟩ := I.oo
    unfold Ib.exp at k
    refine ⟨_, (pss_one (ps_ret (pe_ifExp (pt_val (pe_prop (pv 0) T.cl_Inbox T.PR_Inbox_ended (ok_Inbox_ended T) (hr.mono (by decide)) T.B_Inbox_ended .nil pass0 rfl)) (pe_op op_add (pe_fld (pv 0) rfl) pe_int) (pe_fld (pv 0) rfl)))), ?_⟩
    refine st_Inbox_expected ?_
    o_args
    refine ⟨p, dx, _, rfl, hp, p, d, e, F, m, B, rfl, I, ?_⟩
    refine ⟨_, rfl, ?_⟩
    cases hb : B.fed with
    | true =>
      rw [hb, if_pos rfl] at k
      rw [if_pos rfl]
      o_args
      refine fget hp T.cl_Inbox T.n_Inbox_next_offset rfl ?_
      o_args
      exact k
    | false =>
      rw [hb, if_neg (by simp)] at k
      rw [if_neg (by simp)]
      o_args
      refine fget hp T.cl_Inbox T.n_Inbox_next_offset rfl ?_
      exact k
def sp_Inbox_urgent_count (C Cs : Addr) : Sp := fun vs H Q _ => ∃ (p d e : Addr) (F : List Addr) (m : Nat) (B : Ib), vs = [.ref p] ∧ InAt C Cs p d e F m B H ∧ Q (.int (max 0 (B.urg - B.rd))) H
theorem ok_Inbox_urgent_count (T : Txt K mg) : FnOk P w K mg base CX0 1 T.a_Inbox_urgent_count T.fd_Inbox_urgent_count ["self"] (sp_Inbox_urgent_count T.c_Inbox T.c_Spans) := by
  have S := sc_Inbox_urgent_count
  refine T.F_Inbox_urgent_count.ok S (fun vs H Q E h => ?_) (fun cdv A outer s H vs Q E hr h => ?_)
  · obtain ⟨p, d, e, F, m, B, rfl, _⟩ := h
    rfl
  · obtain ⟨p, d, e, F, m, B, rfl, I, k⟩ := h
    obtain ⟨dx, hp⟩ := I.oo
    refine ⟨_, (pss_one (ps_ret (pe_callB (id := "max") (call_max2K rfl) (by rfl) T.b_max (by decide +kernel) (pa_cons pe_int (pa_cons (pe_op op_sub (pe_fld (pv 0) rfl) (pe_fld (pv 0) rfl)) pa_nil))))), ?_⟩
    refine st_Inbox_urgent_count ?_
    o_args
    refine fget hp T.cl_Inbox T.n_Inbox_urgent_end rfl ?_
    o_args
    refine fget hp T.cl_Inbox T.n_Inbox_read_offset rfl ?_
    o_args
    exact k
def sp_Inbox_resize (K : PySem.W.Frag) (C Cs Ce : Addr) : Sp := fun vs H Q E => ∃ (p d e : Addr) (F : List Addr) (m : Nat) (B : Ib) (x : V), vs = [.ref p, x] ∧ InAt C Cs p d e F m B H ∧
  ((∃ n, x = .int n ∧ 1 ≤ n ∧ n ≤ 65535 ∧ ∀ H', Ch [p] H H' → InAt C Cs p d e F m { B with lim := n } H' → Q .non H') ∨ (Out K H x 1 65535 ∧ Err Ce "setting" (.str "limit") H E))
/-- the least offset at which the stream may end -/
def Ib.least (B : Ib) : Int := match B.ah.getLast? with
  | none => B.nx
  | some r => r.2
def sp_Inbox_finish (K : PySem.W.Frag) (C Cs Ce : Addr) : Sp := fun vs H Q E => ∃ (p d e : Addr) (F : List Addr) (m : Nat) (B : Ib) (x : V), vs = [.ref p, x] ∧ InAt C Cs p d e F m B H ∧
  ((B.fin ≠ none ∧ Q .non H) ∨ (B.fin = none ∧ ((∃ o, x = .int o ∧ B.least ≤ o ∧ ∀ H', Ch [p] H H' → InAt C Cs p d e F m { B with fin := some o } H' → Q .non H') ∨ (Less K H x B.least ∧ Err Ce "number" x H E))))
theorem ok_Inbox_finish (T : Txt K mg) : FnOk P w K mg base (L2.CX P w) 5 T.a_Inbox_finish T.fd_Inbox_finish ["self", "offset"] (sp_Inbox_finish K T.c_Inbox T.c_Spans T.c_InvalidNumber) := by
  have S := sc_Inbox_finish
  refine T.F_Inbox_finish.okX S (fun vs H Q E h => ?_) (fun cdv A outer s H vs Q E hr h => ?_)
  · obtain ⟨p, d, e, F, m, B, x, rfl, _⟩ := h
    rfl
  · obtain ⟨p, d, e, F, m, B, x, rfl, I, h⟩ := h
    obtain ⟨dx, hp⟩ := I.oo
    obtain ⟨kvs, hd, ht, hk⟩ := I.dd
    obtain ⟨dxe, le, tse, he, _⟩ := id I.ee
    refine ⟨_, (pss_cons (ps_if (pt_cmpR op_notN (pe_fld (pv 0) rfl) pe_non (nomark _)) (pss_one ps_retN) pss_nil)
      (pss_cons (ps_set (i := 2) S.nd rfl (Or.inl rfl) (pe_meth (pe_fld (pv 0) rfl) T.cl_Spans T.m_Spans_highest (ok_Spans_highest T) (hr.mono (by decide)) T.B_Spans_highest .nil pass0 (pa_cons pe_int pa_nil)))
      (C8.pss_cut (ps_set (i := 3) S.nd rfl (Or.inl rfl) (pe_ifExp (pt_cmpR op_isN (pv 2) pe_non (nomark _)) (pe_fld (pv 0) rfl) (pe_op op_add (pv 2) pe_int)))
      (pss_cons (ps_if (pt_not (pt_val (pe_call (ok_is_at_least T) (hr.mono (by decide)) rfl T.g_is_at_least T.F_is_at_least.kp T.B_is_at_least .nil pass0 (pa_cons (pv 1) (pa_cons (pv 3) pa_nil))))) (pss_one (ps_raise rfl (takes_of rfl rfl rfl rfl) (pmk_oex T.X_InvalidNumber.o T.X_InvalidNumber.i T.X_InvalidNumber.t (ok_InvalidNumber_init_ T) (hr.mono (by decide)) T.B_InvalidNumber_init_ .nil pass0 rfl T.X_InvalidNumber.g (pa_cons (pv 1) pa_nil)))) pss_nil)
      (pss_one (ps_fld (pv 0) (pv 1) rfl)))))), ?_⟩
    refine st_Inbox_finish ?_
    o_args
    refine fget hp T.cl_Inbox T.n_Inbox_final rfl ?_
    o_args
    rcases h with ⟨hf, k⟩ | ⟨hf, h⟩
    · cases hv : B.fin with
      | none => exact absurd hv hf
      | some f =>
        refine brF (by rfl) ?_
        o_args
        exact k
    rw [hf]
    refine brT (by rfl) ?_
    o_args
    refine fget hp T.cl_Inbox T.n_Inbox__ahead rfl ?_
    o_args
    refine ⟨e, dxe, _, rfl, he, rfl, ?_⟩
    o_args
    refine ⟨e, F, B.ah, rfl, I.ee, ?_⟩
    o_args
    refine ⟨fun σ H' => σ = [some (.ref p), some x, some (hiV B.ah), some (.int B.least)] ∧ H' = H, ?_, ?_⟩
    · unfold hiV Ib.least
      o_args
      cases hl : B.ah.getLast? with
      | none =>
        refine brT (by rfl) ?_
        dsimp only
        o_args
        refine fget hp T.cl_Inbox T.n_Inbox_next_offset rfl ?_
        o_args
        exact ⟨rfl, rfl⟩
      | some r =>
        refine brF (by rfl) ?_
        dsimp only
        o_args
        refine ⟨?_, rfl⟩
        rw [Int.sub_add_cancel]
    · rintro σ H1 ⟨rfl, rfl⟩
      o_args
      rcases h with ⟨o, rfl, h0, k⟩ | ⟨hl, hE⟩
      · refine ⟨_, _, rfl, .inl ⟨o, rfl, h0, ?_⟩⟩
        o_args
        refine fstore hp T.cl_Inbox T.n_Inbox_final (Nat.le_of_ble_eq_true rfl) rfl fun H1 s1 h1 => ?_
        o_args
        have c1 : Ch [p] _ H1 := Ch.ofX (by simp) s1 h1
        have dp : d ∉ [p] := fun z => by
          rw [← List.mem_singleton.mp z, hd] at hp; cases hp
        exact k H1 c1 ⟨⟨dx, h1⟩, ⟨kvs, c1.at dp hd, ht, hk⟩, I.ee.ch c1 (fun b hb => by rw [List.mem_singleton.mp hb]; exact I.ff.1), I.pe, I.li, I.ff⟩
      · refine ⟨_, _, rfl, .inr ⟨hl, ?_⟩⟩
        o_args
        refine x_mkO ?_
        o_args
        exact mkO_of T.X_InvalidNumber.o T.nX_InvalidNumber fun d H2 nd ss hx => hE d H2 ss hx
def sp_Inbox_mark_urgent (C Cs : Addr) : Sp := fun vs H Q _ => ∃ (p d e : Addr) (F : List Addr) (m : Nat) (B : Ib) (o : Int), vs = [.ref p, .int o] ∧ InAt C Cs p d e F m B H ∧ ∀ H', Ch [p] H H' → InAt C Cs p d e F m { B with urg := max B.urg o } H' → Q .non H'
theorem ok_Inbox_mark_urgent (T : Txt K mg) : FnOk P w K mg base CX0 1 T.a_Inbox_mark_urgent T.fd_Inbox_mark_urgent ["self", "offset"] (sp_Inbox_mark_urgent T.c_Inbox T.c_Spans) := by
  have S := sc_Inbox_mark_urgent
  refine T.F_Inbox_mark_urgent.ok S (fun vs H Q E h => ?_) (fun cdv A outer s H vs Q E hr h => ?_)
  · obtain ⟨p, d, e, F, m, B, o, rfl, _⟩ := h
    rfl
  · obtain ⟨p, d, e, F, m, B, o, rfl, I, k⟩ := h
    obtain ⟨dx, hp⟩ := I.oo
    obtain ⟨kvs, hd, ht, hk⟩ := I.dd
    refine ⟨_, (pss_one (ps_fld (pv 0) (pe_callB (id := "max") (call_max2K rfl) (by rfl) T.b_max (by decide +kernel) (pa_cons (pe_fld (pv 0) rfl) (pa_cons (pv 1) pa_nil))) rfl)), ?_⟩
    refine st_Inbox_mark_urgent ?_
    o_args
    refine fget hp T.cl_Inbox T.n_Inbox_urgent_end rfl ?_
    o_args
    refine fstore hp T.cl_Inbox T.n_Inbox_urgent_end (Nat.le_of_ble_eq_true rfl) rfl fun H1 s1 h1 => ?_
    o_args
    have c1 : Ch [p] H H1 := Ch.ofX (by simp) s1 h1
    have dp : d ∉ [p] := fun z => by
      rw [← List.mem_singleton.mp z, hd] at hp; cases hp
    exact k H1 c1 ⟨⟨dx, h1⟩, ⟨kvs, c1.at dp hd, ht, hk⟩, I.ee.ch c1 (fun b hb => by rw [List.mem_singleton.mp hb]; exact I.ff.1), I.pe, I.li, I.ff⟩
/-! ### the inbox is read -/
def Ib.got (B : Ib) (k : Int) : List Int := (List.range k.toNat).map fun i : Nat => (B.st (B.rd + (i : Int))).getD 0
def Ib.read (B : Ib) (k : Int) : Ib := { B with rd := B.rd + k, st := fun o => if B.rd ≤ o ∧ o < B.rd + k then none else B.st o }
theorem Good.read {B : Ib} {k : Int} (g : Good B) (h0 : 0 ≤ k) (h1 : k ≤ B.nx - B.rd) : Good (B.read k) := by
  have g1 := g.r1
  have g2 := g.rn
  have hs : ∀ o, (B.read k).st o ≠ none ↔ B.st o ≠ none ∧ B.rd + k ≤ o := fun o => by
    show (if _ then _ else _) ≠ none ↔ _
    by_cases c : B.rd ≤ o ∧ o < B.rd + k
    · rw [if_pos c]
      exact ⟨fun z => absurd rfl z, fun z => by omega⟩
    · rw [if_neg c]
      exact ⟨fun z => ⟨z, by have := g.lo o z; omega⟩, fun z => z.1⟩
  refine ⟨by show 1 ≤ B.rd + k; omega, by show B.rd + k ≤ B.nx; omega, fun o => ?_, ?_, fun o z => ((hs o).mp z).2, fun o z1 z2 => (hs o).mpr ⟨g.fu o (by have : B.rd + k ≤ o := z1; omega) z2, z1⟩⟩
  · rw [hs o]
    show Mem o B.ah ↔ (_ ∧ _) ∧ B.nx ≤ o
    rw [g.ha o]
    exact ⟨fun z => ⟨⟨z.1, by omega⟩, z.2⟩, fun z => ⟨z.1.1, z.2⟩⟩
  · show (if _ then none else B.st B.nx) = none
    rw [g.nn, ite_self]
theorem x_dpop {td ty : TE} {σ : L2.St} {H : Hp} {Q : VK} (q : td σ H fun x H1 => ∃ a, x = .ref a ∧ IsD H1 a ∧ ty σ H1 fun y H2 => ∃ kvs k v, H2 a = some (.dK kvs) ∧ y = kV k ∧ valV kvs k = some v ∧ Q v (upd H2 a (.dK (dropK kvs k)))) : tDPop1 td ty σ H Q := q
def sp_Inbox_read (K : PySem.W.Frag) (C Cs Ce : Addr) : Sp := fun vs H Q E => ∃ (p d e : Addr) (F : List Addr) (m : Nat) (B : Ib) (x : V), vs = [.ref p, x] ∧ InAt C Cs p d e F m B H ∧ Al F H ∧ Good B ∧ B.nx ≤ 50000 ∧
  ((∃ n, x = .int n ∧ 0 ≤ n ∧ ∀ t H', H' t = some (.tup ((B.got (min n (B.nx - B.rd))).map V.int)) → InAt C Cs p d e F m (B.read (min n (B.nx - B.rd))) H' → Ch [p, d, e] H H' → Q (.ref t) H') ∨ (Less K H x 0 ∧ Err Ce "number" x H E))
theorem ok_Inbox_read (T : Txt K mg) : FnOk P w K mg base (L2.CX P w) 3 T.a_Inbox_read T.fd_Inbox_read ["self", "count"] (sp_Inbox_read K T.c_Inbox T.c_Spans T.c_InvalidNumber) := by
  have S := sc_Inbox_read
  refine T.F_Inbox_read.okX S (fun vs H Q E h => ?_) (fun cdv A outer s H vs Q E hr h => ?_)
  · obtain ⟨p, d, e, F, m, B, x, rfl, _⟩ := h
    rfl
  · obtain ⟨p, d, e, F, m, B, x, rfl, I, A, g, hn, h⟩ := h
    obtain ⟨dx, hp⟩ := I.oo
    obtain ⟨kvs, hd, ht, hk⟩ := I.dd
    have g1 := g.r1
    have g2 := g.rn
    refine ⟨_, (pss_cons (ps_if (pt_not (pt_val (pe_call (ok_is_at_least T) (hr.mono (by decide)) rfl T.g_is_at_least T.F_is_at_least.kp T.B_is_at_least .nil pass0 (pa_cons (pv 1) (pa_cons pe_int pa_nil))))) (pss_one (ps_raise rfl (takes_of rfl rfl rfl rfl) (pmk_oex T.X_InvalidNumber.o T.X_InvalidNumber.i T.X_InvalidNumber.t (ok_InvalidNumber_init_ T) (hr.mono (by decide)) T.B_InvalidNumber_init_ .nil pass0 rfl T.X_InvalidNumber.g (pa_cons (pv 1) pa_nil)))) pss_nil)
      (pss_cons (ps_set (i := 2) S.nd rfl (Or.inl rfl) (pe_fld (pv 0) rfl))
      (pss_cons (ps_fldaug (pv 0) (pe_callB (id := "min") (call_min2K rfl) (by rfl) T.b_min (by decide +kernel) (pa_cons (pv 1) (pa_cons (pe_prop (pv 0) T.cl_Inbox T.PR_Inbox_ready (ok_Inbox_ready T) (hr.mono (by decide)) T.B_Inbox_ready .nil pass0 rfl) pa_nil))) ip_add)
      (pss_cons (ps_set (i := 3) S.nd rfl (Or.inl rfl) (pe_lst pa_nil))
      (pss_cons (ps_for (passes_of rfl) rfl (pi_range2 (by rfl) T.b_range (pa_cons (pv 2) (pa_cons (pe_fld (pv 0) rfl) pa_nil))) (pg_name (i := 4) S.nd rfl (Or.inl rfl)) (pss_one (ps_expr (pe_bm PySem.F.plainAttrs_list PySem.F.slot_list_append PySem.F.type_list_append mt_append (pv 3) (pa_cons (pe_dpop1 (pe_fld (pv 0) rfl) (pv 4) ⟨rfl, rfl, rfl, rfl⟩) pa_nil)))))
      (pss_one (ps_ret (pe_callTy (T := "tuple") (call_tupK (K := K) rfl) (by rfl) T.b_tuple (by decide +kernel) (pa_cons (pv 3) pa_nil))))))))), ?_⟩
    refine st_Inbox_read ?_
    o_args
    rcases h with ⟨n, rfl, h0, k⟩ | ⟨hl, hE⟩
    rotate_left
    · refine ⟨_, _, rfl, .inr ⟨hl, ?_⟩⟩
      o_args
      refine x_mkO ?_
      o_args
      exact mkO_of T.X_InvalidNumber.o T.nX_InvalidNumber fun d H2 nd ss hx => hE d H2 ss hx
    refine ⟨_, _, rfl, .inl ⟨n, rfl, h0, ?_⟩⟩
    o_args
    refine fget hp T.cl_Inbox T.n_Inbox_read_offset rfl ?_
    o_args
    refine ⟨p, _, dx, _, _, rfl, hp, T.cl_Inbox, T.n_Inbox_read_offset, rfl, ?_⟩
    o_args
    refine ⟨p, dx, _, rfl, hp, p, d, e, F, m, B, rfl, I, ?_⟩
    o_args
    generalize hkk : min n (B.nx - B.rd) = c at k
    have c0 : 0 ≤ c := by omega
    have c1 : c ≤ B.nx - B.rd := by omega
    refine ⟨dx, _, hp, Nat.le_of_ble_eq_true rfl, ?_⟩
    have s1 : SameX p H (upd H p (.ins T.c_Inbox dx ({ B with rd := B.rd + c }.fs d e))) := SameX.upd
    have h1 : upd H p (.ins T.c_Inbox dx ({ B with rd := B.rd + c }.fs d e)) p = some (.ins T.c_Inbox dx ({ B with rd := B.rd + c }.fs d e)) := upd_same
    show tSeq _ _ _ _ (upd H p (.ins T.c_Inbox dx ({ B with rd := B.rd + c }.fs d e)))
    generalize upd H p (.ins T.c_Inbox dx ({ B with rd := B.rd + c }.fs d e)) = H1 at s1 h1
    have dp : d ≠ p := fun z => by rw [z, hp] at hd; cases hd
    have hd1 := s1 _ _ dp hd
    have C1 : Ch [p] H H1 := Ch.ofX (by simp) s1 h1
    have I1 : InAt T.c_Inbox T.c_Spans p d e F m { B with rd := B.rd + c } H1 := ⟨⟨dx, h1⟩, ⟨kvs, hd1, ht, hk⟩, I.ee.ch C1 (fun b hb => by rw [List.mem_singleton.mp hb]; exact I.ff.1), I.pe, I.li, I.ff⟩
    o_args
    refine newList (by simp) fun f H2 nf s2 h2 => ?_
    have I2 := I1.own nf s2
    have nfH : H f = none := C1.none nf
    have fo : f ∉ [p, d, e] := fun z => by
      obtain ⟨dxe, _, _, he, _⟩ := id I1.ee
      simp only [List.mem_cons, List.not_mem_nil, or_false] at z
      rcases z with z | z | z
      · rw [z, h1] at nf; cases nf
      · rw [z, hd1] at nf; cases nf
      · rw [z, he] at nf; cases nf
    have fF : f ∉ F := (A.ch C1).new nf
    o_args
    refine fget (s2 _ _ h1) T.cl_Inbox T.n_Inbox_read_offset rfl ?_
    refine ⟨B.rd, B.rd + c, rfl, ⟨by omega, by omega, by omega, by omega⟩, for_range (lo := B.rd) (n := (B.rd + c - B.rd).toNat) (fun j σ H' => ∃ v st, σ = [some (.ref p), some (.int n), some (.int B.rd), some (.ref f), v] ∧ Ch [f, p, d, e] H2 H' ∧ H' f = some (.lst (((List.range j).map fun i : Nat => (B.st (B.rd + (i : Int))).getD 0).map V.int)) ∧ InAt T.c_Inbox T.c_Spans p d e (f :: F) m { B with rd := B.rd + c, st := st } H' ∧ (∀ o, st o = if B.rd ≤ o ∧ o < B.rd + (j : Int) then none else B.st o)) ⟨none, B.st, rfl, Ch.refl, h2, I2, fun o => by rw [if_neg (by omega)]⟩ ?_ ?_⟩
    · rintro j σ Hj jl ⟨v, st, rfl, cj, hf, Ij, hst⟩
      obtain ⟨dxj, hpj⟩ := Ij.oo
      obtain ⟨kj, hdj, htj, hkj⟩ := Ij.dd
      have full := g.fu (B.rd + j) (by omega) (by omega)
      have hv : st (B.rd + j) = B.st (B.rd + j) := by rw [hst, if_neg (by omega)]
      obtain ⟨x, hx⟩ : ∃ x, B.st (B.rd + j) = some x := by
        cases e : B.st (B.rd + j) with
        | none => exact absurd e full
        | some x => exact ⟨x, rfl⟩
      have hval := htj (B.rd + j)
      rw [show ({ B with rd := B.rd + c, st := st } : Ib).st = st from rfl, hv, hx] at hval
      o_args
      refine ⟨isList hf, ?_⟩
      o_args
      refine x_dpop ?_
      o_args
      refine fget hpj T.cl_Inbox T.n_Inbox__stored rfl ?_
      refine ⟨d, rfl, .inl ⟨kj, .inl hdj⟩, ?_⟩
      o_args
      refine ⟨kj, .inl (B.rd + j), .int x, hdj, rfl, hval, ?_⟩
      have s3 : SameX d Hj (upd Hj d (.dK (dropK kj (.inl (B.rd + j))))) := SameX.upd
      have h3 : upd Hj d (.dK (dropK kj (.inl (B.rd + j)))) d = some (.dK (dropK kj (.inl (B.rd + j)))) := upd_same
      generalize upd Hj d (.dK (dropK kj (.inl (B.rd + j)))) = H3 at s3 h3
      have fd : f ≠ d := fun z => fo (by simp [z])
      have I3 := Ij.dict s3 h3 htj.drop (Nat.le_trans (dropK_le kj _) hkj)
      o_args
      refine appList (s3 _ _ fd hf) (by simp; omega) fun H4 s4 h4 => ?_
      have I4 := I3.ch (Ch.ofX (a := f) (G := [f]) (by simp) s4 h4) (fun b hb => by rw [List.mem_singleton.mp hb]; exact List.mem_cons_self) (fun z => fo (by simp [← List.mem_singleton.mp z])) (fun z => fo (by simp [← List.mem_singleton.mp z]))
      o_args
      refine ⟨_, _, rfl, (cj.trans ((Ch.ofX (G := [f, p, d, e]) (by simp) s3 h3))).trans (Ch.ofX (by simp) s4 h4), ?_, I4, fun o => ?_⟩
      · rw [h4, List.range_succ, List.map_append, List.map_append]
        simp [hx]
      · show (if o = B.rd + (j : Int) then none else st o) = _
        rw [hst]
        by_cases q : o = B.rd + (j : Int)
        · rw [if_pos q, if_pos (by omega)]
        · rw [if_neg q]
          by_cases q2 : B.rd ≤ o ∧ o < B.rd + (j : Int)
          · rw [if_pos q2, if_pos (by omega)]
          · rw [if_neg q2, if_neg (by omega)]
    · rintro σ Hj ⟨v, st, rfl, cj, hf, Ij, hst⟩
      o_args
      refine ⟨f, _, rfl, .inl ⟨SqL.of hf, fun t nt => ?_⟩⟩
      have s5 := Same.new (o := .tup (((List.range (B.rd + c - B.rd).toNat).map fun i : Nat => (B.st (B.rd + (i : Int))).getD 0).map V.int)) nt
      refine k t _ (by rw [upd_same, show B.rd + c - B.rd = c by omega]; rfl) ?_ ((C1.more (by simp)).trans ((((Ch.of s2).trans cj).drop nf).trans (Ch.of s5)))
      have I5 := (Ij.same s5).less (G := F) (fun b hb => List.mem_cons_of_mem _ hb) I.ff.1 I.ff.2
      have e : st = fun o => if B.rd ≤ o ∧ o < B.rd + c then none else B.st o := funext fun o => by rw [hst o, show B.rd + ((B.rd + c - B.rd).toNat : Int) = B.rd + c by omega]
      rw [e] at I5
      exact I5
/-! ### what is drawn -/
def sp__law_is_whole (K : PySem.W.Frag) : Sp := fun vs H Q _ => ∃ (x : V) (r : Bool), vs = [x] ∧ IntK K H x r ∧ Q (.bl r) H
theorem ok__law_is_whole (T : Txt K mg) : FnOk P w K mg base CX0 1 T.a__law_is_whole T.fd__law_is_whole ["value"] (sp__law_is_whole K) := by
  have S := sc__law_is_whole
  refine T.F__law_is_whole.ok S (fun vs H Q E h => ?_) (fun cdv A outer s H vs Q E hr h => ?_)
  · obtain ⟨x, r, rfl, _⟩ := h
    rfl
  · obtain ⟨x, r, rfl, ⟨t, i, b, ty, hi, hb, rfl⟩, k⟩ := h
    refine ⟨_, (pss_one (ps_ret (pe_and (pe_callB (id := "isinstance") call_isi (by rfl) T.b_isinstance (by decide +kernel) (pa_cons (pv 0) (pa_cons (pe_bltn (v := .ty "int") (u := .type "int") (by rfl) T.b_int (by decide +kernel) rfl) pa_nil))) (pe_one (pe_not (pe_callB (id := "isinstance") call_isi (by rfl) T.b_isinstance (by decide +kernel) (pa_cons (pv 0) (pa_cons (pe_bltn (v := .ty "bool") (u := .type "bool") (by rfl) T.b_bool (by decide +kernel) rfl) pa_nil)))))))), ?_⟩
    refine ⟨_, rfl, _, _, _, _, i, rfl, .ty _, ty, hi, i, rfl, ?_⟩
    cases i with
    | false => exact iteF k
    | true => exact iteT ⟨_, rfl, _, _, _, _, b, rfl, .ty _, ty, hb, b, rfl, k⟩
/-- a list of ints, drawn one by one -/
theorem lcR {ta : TA} {tel : TE} {σ : L2.St} {H : Hp} {Q : VK} {j : Nat} {n : Int} (P : Addr → List Int → Hp → Prop) (hta : ∀ R : List V → Hp → Prop, R [.int n] H → ta σ H R) (n0 : 0 ≤ n) (n1 : n < 100000) (h0 : ∀ D, H D = none → P D [] (upd H D (.lst [])))
    (hs : ∀ D (i : Nat) ns H', H D = none → (i : Int) < n → H' D = some (.lst (ns.map V.int)) → ns.length = i → P D ns H' → ∀ Y : VK, (∀ x H3, H3 D = some (.lst (ns.map V.int)) → P D (ns ++ [x]) (upd H3 D (.lst ((ns ++ [x]).map V.int))) → Y (.int x) H3) → tel ((σ.set j none).set j (some (.int (0 + (i : Int))))) H' Y)
    (hd : ∀ D ns H', H D = none → H' D = some (.lst (ns.map V.int)) → (ns.length : Int) = n → P D ns H' → Q (.ref D) H') : tLc (iRng1 ta) (gName j) tYes tel [j] σ H Q := by
  refine hta _ ⟨n, rfl, by omega, by omega, fun D hD => lc_range (lo := 0) (n := n.toNat) (fun i H' => ∃ ns : List Int, ns.length = i ∧ H' D = some (.lst (ns.map V.int)) ∧ P D ns H') ⟨[], rfl, upd_same, h0 D hD⟩ ?_ ?_⟩
  · rintro i H' hi ⟨ns, hl, h1, hp⟩
    refine ⟨?_, ?_⟩
    · show ((((σ.set j none).set j (some (V.int (0 + (i : Int))))).set j none) = σ.set j none)
      rw [List.set_set, List.set_set]
    dsimp only [tYes]
    rw [if_pos rfl]
    refine hs D i ns H' hD (by omega) h1 hl hp _ fun x H3 e p => ⟨_, e, ?_, ns ++ [x], by rw [List.length_append, hl]; rfl, by rw [List.map_append]; exact upd_same, by rw [List.map_append] at p; exact p⟩
    rw [List.length_map, sizeLine_eq]
    omega
  · rintro H' ⟨ns, hl, h1, hp⟩
    exact hd D ns H' hD h1 (by omega) hp
theorem x_lcR {ta : TA} {tel : TE} {σ : L2.St} {H : Hp} {Q : VK} {j : Nat} (q : ta σ H fun vs H1 => ∃ n, vs = [.int n] ∧ tLc (iRng1 (tCons (tC (.int n)) tNil)) (gName j) tYes tel [j] σ H1 Q) : tLc (iRng1 ta) (gName j) tYes tel [j] σ H Q := by
  refine cast (congrArg (ta σ H) ?_) q
  funext vs H1
  refine propext ⟨?_, ?_⟩
  · rintro ⟨n, rfl, h⟩
    exact h
  · rintro ⟨n, rfl, h⟩
    exact ⟨n, rfl, n, rfl, h⟩
theorem Bytes.nil : Bytes [] := fun _ h => nomatch h
theorem Bytes.snoc {ns : List Int} {x : Int} (h : Bytes ns) (h0 : 0 ≤ x) (h1 : x ≤ 255) : Bytes (ns ++ [x]) := fun n hn => by
  rcases List.mem_append.mp hn with hn | hn
  · exact h n hn
  · rw [List.mem_singleton.mp hn]
    exact ⟨h0, h1⟩
theorem Bytes.take {ns : List Int} {k : Nat} (h : Bytes ns) : Bytes (ns.take k) := fun n hn => h n (List.mem_of_mem_take hn)
theorem Bytes.app {ns ms : List Int} (h : Bytes ns) (g : Bytes ms) : Bytes (ns ++ ms) := fun n hn => (List.mem_append.mp hn).elim (h n) (g n)
theorem Box.off {a l : Addr} {F : List Addr} {H : Hp} (B : Box a F H) (hl : H l = none) : l ≠ a := fun e => by
  obtain ⟨o, h⟩ := B.al
  rw [e, h] at hl
  cases hl
/-- bytes drawn behind one another into a new list -/
def Dn (a : Addr) (F : List Addr) (H : Hp) (D : Addr) (ns : List Int) (H' : Hp) : Prop := Bytes ns ∧ Box a (D :: F) H' ∧ Ch [D, a] H H'
theorem Dn.new {a D : Addr} {F : List Addr} {H : Hp} (B : Box a F H) (h : H D = none) : Dn a F H D [] (upd H D (.lst [])) := ⟨Bytes.nil, B.own h (Same.new h), Ch.of (Same.new h)⟩
theorem Dn.upd {a D : Addr} {F : List Addr} {H H' : Hp} {ns : List Int} {x : Int} {o : HO} {xs : List V} (h : Dn a F H D ns H') (h0 : 0 ≤ x) (h1 : x ≤ 255) (hd : H' D = some o) : Dn a F H D (ns ++ [x]) (upd H' D (.lst xs)) :=
  have c : Ch [D] H' (L2.upd H' D (.lst xs)) := Ch.ofX (by simp) SameX.upd upd_same
  ⟨h.1.snoc h0 h1, h.2.1.ch c (by simp), h.2.2.trans (c.more (by simp))⟩
theorem Dn.fin {a D : Addr} {F : List Addr} {H H' : Hp} {ns : List Int} (h : Dn a F H D ns H') (hD : H D = none) : Bytes ns ∧ Box a F H' ∧ Ch [a] H H' := ⟨h.1, h.2.1.less (fun b q => List.mem_cons_of_mem _ q), h.2.2.drop hD⟩
def sp__law_bytes : Sp := fun vs H Q _ => ∃ (a : Addr) (F : List Addr) (most : Nat), vs = [.ref a, .int most] ∧ 6 ≤ most ∧ most ≤ 1000 ∧ Box a F H ∧ ∀ d ns H', H d = none → H' d = some (.lst (ns.map V.int)) → Bytes ns → ns.length ≤ most → Box a (d :: F) H' → Ch [a] H H' → Q (.ref d) H'
theorem ok__law_bytes (T : Txt K mg) : FnOk P w K mg base CX0 2 T.a__law_bytes T.fd__law_bytes ["box", "most"] (sp__law_bytes) := by
  have S := sc__law_bytes
  refine T.F__law_bytes.ok S (fun vs H Q E h => ?_) (fun cdv A outer s H vs Q E hr h => ?_)
  · obtain ⟨a, F, most, rfl, _⟩ := h
    rfl
  · obtain ⟨a, F, most, rfl, z0, z1, B, k⟩ := h
    refine ⟨_, (pss_cons (ps_set (i := 2) S.nd rfl (Or.inl rfl) (pe_call (ok__law_draw T) (hr.mono (by decide)) rfl T.g__law_draw T.F__law_draw.kp T.B__law_draw .nil pass0 (pa_cons (pv 0) (pa_cons pe_int pa_nil))))
      (C8.pss_cut (ps_if (pt_cmpR op_eq (pe_call (ok__law_draw T) (hr.mono (by decide)) rfl T.g__law_draw T.F__law_draw.kp T.B__law_draw .nil pass0 (pa_cons (pv 0) (pa_cons pe_int pa_nil))) pe_int (nomark _)) (pss_one (ps_set (i := 2) S.nd rfl (Or.inl rfl) (pe_call (ok__law_draw T) (hr.mono (by decide)) rfl T.g__law_draw T.F__law_draw.kp T.B__law_draw .nil pass0 (pa_cons (pv 0) (pa_cons (pe_op op_add (pv 1) pe_int) pa_nil))))) pss_nil)
      (pss_cons (ps_if (pt_cmpR op_eq (pe_call (ok__law_draw T) (hr.mono (by decide)) rfl T.g__law_draw T.F__law_draw.kp T.B__law_draw .nil pass0 (pa_cons (pv 0) (pa_cons pe_int pa_nil))) pe_int (nomark _)) (pss_one (ps_ret (pe_lc (own := [("k", 5)]) (g := gName 5) (tt := tYes) rfl S.nd (pi_range1 (by rfl) T.b_range (pa_cons (pv 2) pa_nil)) (blkOk_by (N := ["box", "most", "many", "base", "step", "k"]) (sc := defScope s__law_bytes) (by decide +kernel)) (fun _ _ _ _ _ => pg_name (i := 5) S.nd rfl (Or.inl rfl)) (fun _ _ _ _ _ => pts_nil) (fun _ _ _ _ _ => (pe_call (ok__law_draw T) (hr.mono (by decide)) rfl T.g__law_draw T.F__law_draw.kp T.B__law_draw .nil pass0 (pa_cons (pv 0) (pa_cons pe_int pa_nil))))))) pss_nil)
      (pss_cons (ps_set (i := 3) S.nd rfl (Or.inr rfl) (pe_call (ok__law_draw T) (hr.mono (by decide)) rfl T.g__law_draw T.F__law_draw.kp T.B__law_draw .nil pass0 (pa_cons (pv 0) (pa_cons pe_int pa_nil))))
      (pss_cons (ps_set (i := 4) S.nd rfl (Or.inr rfl) (pe_call (ok__law_draw T) (hr.mono (by decide)) rfl T.g__law_draw T.F__law_draw.kp T.B__law_draw .nil pass0 (pa_cons (pv 0) (pa_cons pe_int pa_nil))))
      (pss_one (ps_ret (pe_lc (own := [("k", 5)]) (g := gName 5) (tt := tYes) rfl S.nd (pi_range1 (by rfl) T.b_range (pa_cons (pv 2) pa_nil)) (blkOk_by (N := ["box", "most", "many", "base", "step", "k"]) (sc := defScope s__law_bytes) (by decide +kernel)) (fun _ _ _ _ _ => pg_name (i := 5) S.nd rfl (Or.inl rfl)) (fun _ _ _ _ _ => pts_nil) (fun _ _ _ _ _ => (pe_op op_mod (pe_callTy (T := "int") call_int1 (by rfl) T.b_int (by decide +kernel) (pa_cons (pe_op op_add (pv 3) (pe_op op_mul (pv 5) (pv 4))) pa_nil)) pe_int)))))))))), ?_⟩
    refine st__law_bytes ?_
    o_args
    refine ⟨a, F, _, rfl, B, by decide, by decide, fun m H1 m0 m1 B1 c1 => ?_⟩
    o_args
    refine ⟨fun σ H' => ∃ m : Int, σ = [some (.ref a), some (.int most), some (.int m), none, none, none] ∧ 0 ≤ m ∧ m ≤ most ∧ Box a F H' ∧ Ch [a] H H', ?_, ?_⟩
    · o_args
      refine ⟨a, F, _, rfl, B1, by decide, by decide, fun w H2 w0 w1 B2 c2 => ?_⟩
      o_args
      refine brD (fun q => ?_) (fun q => ?_)
      · o_args
        refine ⟨a, F, _, rfl, B2, by omega, by omega, fun m' H3 m0' m1' B3 c3 => ?_⟩
        o_args
        exact ⟨_, rfl, m0', by omega, B3, (c1.trans c2).trans c3⟩
      · o_args
        exact ⟨_, rfl, m0, by omega, B2, c1.trans c2⟩
    rintro σ H3 ⟨m', rfl, m0', m1', B3, c3⟩
    o_args
    refine ⟨a, F, _, rfl, B3, by decide, by decide, fun w' H4 w0' w1' B4 c4 => ?_⟩
    have c4 := c3.trans c4
    o_args
    refine brD (fun q => ?_) (fun q => ?_)
    · o_args
      refine lcR (n := m') (Dn a F H4) (fun R q => ⟨_, rfl, q⟩) m0' (by omega) (fun D hD => Dn.new B4 hD) (fun D i ns H' hD hi hd hl hp Y hY => ?_) (fun D ns H' hD hd hl hp => ?_)
      · o_args
        refine ⟨a, D :: F, _, rfl, hp.2.1, by decide, by decide, fun x H5 x0 x1 B5 c5 => ?_⟩
        have hd5 := c5.at (by simp [B4.off hD]) hd
        exact hY x H5 hd5 (Dn.upd ⟨hp.1, B5, hp.2.2.trans (c5.more (by simp))⟩ x0 (by omega) hd5)
      · obtain ⟨b, B5, c5⟩ := hp.fin hD
        exact k D ns H' (c4.none hD) hd b (by omega) hp.2.1 (c4.trans c5)
    o_args
    refine ⟨a, F, _, rfl, B4, by decide, by decide, fun b H5 b0 b1 B5 c5 => ?_⟩
    o_args
    refine ⟨a, F, _, rfl, B5, by decide, by decide, fun st H6 s0 s1 B6 c6 => ?_⟩
    have c6 := (c4.trans c5).trans c6
    o_args
    refine lcR (n := m') (Dn a F H6) (fun R q => ⟨_, rfl, q⟩) m0' (by omega) (fun D hD => Dn.new B6 hD) (fun D i ns H' hD hi hd hl hp Y hY => ?_) (fun D ns H' hD hd hl hp => ?_)
    · o_args
      refine x_mulL ⟨by omega, by omega⟩ ?_
      o_args
      exact hY _ H' hd (Dn.upd hp (Int.emod_nonneg _ (by decide)) (by have := Int.emod_lt_of_pos (b + (0 + (i : Int)) * st) (show (0 : Int) < 256 by decide); omega) hd)
    · obtain ⟨b, B5, c5⟩ := hp.fin hD
      exact k D ns H' (c6.none hD) hd b (by omega) hp.2.1 (c6.trans c5)
/-! ### what is looked at -/
def sp__law_tuple_is (K : PySem.W.Frag) : Sp := fun vs H Q _ => ∃ (t d : Addr) (ns : List Int), vs = [.ref t, .ref d] ∧ H t = some (.tup (ns.map V.int)) ∧ H d = some (.lst (ns.map V.int)) ∧ ns.length ≤ 60000 ∧ Q (.bl true) H
theorem ok__law_tuple_is (T : Txt K mg) : FnOk P w K mg base CX0 2 T.a__law_tuple_is T.fd__law_tuple_is ["told", "due"] (sp__law_tuple_is K) := by
  have S := sc__law_tuple_is
  refine T.F__law_tuple_is.ok S (fun vs H Q E h => ?_) (fun cdv A outer s H vs Q E hr h => ?_)
  · obtain ⟨t, d, ns, rfl, _⟩ := h
    rfl
  · obtain ⟨t, d, ns, rfl, ht, hd, hz, k⟩ := h
    refine ⟨_, (pss_cons (ps_if (PW.pt (pw_or (pt_not (pt_val (pe_callB (id := "isinstance") call_isi (by rfl) T.b_isinstance (by decide +kernel) (pa_cons (pv 0) (pa_cons (pe_bltn (v := .ty "tuple") (u := .type "tuple") (by rfl) T.b_tuple (by decide +kernel) rfl) pa_nil))))) (pw_or1 (pt_cmpR op_ne (pe_callB (id := "len") (call_lenK (K := K) rfl) (by rfl) T.b_len (by decide +kernel) (pa_cons (pv 0) pa_nil)) (pe_callB (id := "len") (call_lenK (K := K) rfl) (by rfl) T.b_len (by decide +kernel) (pa_cons (pv 1) pa_nil)) (nomark _))))) (pss_one (ps_ret pe_bl)) pss_nil)
      (pss_cons (ps_for PassesOwn.never rfl (pi_range1 (by rfl) T.b_range (pa_cons (pe_callB (id := "len") (call_lenK (K := K) rfl) (by rfl) T.b_len (by decide +kernel) (pa_cons (pv 1) pa_nil)) pa_nil)) (pg_name (i := 2) S.nd rfl (Or.inl rfl)) (pss_one (ps_if (PW.pt (pw_or (pt_not (pt_val (pe_call (ok__law_is_whole T) (hr.mono (by decide)) rfl T.g__law_is_whole T.F__law_is_whole.kp T.B__law_is_whole .nil pass0 (pa_cons (pe_ix ix_tup (pv 0) (pv 2) (fun _ _ => rfl)) pa_nil)))) (pw_or1 (pt_cmpR op_ne (pe_ix ix_tup (pv 0) (pv 2) (fun _ _ => rfl)) (pe_ix ix_list (pv 1) (pv 2) (fun _ _ => rfl)) (nomark _))))) (pss_one (ps_ret pe_bl)) pss_nil)))
      (pss_one (ps_ret pe_bl)))), ?_⟩
    refine st__law_tuple_is ?_
    o_args
    refine ⟨_, _, _, _, true, rfl, .ty _, .base (.tup ht), kit_ty (by decide +kernel), ?_⟩
    o_args
    refine lenA (.inr (SqT.of ht)) ?_
    o_args
    refine lenA (.inl (SqL.of hd)) ?_
    o_args
    refine brDT rfl ?_
    o_args
    refine lenA (.inl (SqL.of hd)) ?_
    o_args
    rw [List.length_map]
    refine rngF (by omega) (by omega) ?_
    refine for_rangeK (fun i σ H' => (∃ z, σ = [some (.ref t), some (.ref d), z]) ∧ H' = H) ⟨⟨none, rfl⟩, rfl⟩ (fun i σ H' hi h => ?_) (fun σ H' h => ?_)
    · obtain ⟨⟨z, rfl⟩, rfl⟩ := h
      have il : i < ns.length := by omega
      have gi : (ns.map V.int)[i]? = some (.int ns[i]) := by rw [List.getElem?_map, List.getElem?_eq_getElem il]; rfl
      generalize ns[i] = x at gi
      o_args
      rw [show (0 : Int) + (i : Int) = (i : Int) by omega]
      refine ixT (SqT.of ht) gi ?_
      o_args
      refine ⟨_, true, rfl, intK_int x, ?_⟩
      o_args
      refine ixT (SqT.of ht) gi ?_
      o_args
      refine ixL hd gi ?_
      o_args
      refine brDT rfl ?_
      o_args
      exact ⟨⟨_, rfl⟩, rfl⟩
    · obtain ⟨⟨z, rfl⟩, rfl⟩ := h
      o_args
      exact k
def rLenD : List V → Hp → VK → Prop := fun xs H Q => ∃ a kvs, xs = [V.ref a] ∧ H a = some (.dK kvs) ∧ Q (.int (kvs.length : Nat)) H
theorem call_lenDK {X : Cx} : CallR X (.builtin "len") rLenD := by
  intro pins s σ H xs us Q I r h
  obtain ⟨a, kvs, rfl, ha, q⟩ := h
  obtain ⟨u, rfl, ru⟩ := vals1 r
  cases ru
  exact d_len I (.inl ha) fun t s' I' => ⟨.int kvs.length, H, I', ⟨t, rfl⟩, q⟩
theorem x_dnotin {ty td : TE} {σ : L2.St} {H : Hp} {Q : VK} (q : ty σ H fun y H1 => td σ H1 fun x H2 => ∃ a o, x = .ref a ∧ DGet H2 a y o ∧ Q (.bl (!o.isSome)) H2) : tDNotIn ty td σ H Q := q
theorem x_din {ty td : TE} {σ : L2.St} {H : Hp} {Q : VK} (q : ty σ H fun y H1 => td σ H1 fun x H2 => ∃ a o, x = .ref a ∧ DGet H2 a y o ∧ Q (.bl o.isSome) H2) : tDIn ty td σ H Q := q
/-! ### a receiver: its inbox and the law's account -/
structure Rv where
  p : Addr
  d : Addr
  e : Addr
  q : Addr
  c : Addr
  g : Addr
  B : Ib
  ks : List Int
  kn : Bool
def Rv.kvs (o : Rv) : List (Key × V) := [(.inr "limit", .int o.B.lim), (.inr "seen", .ref o.c), (.inr "got", .ref o.g), (.inr "marked", .int o.B.urg), (.inr "known", .bl o.kn)]
/-- c holds what was seen: the keys ks, each once -/
def SeenAt (H : Hp) (c : Addr) (ks : List Int) : Prop := ∃ tk, H c = some (.dK tk) ∧ tk.length = ks.length ∧ ks.Nodup ∧ ∀ o : Int, valV tk (.inl o) = if o ∈ ks then some (.bl true) else none
theorem SeenAt.ch {H H' : Hp} {c : Addr} {ks : List Int} {G : List Addr} (h : SeenAt H c ks) (x : Ch G H H') (n : c ∉ G) : SeenAt H' c ks := h.elim fun tk h => ⟨tk, x.at n h.1, h.2⟩
theorem SeenAt.put {H' : Hp} {c : Addr} {ks : List Int} {tk : List (Key × V)} {k : Int} (e : H' c = some (.dK (putK tk (.inl k) (.bl true)))) (l : tk.length = ks.length) (n : ks.Nodup) (t : ∀ o : Int, valV tk (.inl o) = if o ∈ ks then some (.bl true) else none) (z : k ∉ ks) : SeenAt H' c (ks ++ [k]) := by
  have e1 := t k
  rw [if_neg z] at e1
  refine ⟨_, e, ?_, ?_, fun o => ?_⟩
  · rw [putK_new _ e1, List.length_append, List.length_append, l]; rfl
  · exact List.nodup_append.mpr ⟨n, by simp, fun x hx y hy e => by
      rw [List.mem_singleton.mp hy] at e
      exact z (e ▸ hx)⟩
  · rw [valV_put]
    by_cases q : o = k
    · rw [if_pos (congrArg Sum.inl q), if_pos (by rw [q]; simp)]
    · rw [if_neg (fun z => q (Sum.inl.inj z)), t o]
      by_cases m : o ∈ ks
      · rw [if_pos m, if_pos (List.mem_append_left _ m)]
      · rw [if_neg m, if_neg (fun z => by
          rcases List.mem_append.mp z with z | z
          · exact m z
          · exact q (List.mem_singleton.mp z))]
theorem dgetS {H : Hp} {c : Addr} {tk : List (Key × V)} {ks : List Int} {o : Int} (h : H c = some (.dK tk)) (t : ∀ o : Int, valV tk (.inl o) = if o ∈ ks then some (.bl true) else none) : DGet H c (.int o) (if o ∈ ks then some (.bl true) else none) := .inl ⟨tk, .inl o, .inl h, rfl, by rw [← t o]⟩
/-- the inbox holds what was written and what was seen -/
structure RelR (con : List Int) (B : Ib) (ks : List Int) (kn : Bool) : Prop where
  g : Good B
  seen : ∀ o, o ∈ ks ↔ (1 ≤ o ∧ o < B.rd) ∨ B.st o ≠ none
  val : ∀ o x, B.st o = some x → 1 ≤ o ∧ con[(o - 1).toNat]? = some x
  rdl : B.rd ≤ con.length + 1
  fin : B.fin = if kn = true then some (1 + (con.length : Int)) else none
section
variable {con : List Int} {B : Ib} {ks : List Int} {kn : Bool}
theorem RelR.st_le (R : RelR con B ks kn) {o : Int} (h : B.st o ≠ none) : 1 ≤ o ∧ o ≤ con.length := by
  cases e : B.st o with
  | none => exact absurd e h
  | some x =>
    obtain ⟨h1, h2⟩ := R.val o x e
    have := getq_lt h2
    omega
theorem RelR.nxl (R : RelR con B ks kn) : B.nx ≤ con.length + 1 := by
  have g := R.g
  have g1 := g.rn
  by_cases c : B.rd = B.nx
  · rw [← c]; exact R.rdl
  · have := (R.st_le (g.fu (B.nx - 1) (by omega) (by omega))).2
    omega
theorem RelR.in_ (R : RelR con B ks kn) {o : Int} (h1 : 1 ≤ o) (h2 : o < B.nx) : o ∈ ks := by
  rw [R.seen]
  by_cases c : o < B.rd
  · exact .inl ⟨h1, c⟩
  · exact .inr (R.g.fu o (by omega) h2)
theorem RelR.out (R : RelR con B ks kn) : B.nx ∉ ks := by
  rw [R.seen]
  rintro (c | c)
  · have := R.g.rn; omega
  · exact c R.g.nn
theorem RelR.ksl (R : RelR con B ks kn) (n : ks.Nodup) : ks.length ≤ con.length := by
  have := nodup_le (l := ks) (m := (List.range con.length).map fun i : Nat => 1 + (i : Int)) n fun o ho => by
    have b : 1 ≤ o ∧ o ≤ con.length := by
      rcases (R.seen o).mp ho with c | c
      · have := R.rdl; omega
      · exact R.st_le c
    exact List.mem_map.mpr ⟨(o - 1).toNat, List.mem_range.mpr (by omega), by omega⟩
  rwa [List.length_map, List.length_range] at this
/-- what is ahead was seen -/
theorem RelR.ah (R : RelR con B ks kn) {o : Int} (h : B.nx ≤ o) : Mem o B.ah ↔ o ∈ ks := by
  rw [R.g.ha, R.seen]
  have := R.g.rn
  exact ⟨fun z => .inr z.1, fun z => ⟨z.resolve_left (by omega), h⟩⟩
/-- more was written -/
theorem RelR.ext (R : RelR con B ks kn) {ys : List Int} (h : kn = true → ys = []) : RelR (con ++ ys) B ks kn := by
  refine ⟨R.g, R.seen, fun o x e => ?_, by rw [List.length_append]; have := R.rdl; omega, ?_⟩
  · obtain ⟨h1, h2⟩ := R.val o x e
    exact ⟨h1, by rw [List.getElem?_append_left (getq_lt h2)]; exact h2⟩
  · rw [R.fin]
    cases kn with
    | true => rw [h rfl, List.append_nil]
    | false => rfl
end
/-- the receiver stands; F: what is apart from the runs' own -/
structure Rw (C Cs : Addr) (F : List Addr) (con : List Int) (o : Rv) (H : Hp) : Prop where
  i : InAt C Cs o.p o.d o.e F o.ks.length o.B H
  q : H o.q = some (.dK o.kvs)
  c : SeenAt H o.c o.ks
  g : H o.g = some (.lst ((con.take (o.B.rd - 1).toNat).map V.int))
  r : RelR con o.B o.ks o.kn
  f : o.q ∈ F ∧ o.c ∈ F ∧ o.g ∈ F
  n : o.d ≠ o.q ∧ o.d ≠ o.c ∧ o.q ≠ o.c
def Rv.foot (o : Rv) : List Addr := [o.p, o.d, o.e, o.q, o.c, o.g]
section
variable {C Cs x : Addr} {F G : List Addr} {con : List Int} {o : Rv} {H H' : Hp}
theorem Rw.ch (w : Rw C Cs F con o H) (s : Ch G H H') (h : ∀ b ∈ G, b ∈ F) (n : ∀ b ∈ [o.p, o.d, o.q, o.c, o.g], b ∉ G) : Rw C Cs F con o H' := ⟨w.i.ch s h (n _ (by simp)) (n _ (by simp)), s.at (n _ (by simp)) w.q, w.c.ch s (n _ (by simp)), s.at (n _ (by simp)) w.g, w.r, w.f, w.n⟩
theorem Rw.same (w : Rw C Cs F con o H) (s : Same H H') : Rw C Cs F con o H' := w.ch (Ch.of (G := []) s) (fun _ z => nomatch z) (fun _ _ z => nomatch z)
theorem Rw.own (w : Rw C Cs F con o H) (hx : H x = none) (s : Same H H') : Rw C Cs (x :: F) con o H' := ⟨w.i.own hx s, (w.same s).q, (w.same s).c, (w.same s).g, w.r, ⟨List.mem_cons_of_mem _ w.f.1, List.mem_cons_of_mem _ w.f.2.1, List.mem_cons_of_mem _ w.f.2.2⟩, w.n⟩
theorem Rw.less (w : Rw C Cs F con o H) (h : ∀ b ∈ G, b ∈ F) (n : ∀ b ∈ [o.p, o.d, o.q, o.c, o.g], b ∈ G) : Rw C Cs G con o H := ⟨w.i.less h (n _ (by simp)) (n _ (by simp)), w.q, w.c, w.g, w.r, ⟨n _ (by simp), n _ (by simp), n _ (by simp)⟩, w.n⟩
theorem Rw.ext (w : Rw C Cs F con o H) {ys : List Int} (h : o.kn = true → ys = []) : Rw C Cs F (con ++ ys) o H := ⟨w.i, w.q, w.c, by
  have := w.r.rdl
  have g1 := w.r.g.r1
  rw [w.g, List.take_append_of_le_length (by omega)], w.r.ext h, w.f, w.n⟩
/-- the account's places are none of the inbox's -/
theorem Rw.apart (w : Rw C Cs F con o H) : o.q ∉ [o.p, o.d, o.e] ∧ o.c ∉ [o.p, o.d, o.e] ∧ o.g ∉ [o.p, o.d, o.e, o.q, o.c] ∧ o.p ∉ [o.q, o.c, o.g] ∧ o.d ∉ [o.q, o.c, o.g] ∧ o.e ∉ [o.q, o.c, o.g] := by
  obtain ⟨dx, hp⟩ := w.i.oo
  obtain ⟨kv, hd, _⟩ := id w.i.dd
  obtain ⟨dxe, l, ts, he, _⟩ := id w.i.ee
  have hq := w.q
  obtain ⟨tk, hc, _⟩ := id w.c
  have hg := w.g
  obtain ⟨n1, n2, n3⟩ := w.n
  have ne : ∀ {a b : Addr} {u v : HO}, H a = some u → H b = some v → u ≠ v → a ≠ b := fun h1 h2 n e => n (by rw [e, h2] at h1; exact (Option.some.inj h1).symm)
  have k1 := ne hq hp nofun
  have k2 := ne hq he nofun
  have k3 := ne hc hp nofun
  have k4 := ne hc he nofun
  have k5 := ne hg hp nofun
  have k6 := ne hg hd nofun
  have k7 := ne hg he nofun
  have k8 := ne hg hq nofun
  have k9 := ne hg hc nofun
  simp only [List.mem_cons, List.not_mem_nil, or_false, not_or]
  exact ⟨⟨k1, n1.symm, k2⟩, ⟨k3, n2.symm, k4⟩, ⟨k5, k6, k7, k8, k9⟩, ⟨k1.symm, k3.symm, k5.symm⟩, ⟨n1, n2, k6.symm⟩, ⟨k2.symm, k4.symm, k7.symm⟩⟩
end
def sp__law_next (C Cs : Addr) : Sp := fun vs H Q _ => ∃ (F : List Addr) (con : List Int) (o : Rv), vs = [.ref o.q] ∧ Rw C Cs F con o H ∧ con.length ≤ 400 ∧ Q (.int o.B.nx) H
theorem ok__law_next (T : Txt K mg) : FnOk P w K mg base CX0 1 T.a__law_next T.fd__law_next ["receiver"] (sp__law_next T.c_Inbox T.c_Spans) := by
  have S := sc__law_next
  refine T.F__law_next.ok S (fun vs H Q E h => ?_) (fun cdv A outer s H vs Q E hr h => ?_)
  · obtain ⟨F, con, o, rfl, _⟩ := h
    rfl
  · obtain ⟨F, con, o, rfl, w, hz, k⟩ := h
    have hq := w.q
    unfold Rv.kvs at hq
    obtain ⟨tk, hc, hl, nd, ht⟩ := id w.c
    have kl := w.r.ksl nd
    refine ⟨_, (pss_cons (ps_set (i := 1) S.nd rfl (Or.inl rfl) (pe_dget (room_u1 hr) (pv 0) pe_str (fun _ _ => rfl)))
      (pss_cons (ps_for PassesOwn.never rfl (pi_range1 (by rfl) T.b_range (pa_cons (pe_callB (id := "len") call_lenDK (by rfl) T.b_len (by decide +kernel) (pa_cons (pv 1) pa_nil)) pa_nil)) (pg_name (i := 2) S.nd rfl (Or.inl rfl)) (pss_one (ps_if (pt_cmp (pc_dnotin (room_u1 hr) (pe_op op_add (pv 2) pe_int) (pv 1)) rfl) (pss_one (ps_ret (pe_op op_add (pv 2) pe_int))) pss_nil)))
      (pss_one (ps_ret (pe_op op_add (pe_callB (id := "len") call_lenDK (by rfl) T.b_len (by decide +kernel) (pa_cons (pv 1) pa_nil)) pe_int))))), ?_⟩
    refine st__law_next ?_
    o_args
    refine ⟨o.c, tk, rfl, hc, ?_⟩
    o_args
    refine ⟨by omega, by omega, ?_⟩
    refine for_range (lo := 0) (n := ((tk.length : Nat) : Int).toNat) (fun i σ H' => ∃ v, σ = [some (.ref o.q), some (.ref o.c), v] ∧ H' = H ∧ ∀ j : Nat, j < i → 1 + (j : Int) ∈ o.ks) ⟨none, rfl, rfl, fun j h => absurd h (Nat.not_lt_zero _)⟩ ?_ ?_
    · rintro i σ Hi il ⟨v, rfl, rfl, all⟩
      o_args
      refine x_dnotin ?_
      o_args
      refine ⟨o.c, _, rfl, dgetS hc ht, ?_⟩
      by_cases m : 0 + (i : Int) + 1 ∈ o.ks
      · rw [if_pos m]
        refine ⟨false, rfl, ?_⟩
        rw [if_neg (by simp)]
        o_args
        refine ⟨_, rfl, rfl, fun j hj => ?_⟩
        by_cases e : j = i
        · rw [e, show (1 : Int) + (i : Int) = 0 + (i : Int) + 1 by omega]; exact m
        · exact all j (by omega)
      · rw [if_neg m]
        refine ⟨true, rfl, ?_⟩
        rw [if_pos rfl]
        o_args
        have e : o.B.nx = 0 + (i : Int) + 1 := by
          have g1 := w.r.g.r1
          have g2 := w.r.g.rn
          rcases Int.lt_trichotomy o.B.nx (0 + (i : Int) + 1) with c | c | c
          · have := all (o.B.nx - 1).toNat (by omega)
            rw [show (1 : Int) + (((o.B.nx - 1).toNat : Nat) : Int) = o.B.nx by omega] at this
            exact absurd this w.r.out
          · exact c
          · exact absurd (w.r.in_ (by omega) c) m
        rw [← e]
        exact k
    · rintro σ Hi ⟨v, rfl, rfl, all⟩
      o_args
      refine ⟨o.c, tk, rfl, hc, ?_⟩
      o_args
      have e : o.B.nx = (tk.length : Nat) + 1 := by
        have g1 := w.r.g.r1
        have g2 := w.r.g.rn
        rcases Int.lt_trichotomy o.B.nx ((tk.length : Nat) + 1 : Int) with c | c | c
        · have := all (o.B.nx - 1).toNat (by omega)
          rw [show (1 : Int) + (((o.B.nx - 1).toNat : Nat) : Int) = o.B.nx by omega] at this
          exact absurd this w.r.out
        · exact c
        · have := nodup_le (l := (List.range (o.B.nx - 1).toNat).map fun i : Nat => 1 + (i : Int)) (m := o.ks) (by
            rw [List.Nodup, List.pairwise_map]
            exact (List.nodup_range).imp fun {a b} ab e => ab (by omega)) fun x hx => by
            obtain ⟨i, hi, rfl⟩ := List.mem_map.mp hx
            have hi := List.mem_range.mp hi
            exact w.r.in_ (by omega) (by omega)
          rw [List.length_map, List.length_range] at this
          omega
      rw [← e]
      exact k
/-- bytes in a list or in a tuple -/
def DatW (H : Hp) (d : Addr) (ns : List Int) : Prop := H d = some (.lst (ns.map V.int)) ∨ H d = some (.tup (ns.map V.int))
theorem DatW.seq {K : PySem.W.Frag} {H : Hp} {d : Addr} {ns : List Int} (h : DatW H d ns) : SeqA K H d (ns.map V.int) := h.elim .lst .tup
theorem DatW.same {H H' : Hp} {d : Addr} {ns : List Int} (h : DatW H d ns) (s : Same H H') : DatW H' d ns := h.elim (fun h => .inl (s _ _ h)) fun h => .inr (s _ _ h)
theorem DatW.ch {H H' : Hp} {d : Addr} {ns : List Int} {G : List Addr} (h : DatW H d ns) (s : Ch G H H') (n : d ∉ G) : DatW H' d ns := h.elim (fun h => .inl (s.at n h)) fun h => .inr (s.at n h)
theorem DatW.some {H : Hp} {d : Addr} {ns : List Int} (h : DatW H d ns) : H d ≠ none := fun z => by rcases h with h | h <;> rw [z] at h <;> cases h
/-! ### bytes arrive -/
/-- ns stands in con from the offset on -/
def Sub (con : List Int) (off : Int) (ns : List Int) : Prop := 1 ≤ off ∧ ∀ i : Nat, i < ns.length → con[(off - 1).toNat + i]? = ns[i]?
theorem Sub.le {con ns : List Int} {off : Int} (h : Sub con off ns) (n : ns ≠ []) : off + ns.length ≤ con.length + 1 := by
  have l := List.length_pos_iff.mpr n
  have := h.2 (ns.length - 1) (by omega)
  rw [List.getElem?_eq_getElem (show ns.length - 1 < ns.length by omega)] at this
  have := getq_lt this
  have := h.1
  omega
def Rv.neu (o : Rv) (off : Int) (n : Nat) (k : Int) : Prop := max off o.B.nx ≤ k ∧ k < min (off + n) o.B.edge ∧ k ∉ o.ks
theorem RelR.neu {con : List Int} {o : Rv} {off : Int} {ns : List Int} (R : RelR con o.B o.ks o.kn) (s : Sub con off ns) (k : Int) : o.B.neu off ns.length k ↔ o.neu off ns.length k := by
  unfold Ib.neu Rv.neu
  have e : off ≤ k → k < off + ns.length → (k < o.B.stop ↔ k < o.B.edge) := fun h1 h2 => by
    have := s.le (fun z => by rw [z] at h2; simp at h2; omega)
    unfold Ib.stop
    rw [R.fin]
    split
    · exact Iff.rfl
    · rename_i n hn
      split at hn
      · cases hn
        omega
      · cases hn
  constructor
  · rintro ⟨h1, h2, h3⟩
    refine ⟨h1, ?_, ?_⟩
    · have := (e (by omega) (by omega)).mp (by omega)
      omega
    · rwa [R.ah (by omega)] at h3
  · rintro ⟨h1, h2, h3⟩
    refine ⟨h1, ?_, ?_⟩
    · have := (e (by omega) (by omega)).mpr (by omega)
      omega
    · rwa [R.ah (by omega)]
theorem RelR.took {con : List Int} {o : Rv} {off r : Int} {ns ks' : List Int} {B' : Ib} (R : RelR con o.B o.ks o.kn) (s : Sub con off ns) (t : Took o.B B' off ns r) (m : ∀ k, k ∈ ks' ↔ k ∈ o.ks ∨ o.neu off ns.length k) : RelR con B' ks' o.kn := by
  have N := R.neu s
  have rn := R.g.rn
  refine ⟨t.good R.g, fun k => ?_, fun k x e => ?_, by rw [t.rd]; exact R.rdl, by rw [t.fi]; exact R.fin⟩
  · rw [m k, R.seen, t.rd]
    by_cases c : o.B.neu off ns.length k
    · have c' := (N k).mp c
      rw [t.s1 k c, List.getElem?_eq_getElem (by have := c'.1; have := c'.2.1; omega)]
      exact ⟨fun _ => .inr nofun, fun _ => .inr c'⟩
    · rw [t.s0 k c]
      exact ⟨fun z => z.resolve_right (fun y => c ((N k).mpr y)), .inl⟩
  · by_cases c : o.B.neu off ns.length k
    · have c' := (N k).mp c
      have h1 := c'.1
      have h2 := c'.2.1
      have s1 := s.1
      rw [t.s1 k c] at e
      have := s.2 (k - off).toNat (by omega)
      rw [e, show (off - 1).toNat + (k - off).toNat = (k - 1).toNat by omega] at this
      exact ⟨by omega, this⟩
    · rw [t.s0 k c] at e
      exact R.val k x e
theorem RelR.moves {con : List Int} {o : Rv} {r : Int} {ns : List Int} {B' : Ib} (R : RelR con o.B o.ks o.kn) (s : Sub con o.B.nx ns) (n : ns ≠ []) (e : o.B.rd = o.B.nx) (l : 1 ≤ o.B.lim) (t : Took o.B B' o.B.nx ns r) : o.B.nx < B'.nx := by
  have := t.n0
  have := s.le n
  have := List.length_pos_iff.mpr n
  have ne : B'.nx ≠ o.B.nx := fun z => t.n2 (.inr (by
    rw [z, R.neu s]
    exact ⟨by omega, by unfold Ib.edge; omega, R.out⟩))
  omega
def sp__law_arrives (K : PySem.W.Frag) (C Cs : Addr) : Sp := fun vs H Q _ => ∃ (F : List Addr) (con : List Int) (o : Rv) (off : Int) (x : Addr) (ns : List Int), vs = [.ref o.p, .ref o.q, .int off, .ref x] ∧ Rw C Cs F con o H ∧ Al F H ∧ con.length ≤ 400 ∧ DatW H x ns ∧ Bytes ns ∧ ns.length ≤ 400 ∧ Sub con off ns ∧
  ∀ B' ks' H', Rw C Cs F con { o with B := B', ks := ks' } H' → B'.rd = o.B.rd → o.B.nx ≤ B'.nx → (off = o.B.nx → ns ≠ [] → o.B.rd = o.B.nx → o.B.nx < B'.nx) → Ch [o.p, o.d, o.e, o.c] H H' → Q (.bl true) H'
set_option maxHeartbeats 0 in
theorem ok__law_arrives (T : Txt K mg) : FnOk P w K mg base CX0 9 T.a__law_arrives T.fd__law_arrives ["inbox", "receiver", "offset", "data"] (sp__law_arrives K T.c_Inbox T.c_Spans) := by
  have S := sc__law_arrives
  refine T.F__law_arrives.ok S (fun vs H Q E h => ?_) (fun cdv A outer s H vs Q E hr h => ?_)
  · obtain ⟨F, con, o, off, x, ns, rfl, _⟩ := h
    rfl
  · obtain ⟨F, con, o, off, x, ns, rfl, w, A, hz, hx, hb, hl, hs, k⟩ := h
    have hq := w.q
    unfold Rv.kvs at hq
    obtain ⟨tk0, hc0, hl0, nd0, ht0⟩ := id w.c
    have kl := w.r.ksl nd0
    have g1 := w.r.g.r1
    have rdl := w.r.rdl
    have hg := w.g
    have gl : ((((con.take (o.B.rd - 1).toNat).map V.int).length : Nat) : Int) = o.B.rd - 1 := by rw [List.length_map, List.length_take]; omega
    obtain ⟨ap1, ap2, ap3, ap4, ap5, ap6⟩ := w.apart
    refine ⟨_, (pss_cons (ps_set (i := 4) S.nd rfl (Or.inl rfl) (pe_call (ok__law_next T) (hr.mono (by decide)) rfl T.g__law_next T.F__law_next.kp T.B__law_next .nil pass0 (pa_cons (pv 1) pa_nil)))
      (pss_cons (ps_set (i := 5) S.nd rfl (Or.inl rfl) (pe_callB (id := "max") (call_max2K rfl) (by rfl) T.b_max (by decide +kernel) (pa_cons (pv 4) (pa_cons (pe_op op_add (pe_op op_add pe_int (pe_callB (id := "len") (call_lenK (K := K) rfl) (by rfl) T.b_len (by decide +kernel) (pa_cons (pe_dget (room_u1 hr) (pv 1) pe_str (fun _ _ => rfl)) pa_nil))) (pe_dget (room_u1 hr) (pv 1) pe_str (fun _ _ => rfl))) pa_nil))))
      (pss_cons (ps_set (i := 6) S.nd rfl (Or.inl rfl) (pe_dget (room_u1 hr) (pv 1) pe_str (fun _ _ => rfl)))
      (pss_cons (ps_set (i := 7) S.nd rfl (Or.inl rfl) pe_int)
      (pss_cons (ps_for PassesOwn.never rfl (pi_range1 (by rfl) T.b_range (pa_cons (pe_callB (id := "len") (call_lenK (K := K) rfl) (by rfl) T.b_len (by decide +kernel) (pa_cons (pv 3) pa_nil)) pa_nil)) (pg_name (i := 8) S.nd rfl (Or.inl rfl)) (pss_one (ps_if (PW.pt (pw_and (pt_chain op_le op_lt (pv 4) (pe_op op_add (pv 2) (pv 8)) (pv 5)) (pw_and1 (pt_cmp (pc_dnotin (room_u1 hr) (pe_op op_add (pv 2) (pv 8)) (pv 6)) rfl)))) (pss_cons (ps_dput (room_u1 hr) (pv 6) (pe_op op_add (pv 2) (pv 8)) pe_bl rfl)
      (pss_one (ps_set (i := 7) S.nd rfl (Or.inl rfl) (pe_op op_add (pv 7) pe_int)))) pss_nil)))
      (pss_cons (ps_set (i := 9) S.nd rfl (Or.inl rfl) (pe_meth (pv 0) T.cl_Inbox T.m_Inbox_take (ok_Inbox_take T) (hr.mono (by decide)) T.B_Inbox_take .nil passL (pa_cons (pv 2) (pa_cons (pv 3) pa_nil))))
      (pss_one (ps_ret (pe_and (pe_call (ok__law_is_whole T) (hr.mono (by decide)) rfl T.g__law_is_whole T.F__law_is_whole.kp T.B__law_is_whole .nil pass0 (pa_cons (pv 9) pa_nil)) (pe_one (pe_cmpR op_eq (pv 9) (pv 7) (nomark _)))))))))))), ?_⟩
    refine st__law_arrives ?_
    o_args
    refine ⟨F, con, o, rfl, w, hz, ?_⟩
    o_args
    refine lenA (SeqA.lst hg) ?_
    rw [gl]
    o_args
    rw [show max o.B.nx (1 + (o.B.rd - 1) + o.B.lim) = o.B.edge by unfold Ib.edge; omega]
    refine lenA hx.seq ?_
    o_args
    refine ⟨by omega, by rw [List.length_map]; omega, ?_⟩
    have xc : x ≠ o.c := fun z => by
      rcases hx with h | h <;> rw [z, hc0] at h <;> cases h
    have oldx : ∀ {H'}, Ch [o.c] H H' → DatW H' x ns := fun ch => hx.ch ch (by simpa using xc)
    have ef : ∃ f : Int → Bool, f = fun k => decide (max off o.B.nx ≤ k ∧ k < min (off + ns.length) o.B.edge) && !decide (k ∈ o.ks) := ⟨_, rfl⟩
    obtain ⟨f, ef⟩ := ef
    have hf : ∀ k, f k = true ↔ o.neu off ns.length k := fun k => by
      rw [ef]
      show (_ && _) = true ↔ _
      rw [Bool.and_eq_true, decide_eq_true_iff, Bool.not_eq_true', decide_eq_false_iff_not, and_assoc]
      exact Iff.rfl
    refine for_range (lo := 0) (n := (((ns.map V.int).length : Nat) : Int).toNat) (fun i σ H' => ∃ ks v, σ = [some (.ref o.p), some (.ref o.q), some (.int off), some (.ref x), some (.int o.B.nx), some (.int o.B.edge), some (.ref o.c), some (.int (cnt f off i)), v, none] ∧ Ch [o.c] H H' ∧ SeenAt H' o.c ks ∧ (ks.length : Int) = o.ks.length + cnt f off i ∧ (∀ k, k ∈ ks ↔ k ∈ o.ks ∨ (o.neu off ns.length k ∧ k < off + i))) ⟨o.ks, none, rfl, Ch.refl, w.c, by show _ = (_ : Int) + 0; omega, fun k => ⟨.inl, fun z => z.resolve_right fun y => by have := y.1.1; have := y.2; omega⟩⟩ ?_ ?_
    · rintro i σ Hi il ⟨ks, v, rfl, ci, si, li, mi⟩
      rw [List.length_map, Int.toNat_natCast] at il
      have hqi := ci.at (show o.q ∉ [o.c] by simpa using w.n.2.2) hq
      obtain ⟨tk, hc, hl', nd, ht⟩ := id si
      have cs : cnt f off (i + 1) = cnt f off i + if f (off + i) = true then 1 else 0 := rfl
      have cl := cnt_le f off i
      have e0 : off + (0 + (i : Int)) = off + i := by omega
      have same : ¬ o.neu off ns.length (off + i) → ∃ ks' v', ([some (.ref o.p), some (.ref o.q), some (.int off), some (.ref x), some (.int o.B.nx), some (.int o.B.edge), some (.ref o.c), some (.int (cnt f off i)), some (.int (0 + (i : Int))), none] : L2.St) = [some (.ref o.p), some (.ref o.q), some (.int off), some (.ref x), some (.int o.B.nx), some (.int o.B.edge), some (.ref o.c), some (.int (cnt f off (i + 1))), v', none] ∧ Ch [o.c] H Hi ∧ SeenAt Hi o.c ks' ∧ (ks'.length : Int) = o.ks.length + cnt f off (i + 1) ∧ (∀ k, k ∈ ks' ↔ k ∈ o.ks ∨ (o.neu off ns.length k ∧ k < off + ((i + 1 : Nat) : Int))) := fun no => by
        rw [if_neg (fun z => no ((hf _).mp z)), Int.add_zero] at cs
        refine ⟨ks, _, by rw [cs], ci, si, by rw [cs]; exact li, fun k => ?_⟩
        rw [mi k]
        refine or_congr Iff.rfl ⟨fun z => ⟨z.1, by omega⟩, fun z => ⟨z.1, ?_⟩⟩
        by_cases e : k = off + i
        · exact absurd (e ▸ z.1) no
        · have := z.2; omega
      o_args
      rw [e0]
      refine brD (fun c1 => ?_) (fun c1 => ?_)
      · o_args
        refine brD (fun c2 => ?_) (fun c2 => ?_)
        · o_args
          refine x_dnotin ?_
          o_args
          rw [e0]
          refine ⟨o.c, _, rfl, dgetS hc ht, ?_⟩
          by_cases m : off + (i : Int) ∈ ks
          · rw [if_pos m]
            refine ⟨false, rfl, ?_⟩
            rw [if_neg (by simp)]
            o_args
            refine same fun n => ?_
            rcases (mi _).mp m with z | z
            · exact n.2.2 z
            · have := z.2; omega
          · rw [if_neg m]
            refine ⟨true, rfl, ?_⟩
            rw [if_pos rfl]
            have n : o.neu off ns.length (off + i) := ⟨by omega, by omega, fun z => m ((mi _).mpr (.inl z))⟩
            rw [if_pos ((hf _).mpr n)] at cs
            o_args
            rw [e0]
            refine dputI hc (by omega) fun H2 s2 h2 => ?_
            o_args
            refine ⟨ks ++ [off + (i : Int)], _, by rw [cs], ci.trans (Ch.ofX (by simp) s2 h2), SeenAt.put h2 hl' nd ht m, by rw [List.length_append, cs]; simp; omega, fun k => ?_⟩
            rw [List.mem_append, List.mem_singleton, mi k, or_assoc]
            refine or_congr Iff.rfl ⟨?_, fun z => ?_⟩
            · rintro (z | z)
              · exact ⟨z.1, by omega⟩
              · exact ⟨z ▸ n, by omega⟩
            · by_cases e : k = off + i
              · exact .inr e
              · exact .inl ⟨z.1, by have := z.2; omega⟩
        · o_args
          exact same fun n => by have := n.2.1; omega
      · o_args
        exact same fun n => by have := n.1; omega
    · rintro σ Hi ⟨ks, v, rfl, ci, si, li, mi⟩
      rw [List.length_map, Int.toNat_natCast] at li mi
      have wi := w.i.ch ci (fun b hb => by rw [List.mem_singleton.mp hb]; exact w.f.2.1) (fun z => ap4 (by rw [List.mem_singleton.mp z]; simp)) (fun z => ap5 (by rw [List.mem_singleton.mp z]; simp))
      obtain ⟨dx, hp⟩ := wi.oo
      have xi := oldx ci
      have nl := w.r.nxl
      o_args
      refine ⟨o.p, dx, _, rfl, hp, rfl, ?_⟩
      o_args
      refine ⟨o.p, o.d, o.e, F, o.ks.length, o.B, _, _, rfl, wi, A.ch ci, w.r.g, by omega, by omega, .inl ⟨off, rfl, by have := hs.1; omega, .inl ⟨x, ns, rfl, xi.seq, hb, by omega, fun B' r H' m' em t i' c' => ?_⟩⟩⟩
      have er := t.cn f fun k => (hf k).trans (w.r.neu hs k).symm
      have mk : ∀ k, k ∈ ks ↔ k ∈ o.ks ∨ o.neu off ns.length k := fun k => by
        rw [mi k]
        refine or_congr Iff.rfl ⟨fun z => z.1, fun z => ⟨z, ?_⟩⟩
        have := z.2.1
        omega
      have hqi := ci.at (show o.q ∉ [o.c] by simpa using w.n.2.2) w.q
      have hgi := ci.at (show o.g ∉ [o.c] from fun z => ap3 (by rw [List.mem_singleton.mp z]; simp)) w.g
      have p3 : o.g ∉ [o.p, o.d, o.e] := fun z => ap3 (by simp only [List.mem_cons, List.not_mem_nil, or_false] at z ⊢; rcases z with z | z | z <;> simp [z])
      o_args
      refine ⟨_, true, rfl, intK_int _, ?_⟩
      o_args
      rw [decide_eq_true (show r = cnt f off (((ns.map V.int).length : Nat) : Int).toNat by rw [er, List.length_map, Int.toNat_natCast])]
      have em' : m' = ks.length := by omega
      subst em'
      refine k B' ks H' ⟨i', ?_, si.ch c' ap2, ?_, w.r.took hs t mk, w.f, w.n⟩ t.rd t.n0 (fun e n e2 => ?_) ((ci.more (by simp)).trans (c'.more (by simp)))
      · show H' o.q = some (.dK [(.inr "limit", .int B'.lim), (.inr "seen", .ref o.c), (.inr "got", .ref o.g), (.inr "marked", .int B'.urg), (.inr "known", .bl o.kn)])
        rw [t.li, t.ur]
        exact c'.at ap1 hqi
      · show H' o.g = some (.lst ((con.take (B'.rd - 1).toNat).map V.int))
        rw [t.rd]
        exact c'.at p3 hgi
      · subst e
        exact w.r.moves hs n e2 w.i.li.1 t
/-! ### the sender: the outbox and the law's account -/
structure Sn where
  p : Addr
  l : Addr
  q : Addr
  w : Addr
  z : Addr
  B : Bx
  most : Nat
  cap : Nat
  ps : List (Int × List Int)
def Sn.kvs (s : Sn) : List (Key × V) := [(.inr "written", .ref s.w), (.inr "base", .int s.B.base), (.inr "urgent", .int s.B.urg), (.inr "closed", .bl s.B.closed), (.inr "pieces", .ref s.z), (.inr "most", .int s.most), (.inr "cap", .int s.cap), (.inr "limit", .int s.B.lim)]
/-- what is read of the account -/
def SnAt (H : Hp) (s : Sn) : Prop := H s.q = some (.dK s.kvs) ∧ H s.w = some (.lst (s.B.con.map V.int))
theorem SnAt.ch {H H' : Hp} {s : Sn} {G : List Addr} (h : SnAt H s) (x : Ch G H H') (n : s.q ∉ G) (m : s.w ∉ G) : SnAt H' s := ⟨x.at n h.1, x.at m h.2⟩
theorem SnAt.same {H H' : Hp} {s : Sn} (h : SnAt H s) (x : Same H H') : SnAt H' s := ⟨x _ _ h.1, x _ _ h.2⟩
/-! ### the law reads -/
theorem RelR.got {con : List Int} {B : Ib} {ks : List Int} {kn : Bool} {k : Int} (R : RelR con B ks kn) (h0 : 0 ≤ k) (h1 : k ≤ B.nx - B.rd) : (con.take (B.rd - 1 + k).toNat).drop (B.rd - 1).toNat = B.got k := by
  have g1 := R.g.r1
  have nl := R.nxl
  apply List.ext_getElem?
  intro i
  unfold Ib.got
  rw [List.getElem?_drop, List.getElem?_map, List.getElem?_take]
  by_cases c : i < k.toNat
  · rw [if_pos (by omega), List.getElem?_range c]
    have full := R.g.fu (B.rd + i) (by omega) (by omega)
    cases e : B.st (B.rd + i) with
    | none => exact absurd e full
    | some x =>
      have := (R.val _ x e).2
      rw [show (B.rd - 1).toNat + i = (B.rd + (i : Int) - 1).toNat by omega, this]
      show some x = some ((B.st (B.rd + (i : Int))).getD 0)
      rw [e]
      rfl
  · rw [if_neg (by omega), List.getElem?_eq_none (by rw [List.length_range]; omega)]
    rfl
theorem RelR.read {con : List Int} {B : Ib} {ks : List Int} {kn : Bool} {k : Int} (R : RelR con B ks kn) (h0 : 0 ≤ k) (h1 : k ≤ B.nx - B.rd) : RelR con (B.read k) ks kn := by
  have g1 := R.g.r1
  have nl := R.nxl
  have st : ∀ o, (B.read k).st o = if B.rd ≤ o ∧ o < B.rd + k then none else B.st o := fun o => rfl
  have rd : (B.read k).rd = B.rd + k := rfl
  refine ⟨R.g.read h0 h1, fun o => ?_, fun o x e => ?_, by rw [rd]; omega, R.fin⟩
  · rw [R.seen, st, rd]
    by_cases c : B.rd ≤ o ∧ o < B.rd + k
    · rw [if_pos c]
      exact ⟨fun _ => .inl ⟨by omega, c.2⟩, fun _ => .inr (R.g.fu o c.1 (by omega))⟩
    · rw [if_neg c]
      constructor
      · rintro (z | z)
        · exact .inl ⟨z.1, by omega⟩
        · exact .inr z
      · rintro (z | z)
        · exact .inl ⟨z.1, by omega⟩
        · exact .inr z
  · rw [st] at e
    split at e
    · cases e
    · exact R.val o x e
def sp__law_reads (K : PySem.W.Frag) (C Cs : Addr) : Sp := fun vs H Q _ => ∃ (F : List Addr) (s : Sn) (o : Rv) (n : Int), vs = [.ref o.p, .ref o.q, .ref s.q, .int n] ∧ Rw C Cs F s.B.con o H ∧ Al F H ∧ s.B.con.length ≤ 400 ∧ SnAt H s ∧ s.q ∉ o.foot ∧ s.w ∉ o.foot ∧ 0 ≤ n ∧
  ∀ g' H', H g' = none → Rw C Cs (g' :: F) s.B.con { o with g := g', B := o.B.read (min n (o.B.nx - o.B.rd)) } H' → Ch [o.p, o.d, o.e, o.q] H H' → Q (.bl true) H'
set_option maxHeartbeats 0 in
theorem ok__law_reads (T : Txt K mg) : FnOk P w K mg base CX0 4 T.a__law_reads T.fd__law_reads ["inbox", "receiver", "sender", "count"] (sp__law_reads K T.c_Inbox T.c_Spans) := by
  have S := sc__law_reads
  refine T.F__law_reads.ok S (fun vs H Q E h => ?_) (fun cdv A outer s H vs Q E hr h => ?_)
  · obtain ⟨F, s, o, n, rfl, _⟩ := h
    rfl
  · obtain ⟨F, s1, o, n, rfl, w, A, hz, hs, sq, sw, n0, k⟩ := h
    have hq := w.q
    unfold Rv.kvs at hq
    obtain ⟨tk0, hc0, hl0, nd0, ht0⟩ := id w.c
    have kl := w.r.ksl nd0
    have g1 := w.r.g.r1
    have g2 := w.r.g.rn
    have rdl := w.r.rdl
    have nl := w.r.nxl
    have hg := w.g
    have gl : ((((s1.B.con.take (o.B.rd - 1).toNat).map V.int).length : Nat) : Int) = o.B.rd - 1 := by rw [List.length_map, List.length_take]; omega
    obtain ⟨ap1, ap2, ap3, ap4, ap5, ap6⟩ := w.apart
    have p3 : o.g ∉ [o.p, o.d, o.e] := fun z => ap3 (by simp only [List.mem_cons, List.not_mem_nil, or_false] at z ⊢; rcases z with z | z | z <;> simp [z])
    have f3 : ∀ {b}, b ∉ o.foot → b ∉ [o.p, o.d, o.e] := fun h z => h (by unfold Rv.foot; simp only [List.mem_cons, List.not_mem_nil, or_false] at z ⊢; rcases z with z | z | z <;> simp [z])
    refine ⟨_, (pss_cons (ps_set (i := 4) S.nd rfl (Or.inl rfl) (pe_callB (id := "len") (call_lenK (K := K) rfl) (by rfl) T.b_len (by decide +kernel) (pa_cons (pe_dget (room_u1 hr) (pv 1) pe_str (fun _ _ => rfl)) pa_nil)))
      (pss_cons (ps_set (i := 5) S.nd rfl (Or.inl rfl) (pe_callB (id := "min") (call_min2K rfl) (by rfl) T.b_min (by decide +kernel) (pa_cons (pv 3) (pa_cons (pe_op op_sub (pe_op op_sub (pe_call (ok__law_next T) (hr.mono (by decide)) rfl T.g__law_next T.F__law_next.kp T.B__law_next .nil pass0 (pa_cons (pv 1) pa_nil)) pe_int) (pv 4)) pa_nil))))
      (pss_cons (ps_set (i := 6) S.nd rfl (Or.inl rfl) (pe_meth (pv 0) T.cl_Inbox T.m_Inbox_read (ok_Inbox_read T) (hr.mono (by decide)) T.B_Inbox_read .nil passL (pa_cons (pv 3) pa_nil)))
      (pss_cons (ps_if (pt_not (pt_val (pe_call (ok__law_tuple_is T) (hr.mono (by decide)) rfl T.g__law_tuple_is T.F__law_tuple_is.kp T.B__law_tuple_is .nil pass0 (pa_cons (pv 6) (pa_cons (pe_slice sl_list (pe_dget (room_u1 hr) (pv 2) pe_str (fun _ _ => rfl)) (po_some (pv 4)) (po_some (pe_op op_add (pv 4) (pv 5)))) pa_nil))))) (pss_one (ps_ret pe_bl)) pss_nil)
      (pss_cons (ps_dput (room_u1 hr) (pv 1) pe_str (pe_op op_cat (pe_dget (room_u1 hr) (pv 1) pe_str (fun _ _ => rfl)) (pe_callTy (T := "list") (call_listK (K := K) rfl) (by rfl) T.b_list (by decide +kernel) (pa_cons (pv 6) pa_nil))) rfl)
      (pss_one (ps_ret (pe_cmpR (op_eqD hr.units) (pe_dget (room_u1 hr) (pv 1) pe_str (fun _ _ => rfl)) (pe_slice sl_list (pe_dget (room_u1 hr) (pv 2) pe_str (fun _ _ => rfl)) po_none (po_some (pe_op op_add (pv 4) (pv 5)))) (nomark _))))))))), ?_⟩
    refine st__law_reads ?_
    o_args
    refine lenA (SeqA.lst hg) ?_
    rw [gl]
    o_args
    refine ⟨F, s1.B.con, o, rfl, w, hz, ?_⟩
    o_args
    rw [show o.B.nx - 1 - (o.B.rd - 1) = o.B.nx - o.B.rd by omega]
    generalize hk : min n (o.B.nx - o.B.rd) = kk at k
    have k0 : 0 ≤ kk := by omega
    have k1 : kk ≤ o.B.nx - o.B.rd := by omega
    obtain ⟨dx, hp⟩ := w.i.oo
    refine ⟨o.p, dx, _, rfl, hp, rfl, ?_⟩
    o_args
    refine ⟨o.p, o.d, o.e, F, o.ks.length, o.B, _, rfl, w.i, A, w.r.g, by omega, .inl ⟨n, rfl, n0, fun t H2 h2 I2 c2 => ?_⟩⟩
    rw [hk] at h2 I2
    have hq2 := c2.at ap1 hq
    have hg2 := c2.at p3 hg
    have hs2 := hs.ch c2 (f3 sq) (f3 sw)
    obtain ⟨hsq2, hsw2⟩ := id hs2
    unfold Sn.kvs at hsq2
    have eg := w.r.got k0 k1
    have gotl : (o.B.got kk).length = kk.toNat := by unfold Ib.got; rw [List.length_map, List.length_range]
    o_args
    refine sliceL (SqL.of hsw2) fun l3 H3 n3 s3 h3 => ?_
    have h3 : H3 l3 = some (.lst ((o.B.got kk).map V.int)) := by
      rw [h3, show (o.B.rd - 1 : Int) = (((o.B.rd - 1).toNat : Nat) : Int) by omega, show ((((o.B.rd - 1).toNat : Nat) : Int) + kk : Int) = (((o.B.rd - 1 + kk).toNat : Nat) : Int) by omega, cut_mid, ← List.map_take, ← List.map_drop, eg]
    o_args
    refine ⟨t, l3, o.B.got kk, rfl, s3 _ _ h2, h3, by rw [gotl]; omega, ?_⟩
    have hq3 := s3 _ _ hq2
    o_args
    refine listOf (SeqA.tup (s3 _ _ h2)) fun M H4 n4 s4 h4 => ?_
    have hq4 := s4 _ _ hq3
    o_args
    refine catList (s4 _ _ (s3 _ _ hg2)) h4 (by rw [List.length_map, List.length_map, List.length_take, gotl]; omega) fun g' H5 n5 s5 h5 => ?_
    have S5 := (s3.trans s4).trans s5
    have hq5 := s5 _ _ hq4
    have e5 : s1.B.con.take (o.B.rd - 1).toNat ++ o.B.got kk = s1.B.con.take ((o.B.read kk).rd - 1).toNat := by
      rw [← eg]
      show _ = s1.B.con.take (o.B.rd + kk - 1).toNat
      rw [show (o.B.rd + kk - 1).toNat = (o.B.rd - 1 + kk).toNat by omega]
      have := List.take_append_drop (o.B.rd - 1).toNat (s1.B.con.take (o.B.rd - 1 + kk).toNat)
      rw [List.take_take, show min (o.B.rd - 1).toNat (o.B.rd - 1 + kk).toNat = (o.B.rd - 1).toNat by omega] at this
      exact this
    rw [← List.map_append, e5] at h5
    o_args
    refine dput (k := "got") (v := .ref g') (kvs' := Rv.kvs { o with g := g', B := o.B.read kk }) hq5 (Nat.le_of_ble_eq_true rfl) (by with_unfolding_all rfl) fun H6 s6 h6 => ?_
    have c6 : Ch [o.q] H5 H6 := Ch.ofX (by simp) s6 h6
    have ng : H g' = none := c2.none (none_of (s3.trans s4) n5)
    have gq : g' ≠ o.q := fun z => by
      rw [z, hq4] at n5; cases n5
    have hg6 := s6 _ _ gq h5
    have hs6 := (hs2.same S5).ch c6 (fun z => sq (by rw [List.mem_singleton.mp z]; simp [Rv.foot])) (fun z => sw (by rw [List.mem_singleton.mp z]; simp [Rv.foot]))
    obtain ⟨hsq6, hsw6⟩ := id hs6
    unfold Sn.kvs at hsq6
    have hq6 := h6
    unfold Rv.kvs at hq6
    o_args
    refine sliceL (SqL.of hsw6) fun l7 H7 n7 s7 h7 => ?_
    have h7 : H7 l7 = some (.lst ((s1.B.con.take ((o.B.read kk).rd - 1).toNat).map V.int)) := by
      rw [h7, show (o.B.rd - 1 + kk : Int) = ((((o.B.read kk).rd - 1).toNat : Nat) : Int) by show _ = (((o.B.rd + kk - 1).toNat : Nat) : Int); omega, cut_to, List.map_take]
    refine eqLL (xs := s1.B.con.take ((o.B.read kk).rd - 1).toNat) (ys := s1.B.con.take ((o.B.read kk).rd - 1).toNat) (SqL.of (s7 _ _ hg6)) (SqL.of h7) ?_
    rw [decide_eq_true rfl]
    have np : ∀ b ∈ [o.p, o.d], b ∉ [o.q] := fun b hb z => by
      simp only [List.mem_cons, List.not_mem_nil, or_false] at hb
      rw [List.mem_singleton.mp z] at hb
      rcases hb with hb | hb
      · exact ap4 (by rw [← hb]; simp)
      · exact ap5 (by rw [← hb]; simp)
    have I7 := (((I2.same (s3.trans s4)).own n5 s5).ch c6 (fun b hb => by rw [List.mem_singleton.mp hb]; exact List.mem_cons_of_mem _ w.f.1) (np _ (by simp)) (np _ (by simp))).same s7
    have C6 : Ch [o.p, o.d, o.e, o.q] H H6 := ((c2.more (by simp)).trans (Ch.of S5)).trans (c6.more (by simp))
    refine k g' H7 ng ⟨I7, s7 _ _ h6, ?_, s7 _ _ hg6, w.r.read k0 k1, ⟨List.mem_cons_of_mem _ w.f.1, List.mem_cons_of_mem _ w.f.2.1, List.mem_cons_self⟩, w.n⟩ (C6.trans (Ch.of s7))
    refine w.c.ch (C6.trans (Ch.of s7)) fun z => ?_
    simp only [List.mem_cons, List.not_mem_nil, or_false, not_or] at z ap2
    rcases z with z | z | z | z
    · exact ap2.1 z
    · exact ap2.2.1 z
    · exact ap2.2.2 z
    · exact w.n.2.2 z.symm
/-! ### how a receiver stands -/
theorem RelR.fed {con : List Int} {B : Ib} {ks : List Int} {kn : Bool} (R : RelR con B ks kn) : B.fed = (kn && decide (B.nx = 1 + (con.length : Int))) := by
  unfold Ib.fed
  rw [R.fin]
  cases kn with
  | true =>
    rw [if_pos rfl, Bool.true_and]
    by_cases e : B.nx = 1 + (con.length : Int)
    · rw [e]; simp
    · rw [decide_eq_false e, decide_eq_false (fun z => e (Option.some.inj z).symm)]
  | false => simp
def sp__law_receiver_is (K : PySem.W.Frag) (C Cs : Addr) : Sp := fun vs H Q _ => ∃ (F : List Addr) (s : Sn) (o : Rv), vs = [.ref o.p, .ref o.q, .ref s.q] ∧ Rw C Cs F s.B.con o H ∧ s.B.con.length ≤ 400 ∧ SnAt H s ∧ ∀ H', Same H H' → Q (.bl true) H'
set_option maxHeartbeats 0 in
theorem ok__law_receiver_is (T : Txt K mg) : FnOk P w K mg base CX0 5 T.a__law_receiver_is T.fd__law_receiver_is ["inbox", "receiver", "sender"] (sp__law_receiver_is K T.c_Inbox T.c_Spans) := by
  have S := sc__law_receiver_is
  refine T.F__law_receiver_is.ok S (fun vs H Q E h => ?_) (fun cdv A outer s H vs Q E hr h => ?_)
  · obtain ⟨F, s, o, rfl, _⟩ := h
    rfl
  · obtain ⟨F, s1, o, rfl, w, hz, hs, k⟩ := h
    have hq := w.q
    unfold Rv.kvs at hq
    obtain ⟨hsq, hsw⟩ := id hs
    unfold Sn.kvs at hsq
    have g1 := w.r.g.r1
    have rdl := w.r.rdl
    have hg := w.g
    have gl : ((((s1.B.con.take (o.B.rd - 1).toNat).map V.int).length : Nat) : Int) = o.B.rd - 1 := by rw [List.length_map, List.length_take]; omega
    obtain ⟨dx, hp⟩ := w.i.oo
    refine ⟨_, (pss_cons (ps_set (i := 3) S.nd rfl (Or.inl rfl) (pe_call (ok__law_next T) (hr.mono (by decide)) rfl T.g__law_next T.F__law_next.kp T.B__law_next .nil pass0 (pa_cons (pv 1) pa_nil)))
      (pss_cons (ps_set (i := 4) S.nd rfl (Or.inl rfl) (pe_op op_add pe_int (pe_callB (id := "len") (call_lenK (K := K) rfl) (by rfl) T.b_len (by decide +kernel) (pa_cons (pe_dget (room_u1 hr) (pv 1) pe_str (fun _ _ => rfl)) pa_nil))))
      (pss_cons (ps_set (i := 5) S.nd rfl (Or.inl rfl) (pe_op op_add pe_int (pe_callB (id := "len") (call_lenK (K := K) rfl) (by rfl) T.b_len (by decide +kernel) (pa_cons (pe_dget (room_u1 hr) (pv 2) pe_str (fun _ _ => rfl)) pa_nil))))
      (pss_cons (ps_set (i := 6) S.nd rfl (Or.inl rfl) (pe_lst (pa_cons (pe_tup (pa_cons (pe_fld (pv 0) rfl) (pa_cons (pv 3) pa_nil))) (pa_cons (pe_tup (pa_cons (pe_fld (pv 0) rfl) (pa_cons (pv 4) pa_nil))) (pa_cons (pe_tup (pa_cons (pe_prop (pv 0) T.cl_Inbox T.PR_Inbox_ready (ok_Inbox_ready T) (hr.mono (by decide)) T.B_Inbox_ready .nil pass0 rfl) (pa_cons (pe_op op_sub (pv 3) (pv 4)) pa_nil))) pa_nil)))))
      (pss_cons (ps_set (i := 6) S.nd rfl (Or.inl rfl) (pe_op op_cat (pv 6) (pe_lst (pa_cons (pe_tup (pa_cons (pe_prop (pv 0) T.cl_Inbox T.PR_Inbox_edge (ok_Inbox_edge T) (hr.mono (by decide)) T.B_Inbox_edge .nil pass0 rfl) (pa_cons (pe_callB (id := "max") (call_max2K rfl) (by rfl) T.b_max (by decide +kernel) (pa_cons (pv 3) (pa_cons (pe_op op_add (pv 4) (pe_dget (room_u1 hr) (pv 1) pe_str (fun _ _ => rfl))) pa_nil))) pa_nil))) pa_nil))))
      (pss_cons (ps_set (i := 6) S.nd rfl (Or.inl rfl) (pe_op op_cat (pv 6) (pe_lst (pa_cons (pe_tup (pa_cons (pe_prop (pv 0) T.cl_Inbox T.PR_Inbox_urgent_count (ok_Inbox_urgent_count T) (hr.mono (by decide)) T.B_Inbox_urgent_count .nil pass0 rfl) (pa_cons (pe_callB (id := "max") (call_max2K rfl) (by rfl) T.b_max (by decide +kernel) (pa_cons pe_int (pa_cons (pe_op op_sub (pe_dget (room_u1 hr) (pv 1) pe_str (fun _ _ => rfl)) (pv 4)) pa_nil))) pa_nil))) pa_nil))))
      (C8.pss_cut (ps_set (i := 7) S.nd rfl (Or.inl rfl) (pe_and (pe_dget (room_u1 hr) (pv 1) pe_str (fun _ _ => rfl)) (pe_one (pe_cmpR op_eq (pv 3) (pv 5) (nomark _)))))
      (pss_cons (ps_expr (pe_bm PySem.F.plainAttrs_list PySem.F.slot_list_append PySem.F.type_list_append mt_append (pv 6) (pa_cons (pe_tup (pa_cons (pe_prop (pv 0) T.cl_Inbox T.PR_Inbox_expected (ok_Inbox_expected T) (hr.mono (by decide)) T.B_Inbox_expected .nil pass0 rfl) (pa_cons (pe_op op_add (pv 3) (pe_callTy (T := "int") call_int1 (by rfl) T.b_int (by decide +kernel) (pa_cons (pv 7) pa_nil))) pa_nil))) pa_nil)))
      (pss_cons (ps_for PassesOwn.never rfl (pi_list (pv 6)) (pg_name (i := 8) S.nd rfl (Or.inl rfl)) (pss_one (ps_if (PW.pt (pw_or (pt_not (pt_val (pe_call (ok__law_is_whole T) (hr.mono (by decide)) rfl T.g__law_is_whole T.F__law_is_whole.kp T.B__law_is_whole .nil pass0 (pa_cons (pe_ix ix_tup (pv 8) pe_int (fun _ _ => rfl)) pa_nil)))) (pw_or1 (pt_cmpR op_ne (pe_ix ix_tup (pv 8) pe_int (fun _ _ => rfl)) (pe_ix ix_tup (pv 8) pe_int (fun _ _ => rfl)) (nomark _))))) (pss_one (ps_ret pe_bl)) pss_nil)))
      (pss_cons (ps_if (pt_val (pv 7)) (pss_one (ps_ret (pe_cmpR op_is_bl (pe_prop (pv 0) T.cl_Inbox T.PR_Inbox_ended (ok_Inbox_ended T) (hr.mono (by decide)) T.B_Inbox_ended .nil pass0 rfl) pe_bl (nomark _)))) pss_nil)
      (pss_one (ps_ret (pe_cmpR op_is_bl (pe_prop (pv 0) T.cl_Inbox T.PR_Inbox_ended (ok_Inbox_ended T) (hr.mono (by decide)) T.B_Inbox_ended .nil pass0 rfl) pe_bl (nomark _)))))))))))))), ?_⟩
    refine st__law_receiver_is ?_
    o_args
    refine ⟨F, s1.B.con, o, rfl, w, hz, ?_⟩
    o_args
    refine lenA (SeqA.lst hg) ?_
    rw [gl]
    o_args
    rw [show (1 : Int) + (o.B.rd - 1) = o.B.rd by omega]
    refine lenA (SeqA.lst hsw) ?_
    rw [List.length_map]
    o_args
    refine fget hp T.cl_Inbox T.n_Inbox_next_offset rfl ?_
    o_args
    refine newTup (by simp) fun t1 H1 n1 s1' h1 => ?_
    have hp1 := s1' _ _ hp
    o_args
    refine fget hp1 T.cl_Inbox T.n_Inbox_read_offset rfl ?_
    o_args
    refine newTup (by simp) fun t2 H2 n2 s2 h2 => ?_
    have S2 := s1'.trans s2
    have hp2 := S2 _ _ hp
    o_args
    refine ⟨o.p, dx, _, rfl, hp2, o.p, o.d, o.e, F, _, o.B, rfl, w.i.same S2, ?_⟩
    o_args
    refine newTup (by simp) fun t3 H3 n3 s3 h3 => ?_
    o_args
    refine newList (by simp) fun l1 H4 n4 s4 h4 => ?_
    have S4 := (S2.trans s3).trans s4
    have hp4 := S4 _ _ hp
    have hq4 := S4 _ _ hq
    clear hp1 hp2
    o_args
    refine ⟨o.p, dx, _, rfl, hp4, o.p, o.d, o.e, F, _, o.B, rfl, w.i.same S4, ?_⟩
    o_args
    refine newTup (by simp) fun t4 H5 n5 s5 h5 => ?_
    o_args
    refine newList (by simp) fun l2 H6 n6 s6 h6 => ?_
    o_args
    refine catList ((s5.trans s6) _ _ h4) h6 (by simp) fun l3 H7 n7 s7 h7 => ?_
    have S7 := ((S4.trans s5).trans s6).trans s7
    have hp7 := S7 _ _ hp
    have hq7 := S7 _ _ hq
    clear hp4 hq4
    o_args
    refine ⟨o.p, dx, _, rfl, hp7, o.p, o.d, o.e, F, _, o.B, rfl, w.i.same S7, ?_⟩
    o_args
    refine newTup (by simp) fun t5 H8 n8 s8 h8 => ?_
    o_args
    refine newList (by simp) fun l4 H9 n9 s9 h9 => ?_
    o_args
    refine catList ((s8.trans s9) _ _ h7) h9 (by simp) fun l5 HA nA sA hA => ?_
    have SA := ((S7.trans s8).trans s9).trans sA
    have hpA := SA _ _ hp
    have hqA := SA _ _ hq
    clear hp7 hq7
    have hf := w.r.fed
    o_args
    refine ⟨fun σ H' => σ = [some (.ref o.p), some (.ref o.q), some (.ref s1.q), some (.int o.B.nx), some (.int o.B.rd), some (.int (1 + (s1.B.con.length : Nat))), some (.ref l5), some (.bl o.B.fed), none] ∧ HA = H', ?_, ?_⟩
    · rw [hf]
      o_args
      cases hk : o.kn with
      | true =>
        refine brT (by rfl) ?_
        o_args
        exact ⟨rfl, rfl⟩
      | false =>
        refine brF (by rfl) ?_
        o_args
        exact ⟨rfl, rfl⟩
    rintro σ HA' ⟨rfl, rfl⟩
    o_args
    refine ⟨isList hA, ?_⟩
    o_args
    refine ⟨o.p, dx, _, rfl, hpA, o.p, o.d, o.e, F, _, o.B, rfl, w.i.same SA, ?_⟩
    o_args
    refine .inr ⟨o.B.fed, rfl, ?_⟩
    o_args
    refine newTup (by simp) fun t6 HB nB sB hB => ?_
    o_args
    refine appList (sB _ _ hA) (by simp) fun HC sC hC => ?_
    have l5n : H l5 = none := none_of ((S7.trans s8).trans s9) nA
    have SC : Same H HC := Ch.same (((Ch.of (SA.trans sB)).trans (Ch.ofX (a := l5) (G := [l5]) (by simp) sC hC)).drop l5n)
    have ne : ∀ {t : Addr} {ys}, HB t = some (.tup ys) → t ≠ l5 := fun h z => by
      have := sB _ _ hA
      rw [z, this] at h
      cases h
    have all : ∀ x ∈ [V.ref t1, V.ref t2, V.ref t3] ++ [V.ref t4] ++ [V.ref t5] ++ [V.ref t6], ∃ t y, x = .ref t ∧ HC t = some (.tup [.int y, .int y]) := by
      have z8 := s8.trans (s9.trans (sA.trans sB))
      have z5 := s5.trans (s6.trans (s7.trans z8))
      have fin : ∀ {t y}, HB t = some (.tup [V.int y, .int y]) → ∃ t' y', V.ref t = .ref t' ∧ HC t' = some (.tup [.int y', .int y']) := fun {t y} h => ⟨t, y, rfl, sC _ _ (ne h) h⟩
      intro x hx
      simp only [List.cons_append, List.nil_append, List.mem_cons, List.not_mem_nil, or_false] at hx
      rcases hx with rfl | rfl | rfl | rfl | rfl | rfl
      · exact fin (y := o.B.nx) ((s2.trans (s3.trans (s4.trans z5))) _ _ h1)
      · exact fin (y := o.B.rd) ((s3.trans (s4.trans z5)) _ _ h2)
      · exact fin (y := o.B.nx - o.B.rd) ((s4.trans z5) _ _ h3)
      · exact fin (y := o.B.edge) ((s6.trans (s7.trans z8)) _ _ h5)
      · exact fin (y := max 0 (o.B.urg - o.B.rd)) ((s9.trans (sA.trans sB)) _ _ h8)
      · refine fin (y := o.B.exp) (by rw [hB]; unfold Ib.exp; cases o.B.fed <;> simp)
    have len : ([V.ref t1, V.ref t2, V.ref t3] ++ [V.ref t4] ++ [V.ref t5] ++ [V.ref t6]).length = 6 := rfl
    generalize [V.ref t1, V.ref t2, V.ref t3] ++ [V.ref t4] ++ [V.ref t5] ++ [V.ref t6] = xs at hC all len
    have hpC := SC _ _ hp
    o_args
    refine overL (SqL.of hC) (for_list (K := K) (a := l5) (xs := xs) (fun i σ H' => (∃ v, σ = [some (.ref o.p), some (.ref o.q), some (.ref s1.q), some (.int o.B.nx), some (.int o.B.rd), some (.int (1 + (s1.B.con.length : Nat))), some (.ref l5), some (.bl o.B.fed), v]) ∧ H' = HC) ⟨⟨none, rfl⟩, rfl⟩ (fun i σ H' _ h => by rw [h.2]; exact SqL.of hC) ?_ ?_)
    · rintro i x σ H' hx ⟨⟨v, rfl⟩, rfl⟩
      obtain ⟨t, y, rfl, ht⟩ := all x (List.mem_of_getElem? hx)
      o_args
      refine ⟨_, true, rfl, intK_int _, ?_⟩
      o_args
      refine brT (decide_eq_true rfl) ?_
      o_args
      exact ⟨⟨_, rfl⟩, rfl⟩
    · rintro σ H' ⟨⟨v, rfl⟩, rfl⟩
      o_args
      cases hb : o.B.fed with
      | true =>
        refine brT (by rfl) ?_
        o_args
        refine ⟨o.p, dx, _, rfl, hpC, o.p, o.d, o.e, F, _, o.B, rfl, w.i.same SC, ?_⟩
        o_args
        rw [hb]
        exact ⟨true, true, rfl, rfl, k _ SC⟩
      | false =>
        refine brF (by rfl) ?_
        o_args
        refine ⟨o.p, dx, _, rfl, hpC, o.p, o.d, o.e, F, _, o.B, rfl, w.i.same SC, ?_⟩
        o_args
        rw [hb]
        exact ⟨false, false, rfl, rfl, k _ SC⟩
/-! ### the sender stands -/
/-- z: pairs of an offset and bytes -/
def PcAt (H : Hp) (z : Addr) (ps : List (Int × List Int)) : Prop := ∃ ts : List Addr, H z = some (.lst (ts.map V.ref)) ∧ ts.length = ps.length ∧ ∀ (i : Nat) (t : Addr) (pc : Int × List Int), ts[i]? = some t → ps[i]? = some pc → ∃ u, H t = some (.tup [.int pc.1, .ref u]) ∧ H u = some (.tup (pc.2.map V.int))
/-- no tuple is among these -/
def NoTup (G : List Addr) (H : Hp) : Prop := ∀ b ∈ G, ∀ xs, H b ≠ some (.tup xs)
theorem PcAt.ch {H H' : Hp} {z : Addr} {ps : List (Int × List Int)} {G : List Addr} (h : PcAt H z ps) (x : Ch G H H') (n : z ∉ G) (nt : NoTup G H) : PcAt H' z ps := by
  obtain ⟨ts, h1, h2, h3⟩ := h
  refine ⟨ts, x.at n h1, h2, fun i t pc a b => ?_⟩
  obtain ⟨u, h4, h5⟩ := h3 i t pc a b
  exact ⟨u, x.at (fun m => nt _ m _ h4) h4, x.at (fun m => nt _ m _ h5) h5⟩
theorem Sub.ext {con ys ns : List Int} {off : Int} (h : Sub con off ns) : Sub (con ++ ys) off ns := ⟨h.1, fun i hi => by
  have e := h.2 i hi
  rw [List.getElem?_eq_getElem hi] at e ⊢
  rw [List.getElem?_append_left (getq_lt e)]
  exact e⟩
structure Sw (C : Addr) (s : Sn) (H : Hp) : Prop where
  o : OutAt C H s.p s.l s.B
  a : SnAt H s
  z : PcAt H s.z s.ps
  ok : ∀ pc ∈ s.ps, Sub s.B.con pc.1 pc.2 ∧ Bytes pc.2 ∧ pc.2.length ≤ 400
  byt : Bytes s.B.con
  sp : 1 + (s.B.con.length : Int) - s.B.base ≤ s.B.lim
  mc : 6 ≤ s.most ∧ s.most ≤ 100 ∧ s.B.con.length ≤ s.cap ∧ s.cap ≤ 400
  n : s.l ≠ s.w ∧ s.l ≠ s.z ∧ s.w ≠ s.z
def Sn.foot (s : Sn) : List Addr := [s.p, s.l, s.q, s.w, s.z]
section
variable {C : Addr} {s : Sn} {H H' : Hp} {G : List Addr}
theorem Sw.ch (w : Sw C s H) (x : Ch G H H') (n : ∀ b ∈ s.foot, b ∉ G) (nt : NoTup G H) : Sw C s H' := ⟨w.o.ch x (n _ (by simp [Sn.foot])) (n _ (by simp [Sn.foot])), w.a.ch x (n _ (by simp [Sn.foot])) (n _ (by simp [Sn.foot])), w.z.ch x (n _ (by simp [Sn.foot])) nt, w.ok, w.byt, w.sp, w.mc, w.n⟩
theorem Sw.same (w : Sw C s H) (x : Same H H') : Sw C s H' := w.ch (Ch.of (G := []) x) (fun _ _ z => nomatch z) (fun _ z => nomatch z)
theorem Sw.ne (w : Sw C s H) : s.p ≠ s.q ∧ s.p ≠ s.l ∧ s.p ≠ s.w ∧ s.p ≠ s.z ∧ s.q ≠ s.l ∧ s.q ≠ s.w ∧ s.q ≠ s.z := by
  obtain ⟨⟨dx, hp⟩, hl, _⟩ := w.o
  obtain ⟨hq, hw⟩ := w.a
  obtain ⟨ts, hz, _⟩ := w.z
  have ne : ∀ {a b : Addr} {u v : HO}, H a = some u → H b = some v → u ≠ v → a ≠ b := fun h1 h2 n e => n (by rw [e, h2] at h1; exact (Option.some.inj h1).symm)
  exact ⟨ne hp hq nofun, ne hp hl nofun, ne hp hw nofun, ne hp hz nofun, ne hq hl nofun, ne hq hw nofun, ne hq hz nofun⟩
theorem Sw.nt (w : Sw C s H) : NoTup s.foot H := fun b hb xs e => by
  obtain ⟨⟨dx, hp⟩, hl, _⟩ := w.o
  obtain ⟨hq, hw⟩ := w.a
  obtain ⟨ts, hz, _⟩ := w.z
  simp only [Sn.foot, List.mem_cons, List.not_mem_nil, or_false] at hb
  rcases hb with rfl | rfl | rfl | rfl | rfl
  · rw [hp] at e; cases e
  · rw [hl] at e; cases e
  · rw [hq] at e; cases e
  · rw [hw] at e; cases e
  · rw [hz] at e; cases e
end
theorem Box.nt {a : Addr} {F : List Addr} {H : Hp} (B : Box a F H) : ∀ xs, H a ≠ some (.tup xs) := fun xs e => by
  obtain ⟨c, cs, p, r, s, n, h1, _⟩ := B
  rw [h1] at e
  cases e
def sp__law_sender_is (K : PySem.W.Frag) (C : Addr) : Sp := fun vs H Q _ => ∃ (s : Sn), vs = [.ref s.p, .ref s.q] ∧ Sw C s H ∧ ∀ H', Same H H' → Q (.bl true) H'
set_option maxHeartbeats 0 in
theorem ok__law_sender_is (T : Txt K mg) : FnOk P w K mg base CX0 3 T.a__law_sender_is T.fd__law_sender_is ["outbox", "sender"] (sp__law_sender_is K T.c_Outbox) := by
  have S := sc__law_sender_is
  refine T.F__law_sender_is.ok S (fun vs H Q E h => ?_) (fun cdv A outer s H vs Q E hr h => ?_)
  · obtain ⟨s, rfl, _⟩ := h
    rfl
  · obtain ⟨s1, rfl, w, k⟩ := h
    obtain ⟨hsq, hsw⟩ := id w.a
    unfold Sn.kvs at hsq
    obtain ⟨⟨dx, hp⟩, _⟩ := id w.o
    have sp := w.sp
    refine ⟨_, (pss_cons (ps_set (i := 2) S.nd rfl (Or.inl rfl) (pe_op op_add pe_int (pe_callB (id := "len") (call_lenK (K := K) rfl) (by rfl) T.b_len (by decide +kernel) (pa_cons (pe_dget (room_u1 hr) (pv 1) pe_str (fun _ _ => rfl)) pa_nil))))
      (pss_cons (ps_set (i := 3) S.nd rfl (Or.inl rfl) (pe_lst (pa_cons (pe_tup (pa_cons (pe_fld (pv 0) rfl) (pa_cons (pe_dget (room_u1 hr) (pv 1) pe_str (fun _ _ => rfl)) pa_nil))) (pa_cons (pe_tup (pa_cons (pe_fld (pv 0) rfl) (pa_cons (pv 2) pa_nil))) (pa_cons (pe_tup (pa_cons (pe_prop (pv 0) T.cl_Outbox T.PR_Outbox_bound (ok_Outbox_bound T) (hr.mono (by decide)) T.B_Outbox_bound .nil pass0 rfl) (pa_cons (pe_op op_add (pv 2) (pe_callTy (T := "int") call_int1 (by rfl) T.b_int (by decide +kernel) (pa_cons (pe_dget (room_u1 hr) (pv 1) pe_str (fun _ _ => rfl)) pa_nil))) pa_nil))) pa_nil)))))
      (pss_cons (ps_set (i := 3) S.nd rfl (Or.inl rfl) (pe_op op_cat (pv 3) (pe_lst (pa_cons (pe_tup (pa_cons (pe_prop (pv 0) T.cl_Outbox T.PR_Outbox_free (ok_Outbox_free T) (hr.mono (by decide)) T.B_Outbox_free .nil pass0 rfl) (pa_cons (pe_op op_sub (pe_dget (room_u1 hr) (pv 1) pe_str (fun _ _ => rfl)) (pe_op op_sub (pv 2) (pe_dget (room_u1 hr) (pv 1) pe_str (fun _ _ => rfl)))) pa_nil))) (pa_cons (pe_tup (pa_cons (pe_fld (pv 0) rfl) (pa_cons (pe_dget (room_u1 hr) (pv 1) pe_str (fun _ _ => rfl)) pa_nil))) pa_nil)))))
      (pss_cons (ps_for PassesOwn.never rfl (pi_list (pv 3)) (pg_name (i := 4) S.nd rfl (Or.inl rfl)) (pss_one (ps_if (PW.pt (pw_or (pt_not (pt_val (pe_call (ok__law_is_whole T) (hr.mono (by decide)) rfl T.g__law_is_whole T.F__law_is_whole.kp T.B__law_is_whole .nil pass0 (pa_cons (pe_ix ix_tup (pv 4) pe_int (fun _ _ => rfl)) pa_nil)))) (pw_or1 (pt_cmpR op_ne (pe_ix ix_tup (pv 4) pe_int (fun _ _ => rfl)) (pe_ix ix_tup (pv 4) pe_int (fun _ _ => rfl)) (nomark _))))) (pss_one (ps_ret pe_bl)) pss_nil)))
      (pss_one (ps_ret pe_bl)))))), ?_⟩
    refine st__law_sender_is ?_
    o_args
    refine lenA (SeqA.lst hsw) ?_
    rw [List.length_map]
    o_args
    refine fget hp T.cl_Outbox T.n_Outbox_base rfl ?_
    o_args
    refine newTup (by simp) fun t1 H1 n1 s1' h1 => ?_
    have hp1 := s1' _ _ hp
    o_args
    refine fget hp1 T.cl_Outbox T.n_Outbox_end rfl ?_
    o_args
    refine newTup (by simp) fun t2 H2 n2 s2 h2 => ?_
    have S2 := s1'.trans s2
    have hp2 := S2 _ _ hp
    have hq2 := S2 _ _ hsq
    o_args
    refine ⟨s1.p, dx, _, rfl, hp2, s1.p, s1.l, s1.B, rfl, w.o.same S2, ?_⟩
    o_args
    refine .inr ⟨s1.B.closed, rfl, ?_⟩
    o_args
    refine newTup (by simp) fun t3 H3 n3 s3 h3 => ?_
    o_args
    refine newList (by simp) fun l1 H4 n4 s4 h4 => ?_
    have S4 := (S2.trans s3).trans s4
    have hp4 := S4 _ _ hp
    have hq4 := S4 _ _ hsq
    clear hp1 hp2 hq2
    o_args
    refine ⟨s1.p, dx, _, rfl, hp4, s1.p, s1.l, s1.B, rfl, w.o.same S4, ?_⟩
    o_args
    refine newTup (by simp) fun t4 H5 n5 s5 h5 => ?_
    have S5 := S4.trans s5
    have hp5 := S5 _ _ hp
    have hq5 := S5 _ _ hsq
    o_args
    refine fget hp5 T.cl_Outbox T.n_Outbox_urgent_end rfl ?_
    o_args
    refine newTup (by simp) fun t5 H6 n6 s6 h6 => ?_
    o_args
    refine newList (by simp) fun l2 H7 n7 s7 h7 => ?_
    o_args
    refine catList ((s5.trans (s6.trans s7)) _ _ h4) h7 (by simp) fun l3 H8 n8 s8 h8 => ?_
    have S8 := ((S5.trans s6).trans s7).trans s8
    have all : ∀ x ∈ [V.ref t1, V.ref t2, V.ref t3] ++ [V.ref t4, V.ref t5], ∃ t y, x = .ref t ∧ H8 t = some (.tup [.int y, .int y]) := by
      have z5 := s5.trans (s6.trans (s7.trans s8))
      intro x hx
      simp only [List.cons_append, List.nil_append, List.mem_cons, List.not_mem_nil, or_false] at hx
      rcases hx with rfl | rfl | rfl | rfl | rfl
      · exact ⟨t1, s1.B.base, rfl, (s2.trans (s3.trans (s4.trans z5))) _ _ h1⟩
      · exact ⟨t2, 1 + (s1.B.con.length : Int), rfl, (s3.trans (s4.trans z5)) _ _ h2⟩
      · exact ⟨t3, s1.B.bound, rfl, by
          rw [(s4.trans z5) _ _ h3]
          unfold Bx.bound
          cases s1.B.closed <;> simp⟩
      · exact ⟨t4, s1.B.spare, rfl, by
          rw [(s6.trans (s7.trans s8)) _ _ h5, show s1.B.lim - (1 + (s1.B.con.length : Int) - s1.B.base) = s1.B.spare by unfold Bx.spare; omega]⟩
      · exact ⟨t5, s1.B.urg, rfl, (s7.trans s8) _ _ h6⟩
    generalize [V.ref t1, V.ref t2, V.ref t3] ++ [V.ref t4, V.ref t5] = xs at h8 all
    o_args
    refine overL (SqL.of h8) (for_list (K := K) (a := l3) (xs := xs) (fun i σ H' => (∃ v, σ = [some (.ref s1.p), some (.ref s1.q), some (.int (1 + (s1.B.con.length : Nat))), some (.ref l3), v]) ∧ H' = H8) ⟨⟨none, rfl⟩, rfl⟩ (fun i σ H' _ h => by rw [h.2]; exact SqL.of h8) ?_ ?_)
    · rintro i x σ H' hx ⟨⟨v, rfl⟩, rfl⟩
      obtain ⟨t, y, rfl, ht⟩ := all x (List.mem_of_getElem? hx)
      o_args
      refine ⟨_, true, rfl, intK_int _, ?_⟩
      o_args
      refine brT (decide_eq_true rfl) ?_
      o_args
      exact ⟨⟨_, rfl⟩, rfl⟩
    · rintro σ H' ⟨⟨v, rfl⟩, rfl⟩
      o_args
      exact k _ S8
/-! ### the law writes -/
def Bx.did (B : Bx) (u : Bool) (ns : List Int) : Bx := if u = true then B.urge ns else B.add ns
theorem Bx.did_con (B : Bx) (u : Bool) (ns : List Int) : (B.did u ns).con = B.con ++ ns.take (B.many ns).toNat := by cases u <;> rfl
theorem Bx.did_eq (B : Bx) (u : Bool) (ns : List Int) : (B.did u ns).lim = B.lim ∧ (B.did u ns).base = B.base ∧ (B.did u ns).closed = B.closed ∧ (B.did u ns).urg = if u = true ∧ 0 < B.many ns then 1 + ((B.did u ns).con.length : Int) else B.urg := by
  cases u with
  | true =>
    refine ⟨rfl, rfl, rfl, ?_⟩
    show (if 0 < B.many ns then _ else _) = _
    by_cases c : 0 < B.many ns
    · rw [if_pos c, if_pos ⟨rfl, c⟩]; rfl
    · rw [if_neg c, if_neg (fun z => c z.2)]
  | false => exact ⟨rfl, rfl, rfl, by rw [if_neg (by simp)]; rfl⟩
def sp__law_writes (K : PySem.W.Frag) (C : Addr) : Sp := fun vs H Q _ => ∃ (a : Addr) (L : List Addr) (s : Sn), vs = [.ref a, .ref s.p, .ref s.q] ∧ Box a L H ∧ Sw C s H ∧ (∀ b ∈ s.foot, b ∈ L) ∧
  ∀ B' w' n H', B'.base = s.B.base → B'.closed = s.B.closed → B'.lim = s.B.lim → (∃ ys, B'.con = s.B.con ++ ys ∧ (s.B.closed = true → ys = [])) → (∀ z ∈ n, H z = none) → (w' = s.w ∨ w' ∈ n) → Sw C { s with B := B', w := w' } H' → Box a (n ++ L) H' → Al n H' → Ch [a, s.p, s.l, s.q] H H' → Q (.bl true) H'
set_option maxHeartbeats 0 in
theorem ok__law_writes (T : Txt K mg) : FnOk P w K mg base CX0 8 T.a__law_writes T.fd__law_writes ["box", "outbox", "sender"] (sp__law_writes K T.c_Outbox) := by
  have S := sc__law_writes
  refine T.F__law_writes.ok S (fun vs H Q E h => ?_) (fun cdv A outer s H vs Q E hr h => ?_)
  · obtain ⟨a, L, s, rfl, _⟩ := h
    rfl
  · obtain ⟨a, L, s1, rfl, B0, w, fl, k⟩ := h
    obtain ⟨mc1, mc2, mc3, mc4⟩ := w.mc
    have an : ∀ b ∈ s1.foot, b ∉ [a] := fun b hb z => B0.nin (by rw [← List.mem_singleton.mp z]; exact fl b hb)
    have hsq := w.a.1
    unfold Sn.kvs at hsq
    refine ⟨_, (pss_cons (ps_set (i := 3) S.nd rfl (Or.inl rfl) (pe_call (ok__law_bytes T) (hr.mono (by decide)) rfl T.g__law_bytes T.F__law_bytes.kp T.B__law_bytes .nil pass0 (pa_cons (pv 0) (pa_cons (pe_dget (room_u1 hr) (pv 2) pe_str (fun _ _ => rfl)) pa_nil))))
      (pss_cons (ps_if (PW.pt (pw_or (pt_val (pe_dget (room_u1 hr) (pv 2) pe_str (fun _ _ => rfl))) (pw_or1 (pt_cmpR op_gt (pe_op op_add (pe_callB (id := "len") (call_lenK (K := K) rfl) (by rfl) T.b_len (by decide +kernel) (pa_cons (pe_dget (room_u1 hr) (pv 2) pe_str (fun _ _ => rfl)) pa_nil)) (pe_callB (id := "len") (call_lenK (K := K) rfl) (by rfl) T.b_len (by decide +kernel) (pa_cons (pv 3) pa_nil))) (pe_dget (room_u1 hr) (pv 2) pe_str (fun _ _ => rfl)) (nomark _))))) (pss_one (ps_ret pe_bl)) pss_nil)
      (pss_cons (ps_set (i := 4) S.nd rfl (Or.inl rfl) (pe_op op_sub (pe_dget (room_u1 hr) (pv 2) pe_str (fun _ _ => rfl)) (pe_op op_sub (pe_op op_add pe_int (pe_callB (id := "len") (call_lenK (K := K) rfl) (by rfl) T.b_len (by decide +kernel) (pa_cons (pe_dget (room_u1 hr) (pv 2) pe_str (fun _ _ => rfl)) pa_nil))) (pe_dget (room_u1 hr) (pv 2) pe_str (fun _ _ => rfl)))))
      (pss_cons (ps_set (i := 5) S.nd rfl (Or.inl rfl) (pe_callB (id := "min") (call_min2K rfl) (by rfl) T.b_min (by decide +kernel) (pa_cons (pv 4) (pa_cons (pe_callB (id := "len") (call_lenK (K := K) rfl) (by rfl) T.b_len (by decide +kernel) (pa_cons (pv 3) pa_nil)) pa_nil))))
      (pss_cons (ps_set (i := 6) S.nd rfl (Or.inl rfl) (pe_cmpR op_eq (pe_call (ok__law_draw T) (hr.mono (by decide)) rfl T.g__law_draw T.F__law_draw.kp T.B__law_draw .nil pass0 (pa_cons (pv 0) (pa_cons pe_int pa_nil))) pe_int (nomark _)))
      (C8.pss_cut (ps_if (pt_val (pv 6)) (pss_one (ps_set (i := 7) S.nd rfl (Or.inl rfl) (pe_meth (pv 1) T.cl_Outbox T.m_Outbox_urge (ok_Outbox_urge T) (hr.mono (by decide)) T.B_Outbox_urge .nil passL (pa_cons (pe_callTy (T := "list") (call_listK (K := K) rfl) (by rfl) T.b_list (by decide +kernel) (pa_cons (pv 3) pa_nil)) pa_nil)))) (pss_one (ps_set (i := 7) S.nd rfl (Or.inl rfl) (pe_meth (pv 1) T.cl_Outbox T.m_Outbox_put (ok_Outbox_put T) (hr.mono (by decide)) T.B_Outbox_put .nil passL (pa_cons (pe_callTy (T := "tuple") (call_tupK (K := K) rfl) (by rfl) T.b_tuple (by decide +kernel) (pa_cons (pv 3) pa_nil)) pa_nil)))))
      (pss_cons (ps_dput (room_u1 hr) (pv 2) pe_str (pe_op op_cat (pe_dget (room_u1 hr) (pv 2) pe_str (fun _ _ => rfl)) (pe_slice sl_list (pv 3) po_none (po_some (pv 5)))) rfl)
      (C8.pss_cut (ps_if (PW.pt (pw_and (pt_val (pv 6)) (pw_and1 (pt_cmpR op_gt (pv 5) pe_int (nomark _))))) (pss_one (ps_dput (room_u1 hr) (pv 2) pe_str (pe_op op_add pe_int (pe_callB (id := "len") (call_lenK (K := K) rfl) (by rfl) T.b_len (by decide +kernel) (pa_cons (pe_dget (room_u1 hr) (pv 2) pe_str (fun _ _ => rfl)) pa_nil))) rfl)) pss_nil)
      (pss_one (ps_ret (pe_and (pe_call (ok__law_is_whole T) (hr.mono (by decide)) rfl T.g__law_is_whole T.F__law_is_whole.kp T.B__law_is_whole .nil pass0 (pa_cons (pv 7) pa_nil)) (pe_one (pe_cmpR op_eq (pv 7) (pv 5) (nomark _)))))))))))))), ?_⟩
    refine st__law_writes ?_
    o_args
    refine ⟨a, L, s1.most, rfl, mc1, by omega, B0, fun D ns H1 nD hD hb hl B1 c1 => ?_⟩
    have w1 := w.ch c1 an (fun b hb => by rw [List.mem_singleton.mp hb]; exact B0.nt)
    obtain ⟨hsq1, hsw1⟩ := id w1.a
    unfold Sn.kvs at hsq1
    have B1' : Box a L H1 := B1.less fun b hb => List.mem_cons_of_mem _ hb
    have stay : ∀ H', Same H1 H' → Q (.bl true) H' := fun H' s' => k s1.B s1.w [] H' rfl rfl rfl ⟨[], by simp, fun _ => rfl⟩ (fun _ z => nomatch z) (.inl rfl) (w1.same s') (B1'.same s') (fun _ z => nomatch z) ((c1.more (by simp)).trans (Ch.of s'))
    o_args
    cases hc : s1.B.closed with
    | true =>
      refine brT (by rfl) ?_
      rw [if_pos rfl]
      o_args
      exact stay H1 (Same.refl _)
    | false =>
      refine brF (by rfl) ?_
      o_args
      refine lenA (SeqA.lst hsw1) ?_
      rw [List.length_map]
      o_args
      refine lenA (SeqA.lst hD) ?_
      rw [List.length_map]
      o_args
      refine brD (fun cc => ?_) (fun cc => ?_)
      · o_args
        exact stay H1 (Same.refl _)
      have capl : s1.B.con.length + ns.length ≤ s1.cap := by omega
      have sp := w.sp
      have mn := s1.B.many0 ns
      have msp : s1.B.many ns ≤ s1.B.spare := by unfold Bx.many; omega
      o_args
      refine lenA (SeqA.lst hsw1) ?_
      rw [List.length_map]
      o_args
      refine lenA (SeqA.lst hD) ?_
      rw [List.length_map]
      o_args
      rw [show min (s1.B.lim - (1 + (s1.B.con.length : Int) - s1.B.base)) (ns.length : Int) = s1.B.many ns by unfold Bx.many Bx.spare; omega]
      refine ⟨a, D :: L, _, rfl, B1, by decide, by decide, fun u H2 u0 u1 B2 c2 => ?_⟩
      have w2 := w1.ch c2 an (fun b hb => by rw [List.mem_singleton.mp hb]; exact B1.nt)
      have hD2 := c2.at (fun z => B1.nin (by rw [← List.mem_singleton.mp z]; exact List.mem_cons_self)) hD
      obtain ⟨⟨dx, hp2⟩, hl2, ok2⟩ := id w2.o
      have C2 := c1.trans c2
      o_args
      generalize decide (u = 2) = ub
      generalize hsp : s1.B.lim - (1 + (s1.B.con.length : Int) - s1.B.base) = spa
      refine ⟨fun σ H' => σ = [some (.ref a), some (.ref s1.p), some (.ref s1.q), some (.ref D), some (.int spa), some (.int (s1.B.many ns)), some (.bl ub), some (.int (s1.B.many ns))] ∧ OutAt T.c_Outbox H' s1.p s1.l (s1.B.did ub ns) ∧ Ch [s1.p, s1.l] H2 H', ?_, ?_⟩
      · o_args
        cases ub with
        | true =>
          refine brT (by rfl) ?_
          o_args
          refine ⟨s1.p, dx, _, rfl, hp2, rfl, ?_⟩
          o_args
          refine listOf (SeqA.lst hD2) fun M H3 n3 s3 h3 => ?_
          o_args
          refine ⟨s1.p, s1.l, s1.B, _, rfl, w2.o.same s3, by omega, .inr ⟨hc, .inl ⟨M, ns, rfl, SeqA.lst h3, hb, by omega, fun H4 c4 O4 => ?_⟩⟩⟩
          o_args
          exact ⟨rfl, O4, (Ch.of s3).trans c4⟩
        | false =>
          refine brF (by rfl) ?_
          o_args
          refine ⟨s1.p, dx, _, rfl, hp2, rfl, ?_⟩
          o_args
          refine ⟨D, _, rfl, .inl ⟨SqL.of hD2, fun t nt => ?_⟩⟩
          have s3 := Same.new (o := .tup (ns.map V.int)) nt
          have h3 : upd H2 t (.tup (ns.map V.int)) t = some (.tup (ns.map V.int)) := upd_same
          generalize upd H2 t (.tup (ns.map V.int)) = H3 at s3 h3
          o_args
          refine ⟨s1.p, s1.l, s1.B, _, rfl, w2.o.same s3, by omega, .inr ⟨hc, .inl ⟨t, ns, rfl, SeqA.tup h3, hb, by omega, fun H4 c4 O4 => ?_⟩⟩⟩
          o_args
          exact ⟨rfl, O4, (Ch.of s3).trans c4⟩
      · rintro σ H4 ⟨rfl, O4, c4⟩
        obtain ⟨ne1, ne2, ne3, ne4, ne5, ne6, ne7⟩ := w.ne
        obtain ⟨nn1, nn2, nn3⟩ := w.n
        obtain ⟨hsq2, hsw2⟩ := id w2.a
        unfold Sn.kvs at hsq2
        have hq4 := c4.at (show s1.q ∉ [s1.p, s1.l] by simp [ne1.symm, ne5]) hsq2
        have hw4 := c4.at (show s1.w ∉ [s1.p, s1.l] by simp [ne3.symm, nn1.symm]) hsw2
        have Doff : ∀ b ∈ s1.foot, D ≠ b := fun b hb z => by
          have h : H D ≠ none := by
            rw [z]
            obtain ⟨⟨dx', hp'⟩, hl', _⟩ := w.o
            obtain ⟨ts, hz', _⟩ := w.z
            simp only [Sn.foot, List.mem_cons, List.not_mem_nil, or_false] at hb
            rcases hb with rfl | rfl | rfl | rfl | rfl
            · rw [hp']; exact nofun
            · rw [hl']; exact nofun
            · rw [w.a.1]; exact nofun
            · rw [w.a.2]; exact nofun
            · rw [hz']; exact nofun
          exact h nD
        have hD4 := c4.at (show D ∉ [s1.p, s1.l] by simp [Doff s1.p (by simp [Sn.foot]), Doff s1.l (by simp [Sn.foot])]) hD2
        o_args
        refine sliceL (SqL.of hD4) fun l5 H5 n5 s5 h5 => ?_
        have h5 : H5 l5 = some (.lst ((ns.take (s1.B.many ns).toNat).map V.int)) := by
          rw [h5, show s1.B.many ns = (((s1.B.many ns).toNat : Nat) : Int) by omega, cut_to, ← List.map_take, Int.toNat_natCast]
        o_args
        refine catList (s5 _ _ hw4) h5 (by rw [List.length_map, List.length_map, List.length_take]; omega) fun w' H6 n6 s6 h6 => ?_
        rw [← List.map_append, ← s1.B.did_con ub ns] at h6
        have S6 := s5.trans s6
        have hq6 := S6 _ _ hq4
        obtain ⟨dl, db, dc, du⟩ := s1.B.did_eq ub ns
        have dcn := s1.B.did_con ub ns
        generalize s1.B.did ub ns = Bd at *
        have clen : (Bd.con.length : Int) = s1.B.con.length + s1.B.many ns := by
          rw [dcn, List.length_append, List.length_take]
          omega
        have nw : H w' = none := C2.none (c4.none (none_of s5 n6))
        have wne : ∀ {b}, b ∈ s1.foot → b ≠ w' := fun hb z => by
          have : H w' ≠ none := by
            rw [← z]
            obtain ⟨⟨dx', hp'⟩, hl', _⟩ := w.o
            obtain ⟨ts, hz', _⟩ := w.z
            simp only [Sn.foot, List.mem_cons, List.not_mem_nil, or_false] at hb
            rcases hb with rfl | rfl | rfl | rfl | rfl
            · rw [hp']; exact nofun
            · rw [hl']; exact nofun
            · rw [w.a.1]; exact nofun
            · rw [w.a.2]; exact nofun
            · rw [hz']; exact nofun
          exact this nw
        o_args
        refine dput (k := "written") (v := .ref w') (kvs' := Sn.kvs { s1 with w := w' }) hq6 (Nat.le_of_ble_eq_true rfl) (by with_unfolding_all rfl) fun H7 s7 h7 => ?_
        have hw7 := s7 _ _ (wne (by simp [Sn.foot])).symm h6
        have hq7 := h7
        unfold Sn.kvs at hq7
        have c7 : Ch [s1.q] H6 H7 := Ch.ofX (by simp) s7 h7
        have ek : Sn.kvs { s1 with B := Bd, w := w' } = [(.inr "written", .ref w'), (.inr "base", .int s1.B.base), (.inr "urgent", .int Bd.urg), (.inr "closed", .bl s1.B.closed), (.inr "pieces", .ref s1.z), (.inr "most", .int s1.most), (.inr "cap", .int s1.cap), (.inr "limit", .int s1.B.lim)] := by
          unfold Sn.kvs
          simp only [db, dc, dl]
        refine ⟨fun σ H' => σ = [some (.ref a), some (.ref s1.p), some (.ref s1.q), some (.ref D), some (.int spa), some (.int (s1.B.many ns)), some (.bl ub), some (.int (s1.B.many ns))] ∧ H' s1.q = some (.dK (Sn.kvs { s1 with B := Bd, w := w' })) ∧ Ch [s1.q] H7 H', ?_, ?_⟩
        · rw [ek, du]
          have no : ¬ (ub = true ∧ 0 < s1.B.many ns) → H7 s1.q = some (.dK [(.inr "written", .ref w'), (.inr "base", .int s1.B.base), (.inr "urgent", .int (if ub = true ∧ 0 < s1.B.many ns then 1 + (Bd.con.length : Int) else s1.B.urg)), (.inr "closed", .bl s1.B.closed), (.inr "pieces", .ref s1.z), (.inr "most", .int s1.most), (.inr "cap", .int s1.cap), (.inr "limit", .int s1.B.lim)]) := fun n => by
            rw [if_neg n]
            exact hq7
          o_args
          cases hu : ub with
          | true =>
            refine brT (by rfl) ?_
            o_args
            refine brD (fun c => ?_) (fun c => ?_)
            · o_args
              refine lenA (SeqA.lst hw7) ?_
              rw [List.length_map]
              o_args
              refine dput (P := fun H' => ([some (.ref a), some (.ref s1.p), some (.ref s1.q), some (.ref D), some (.int spa), some (.int (s1.B.many ns)), some (.bl true), some (.int (s1.B.many ns))] : L2.St) = [some (.ref a), some (.ref s1.p), some (.ref s1.q), some (.ref D), some (.int spa), some (.int (s1.B.many ns)), some (.bl true), some (.int (s1.B.many ns))] ∧ H' s1.q = some (.dK [(.inr "written", .ref w'), (.inr "base", .int s1.B.base), (.inr "urgent", .int (if true = true ∧ 0 < s1.B.many ns then 1 + (Bd.con.length : Int) else s1.B.urg)), (.inr "closed", .bl s1.B.closed), (.inr "pieces", .ref s1.z), (.inr "most", .int s1.most), (.inr "cap", .int s1.cap), (.inr "limit", .int s1.B.lim)]) ∧ Ch [s1.q] H7 H') (k := "urgent") (v := .int (1 + (Bd.con.length : Int))) (kvs' := [(.inr "written", .ref w'), (.inr "base", .int s1.B.base), (.inr "urgent", .int (1 + (Bd.con.length : Int))), (.inr "closed", .bl s1.B.closed), (.inr "pieces", .ref s1.z), (.inr "most", .int s1.most), (.inr "cap", .int s1.cap), (.inr "limit", .int s1.B.lim)]) hq7 (Nat.le_of_ble_eq_true rfl) (by with_unfolding_all rfl) fun H8 s8 h8 => ?_
              exact ⟨rfl, by rw [if_pos ⟨rfl, c⟩]; exact h8, Ch.ofX (by simp) s8 h8⟩
            · o_args
              rw [hu] at no
              exact ⟨rfl, no fun z => c z.2, Ch.refl⟩
          | false =>
            refine brF (by rfl) ?_
            o_args
            rw [hu] at no
            exact ⟨rfl, no fun z => (by simp at z), Ch.refl⟩
        · rintro σ H8 ⟨rfl, hq8, c8⟩
          have c68 := c7.trans c8
          have hw8 := c68.at (show w' ∉ [s1.q] from fun z => (wne (by simp [Sn.foot])) (List.mem_singleton.mp z).symm) h6
          have C8 : Ch [s1.p, s1.l, s1.q] H2 H8 := ((c4.more (by simp)).trans (Ch.of S6)).trans (c68.more (by simp))
          have qn : ∀ {b}, b ≠ s1.q → b ∉ [s1.q] := fun h z => h (List.mem_singleton.mp z)
          have B2' : Box a L H2 := B2.less fun b hb => List.mem_cons_of_mem _ hb
          have B8 : Box a ([w'] ++ L) H8 := (((B2'.ch c4 (fun b hb => by
            simp only [List.mem_cons, List.not_mem_nil, or_false] at hb
            rcases hb with rfl | rfl
            · exact fl _ (by simp [Sn.foot])
            · exact fl _ (by simp [Sn.foot]))).same s5).own n6 s6).ch c68 (fun b hb => by
            rw [List.mem_singleton.mp hb]
            exact List.mem_cons_of_mem _ (fl _ (by simp [Sn.foot])))
          unfold Bx.spare at msp
          o_args
          refine ⟨_, true, rfl, intK_int _, ?_⟩
          o_args
          rw [decide_eq_true rfl]
          refine k Bd w' [w'] H8 db dc dl ⟨_, dcn, fun z => by rw [hc] at z; cases z⟩ (fun z hz => by rw [List.mem_singleton.mp hz]; exact nw) (.inr List.mem_cons_self) ⟨(O4.same S6).ch c68 (qn ne1) (qn ne5.symm), ⟨hq8, hw8⟩, w2.z.ch C8 (by simp [ne4.symm, nn2.symm, ne7.symm]) (fun b hb => w2.nt b (by simp only [Sn.foot, List.mem_cons, List.not_mem_nil, or_false] at hb ⊢; rcases hb with z | z | z <;> simp [z])), fun pc hpc => ?_, ?_, ?_, ⟨mc1, mc2, ?_, mc4⟩, ⟨wne (by simp [Sn.foot]), nn2, (wne (by simp [Sn.foot])).symm⟩⟩ B8 (fun b hb => by rw [List.mem_singleton.mp hb, hw8]; exact nofun) ((C2.more (by simp)).trans (C8.more (by simp)))
          · obtain ⟨o1, o2, o3⟩ := w.ok pc hpc
            refine ⟨?_, o2, o3⟩
            show Sub Bd.con _ _
            rw [dcn]
            exact o1.ext
          · show Bytes Bd.con
            rw [dcn]
            exact w.byt.app hb.take
          · show 1 + (Bd.con.length : Int) - Bd.base ≤ Bd.lim
            rw [db, dl]
            omega
          · show Bd.con.length ≤ s1.cap
            omega
/-! ### the law cuts -/
def sp__law_cuts (K : PySem.W.Frag) (C : Addr) : Sp := fun vs H Q _ => ∃ (a : Addr) (L : List Addr) (s : Sn), vs = [.ref a, .ref s.p, .ref s.q] ∧ Box a L H ∧ Sw C s H ∧ (∀ b ∈ s.foot, b ∈ L) ∧ s.ps.length ≤ 1000 ∧
  ∀ pc H', Sw C { s with ps := s.ps ++ [pc] } H' → Box a L H' → Ch [a, s.z] H H' → Q (.bl true) H'
set_option maxHeartbeats 0 in
theorem ok__law_cuts (T : Txt K mg) : FnOk P w K mg base CX0 5 T.a__law_cuts T.fd__law_cuts ["box", "outbox", "sender"] (sp__law_cuts K T.c_Outbox) := by
  have S := sc__law_cuts
  refine T.F__law_cuts.ok S (fun vs H Q E h => ?_) (fun cdv A outer s H vs Q E hr h => ?_)
  · obtain ⟨a, L, s, rfl, _⟩ := h
    rfl
  · obtain ⟨a, L, s1, rfl, B0, w, fl, pl, k⟩ := h
    obtain ⟨mc1, mc2, mc3, mc4⟩ := w.mc
    have an : ∀ b ∈ s1.foot, b ∉ [a] := fun b hb z => B0.nin (by rw [← List.mem_singleton.mp z]; exact fl b hb)
    obtain ⟨hsq, hsw⟩ := id w.a
    unfold Sn.kvs at hsq
    obtain ⟨_, _, ok⟩ := id w.o
    have b1 := ok.b1
    have b2 := ok.b2
    refine ⟨_, (pss_cons (ps_set (i := 3) S.nd rfl (Or.inl rfl) (pe_op op_add pe_int (pe_callB (id := "len") (call_lenK (K := K) rfl) (by rfl) T.b_len (by decide +kernel) (pa_cons (pe_dget (room_u1 hr) (pv 2) pe_str (fun _ _ => rfl)) pa_nil))))
      (pss_cons (ps_set (i := 4) S.nd rfl (Or.inl rfl) (pe_op op_add (pe_dget (room_u1 hr) (pv 2) pe_str (fun _ _ => rfl)) (pe_call (ok__law_draw T) (hr.mono (by decide)) rfl T.g__law_draw T.F__law_draw.kp T.B__law_draw .nil pass0 (pa_cons (pv 0) (pa_cons (pe_op op_add (pe_op op_sub (pv 3) (pe_dget (room_u1 hr) (pv 2) pe_str (fun _ _ => rfl))) pe_int) pa_nil)))))
      (pss_cons (ps_set (i := 5) S.nd rfl (Or.inl rfl) (pe_op op_add (pv 4) (pe_call (ok__law_draw T) (hr.mono (by decide)) rfl T.g__law_draw T.F__law_draw.kp T.B__law_draw .nil pass0 (pa_cons (pv 0) (pa_cons (pe_op op_add (pe_op op_sub (pv 3) (pv 4)) pe_int) pa_nil)))))
      (pss_cons (ps_set (i := 6) S.nd rfl (Or.inl rfl) (pe_meth (pv 1) T.cl_Outbox T.m_Outbox_cut (ok_Outbox_cut T) (hr.mono (by decide)) T.B_Outbox_cut .nil passL (pa_cons (pv 4) (pa_cons (pv 5) pa_nil))))
      (pss_cons (ps_expr (pe_bm PySem.F.plainAttrs_list PySem.F.slot_list_append PySem.F.type_list_append mt_append (pe_dget (room_u1 hr) (pv 2) pe_str (fun _ _ => rfl)) (pa_cons (pe_tup (pa_cons (pv 4) (pa_cons (pv 6) pa_nil))) pa_nil)))
      (pss_one (ps_ret (pe_call (ok__law_tuple_is T) (hr.mono (by decide)) rfl T.g__law_tuple_is T.F__law_tuple_is.kp T.B__law_tuple_is .nil pass0 (pa_cons (pv 6) (pa_cons (pe_slice sl_list (pe_dget (room_u1 hr) (pv 2) pe_str (fun _ _ => rfl)) (po_some (pe_op op_sub (pv 4) pe_int)) (po_some (pe_op op_sub (pv 5) pe_int))) pa_nil)))))))))), ?_⟩
    refine st__law_cuts ?_
    o_args
    refine lenA (SeqA.lst hsw) ?_
    rw [List.length_map]
    o_args
    refine ⟨a, L, _, rfl, B0, by omega, by omega, fun d1 H1 d10 d11 B1 c1 => ?_⟩
    have w1 := w.ch c1 an (fun b hb => by rw [List.mem_singleton.mp hb]; exact B0.nt)
    obtain ⟨hsq1, hsw1⟩ := id w1.a
    unfold Sn.kvs at hsq1
    o_args
    refine ⟨a, L, _, rfl, B1, by omega, by omega, fun d2 H2 d20 d21 B2 c2 => ?_⟩
    have w2 := w1.ch c2 an (fun b hb => by rw [List.mem_singleton.mp hb]; exact B1.nt)
    obtain ⟨hsq2, hsw2⟩ := id w2.a
    unfold Sn.kvs at hsq2
    obtain ⟨⟨dx, hp2⟩, _⟩ := id w2.o
    obtain ⟨m, em⟩ : ∃ m : Nat, (s1.B.base : Int) + d1 = m := ⟨(s1.B.base + d1.toNat), by omega⟩
    obtain ⟨n, en⟩ : ∃ n : Nat, (m : Int) + d2 = n := ⟨(m + d2.toNat), by omega⟩
    o_args
    rw [em, en]
    refine ⟨s1.p, dx, _, rfl, hp2, rfl, ?_⟩
    o_args
    refine ⟨s1.p, s1.l, s1.B, _, _, rfl, w2.o, .inl ⟨m, n, rfl, rfl, by omega, by omega, by omega, fun t H3 nt s3 h3 => ?_⟩⟩
    have w3 := w2.same s3
    obtain ⟨hsq3, hsw3⟩ := id w3.a
    unfold Sn.kvs at hsq3
    obtain ⟨ts, hz3, tl, tp⟩ := id w3.z
    o_args
    refine ⟨isList hz3, ?_⟩
    o_args
    refine newTup (by simp) fun u H4 nu s4 h4 => ?_
    o_args
    refine appList (s4 _ _ hz3) (by rw [List.length_map]; omega) fun H5 s5 h5 => ?_
    obtain ⟨ne1, ne2, ne3, ne4, ne5, ne6, ne7⟩ := w.ne
    obtain ⟨nn1, nn2, nn3⟩ := w.n
    have c5 : Ch [s1.z] H4 H5 := Ch.ofX (by simp) s5 h5
    have c25 : Ch [s1.z] H2 H5 := (Ch.of (s3.trans s4)).trans c5
    have zn : ∀ {b}, b ≠ s1.z → b ∉ [s1.z] := fun h z => h (List.mem_singleton.mp z)
    have hsq5 := c25.at (zn ne7) hsq2
    have hsw5 := c25.at (zn nn3) hsw2
    have tz : ∀ {b : Addr} {xs}, H4 b = some (.tup xs) → b ≠ s1.z := fun h z => by
      rw [z, s4 _ _ hz3] at h; cases h
    have ht5 := s5 _ _ (tz (s4 _ _ h3)) (s4 _ _ h3)
    have hu5 := s5 _ _ (tz h4) h4
    o_args
    refine sliceL (SqL.of hsw5) fun l6 H6 n6 s6 h6 => ?_
    generalize hns : (s1.B.con.take (n - 1)).drop (m - 1) = ns at *
    have h6 : H6 l6 = some (.lst (ns.map V.int)) := by
      rw [h6, show (m : Int) - 1 = ((m - 1 : Nat) : Int) by omega, show (n : Int) - 1 = ((n - 1 : Nat) : Int) by omega, cut_mid, ← List.map_take, ← List.map_drop, hns]
    have nl : ns.length = n - m := by
      rw [← hns, List.length_drop, List.length_take]
      omega
    have c26 : Ch [s1.z] H2 H6 := c25.trans (Ch.of s6)
    o_args
    refine ⟨t, l6, ns, rfl, s6 _ _ ht5, h6, by omega, ?_⟩
    o_args
    refine k (m, ns) H6 ⟨w2.o.ch c26 (zn ne4) (zn nn2), ⟨s6 _ _ hsq5, s6 _ _ hsw5⟩, ⟨ts ++ [u], ?_, ?_, fun i t' pc h1 h2 => ?_⟩, fun pc hpc => ?_, w.byt, w.sp, w.mc, w.n⟩ (B2.ch c26 (fun b hb => by rw [List.mem_singleton.mp hb]; exact fl _ (by simp [Sn.foot]))) (((c1.trans c2).more (by simp)).trans (c26.more (by simp)))
    · rw [s6 _ _ h5, List.map_append]; rfl
    · rw [List.length_append, List.length_append, tl]; rfl
    · by_cases c : i < ts.length
      · rw [List.getElem?_append_left c] at h1
        rw [List.getElem?_append_left (by omega)] at h2
        obtain ⟨v, a1, a2⟩ := tp i t' pc h1 h2
        exact ⟨v, s6 _ _ (s5 _ _ (tz (s4 _ _ a1)) (s4 _ _ a1)), s6 _ _ (s5 _ _ (tz (s4 _ _ a2)) (s4 _ _ a2))⟩
      · rw [List.getElem?_append_right (by omega)] at h1
        rw [List.getElem?_append_right (by omega), ← tl] at h2
        by_cases c0 : i - ts.length = 0
        · rw [c0] at h1 h2
          cases h1
          cases h2
          exact ⟨t, s6 _ _ hu5, s6 _ _ ht5⟩
        · rw [List.getElem?_eq_none (by simp; omega)] at h1
          cases h1
    · rcases List.mem_append.mp hpc with hpc | hpc
      · exact w.ok pc hpc
      · rw [List.mem_singleton.mp hpc]
        refine ⟨⟨by show (1 : Int) ≤ (m : Nat); omega, fun i hi => ?_⟩, fun x hx => ?_, by show ns.length ≤ 400; omega⟩
        · show s1.B.con[((m : Int) - 1).toNat + i]? = ns[i]?
          have hi : i < ns.length := hi
          rw [← hns, List.getElem?_drop, List.getElem?_take, if_pos (by omega), show ((m : Int) - 1).toNat + i = m - 1 + i by omega]
        · have hx : x ∈ ns := hx
          rw [← hns] at hx
          exact w.byt x (List.mem_of_mem_take (List.mem_of_mem_drop hx))
/-! ### the world: the box, the sender, the receivers -/
def rst (a : Addr) (L : List Addr) (e : Addr) : List Addr := (a :: L).filter fun b => decide (b ≠ e)
theorem mem_rst {a e x : Addr} {L : List Addr} : x ∈ rst a L e ↔ (x = a ∨ x ∈ L) ∧ x ≠ e := by
  unfold rst
  rw [List.mem_filter, List.mem_cons, decide_eq_true_iff]
theorem set_mapG {α β : Type} {f : α → β} {l : List α} {i : Nat} {o o' : α} (hi : l[i]? = some o) (e : f o' = f o) : (l.set i o').map f = l.map f := by
  apply List.ext_getElem?
  intro j
  rw [List.getElem?_map, List.getElem?_map, List.getElem?_set]
  by_cases q : i = j
  · subst q
    have il := getq_lt hi
    rw [if_pos rfl, if_pos il, hi]
    exact congrArg some e
  · rw [if_neg q]
section
variable {C Cs a : Addr} {n L G F : List Addr} {con : List Int} {o : Rv} {H H' : Hp}
theorem Rw.owns (w : Rw C Cs F con o H) : ∀ n : List Addr, (∀ z ∈ n, H z = none) → Rw C Cs (n ++ F) con o H
  | [], _ => w
  | z :: n, h => (w.owns n fun y hy => h y (List.mem_cons_of_mem _ hy)).own (h z List.mem_cons_self) (Same.refl _)
theorem Rw.rst (w : Rw C Cs (n ++ My.rst a L o.e) con o H) : Rw C Cs (My.rst a (n ++ L) o.e) con o H := by
  have out := w.i.ee.out
  have up : ∀ {b}, b ∈ n ++ My.rst a L o.e → b ∈ My.rst a (n ++ L) o.e := fun {b} hb => by
    refine mem_rst.mpr ⟨?_, fun z => out (z ▸ hb)⟩
    rcases List.mem_append.mp hb with h | h
    · exact .inr (List.mem_append_left _ h)
    · exact (mem_rst.mp h).1.imp id fun h => List.mem_append_right _ h
  refine w.less (fun b hb => ?_) fun b hb => ?_
  · obtain ⟨h1, h2⟩ := mem_rst.mp hb
    rcases h1 with h1 | h1
    · exact List.mem_append_right _ (mem_rst.mpr ⟨.inl h1, h2⟩)
    · rcases List.mem_append.mp h1 with h1 | h1
      · exact List.mem_append_left _ h1
      · exact List.mem_append_right _ (mem_rst.mpr ⟨.inr h1, h2⟩)
  · obtain ⟨f1, f2, f3⟩ := w.f
    simp only [List.mem_cons, List.not_mem_nil, or_false] at hb
    rcases hb with rfl | rfl | rfl | rfl | rfl
    · exact up w.i.ff.1
    · exact up w.i.ff.2
    · exact up f1
    · exact up f2
    · exact up f3
theorem Rw.nt (w : Rw C Cs F con o H) : NoTup o.foot H := fun b hb xs e => by
  obtain ⟨dx, hp⟩ := w.i.oo
  obtain ⟨kv, hd, _⟩ := id w.i.dd
  obtain ⟨dxe, l, ts, he, _⟩ := id w.i.ee
  obtain ⟨tk, hc, _⟩ := id w.c
  simp only [Rv.foot, List.mem_cons, List.not_mem_nil, or_false] at hb
  rcases hb with rfl | rfl | rfl | rfl | rfl | rfl
  · rw [hp] at e; cases e
  · rw [hd] at e; cases e
  · rw [he] at e; cases e
  · rw [w.q] at e; cases e
  · rw [hc] at e; cases e
  · rw [w.g] at e; cases e
theorem Box.owns (B : Box a F H) : ∀ n : List Addr, (∀ z ∈ n, H z = none) → Box a (n ++ F) H
  | [], _ => B
  | z :: n, h => (B.owns n fun y hy => h y (List.mem_cons_of_mem _ hy)).own (h z List.mem_cons_self) (Same.refl _)
end
structure Wo (C Cs Co a R N : Addr) (L : List Addr) (s : Sn) (rs : List Rv) (M : Nat) (H : Hp) : Prop where
  b : Box a L H
  al : Al (a :: L) H
  sd : Sw Co s H
  r : ∀ (i : Nat) (o : Rv), rs[i]? = some o → Rw C Cs (rst a L o.e) s.B.con o H ∧ (s.B.base : Int) ≤ o.B.nx ∧ (o.kn = true → s.B.closed = true)
  ap : ∀ (i j : Nat) (x y : Rv), i ≠ j → rs[i]? = some x → rs[j]? = some y → ∀ b ∈ x.foot, b ∉ y.foot
  as : ∀ (i : Nat) (x : Rv), rs[i]? = some x → ∀ b ∈ x.foot, b ∉ s.foot ∧ b ≠ R ∧ b ≠ N
  sl : ∀ b ∈ s.foot, b ∈ L ∧ b ≠ R ∧ b ≠ N
  rl : ∀ (i : Nat) (x : Rv), rs[i]? = some x → ∀ b ∈ x.foot, b ∈ L
  lr : H R = some (.lst (rs.map fun o => V.ref o.q))
  ln : H N = some (.lst (rs.map fun o => V.ref o.p))
  rn : R ∈ L ∧ N ∈ L
  pl : s.ps.length ≤ M
section
variable {C Cs Co a R N : Addr} {n L G : List Addr} {s s' : Sn} {rs : List Rv} {M M' i : Nat} {H H' : Hp} {o o' : Rv}
theorem Wo.na (W : Wo C Cs Co a R N L s rs M H) {b : Addr} (h : b ∈ L) : b ≠ a := fun e => W.b.nin (e ▸ h)
theorem Wo.same (W : Wo C Cs Co a R N L s rs M H) (x : Same H H') : Wo C Cs Co a R N L s rs M H' := ⟨W.b.same x, W.al.same x, W.sd.same x, fun i o h => ⟨(W.r i o h).1.same x, (W.r i o h).2⟩, W.ap, W.as, W.sl, W.rl, x _ _ W.lr, x _ _ W.ln, W.rn, W.pl⟩
theorem Wo.more (W : Wo C Cs Co a R N L s rs M H) (h : M ≤ M') : Wo C Cs Co a R N L s rs M' H := ⟨W.b, W.al, W.sd, W.r, W.ap, W.as, W.sl, W.rl, W.lr, W.ln, W.rn, Nat.le_trans W.pl h⟩
/-- the box drew -/
theorem Wo.box (W : Wo C Cs Co a R N L s rs M H) (b : Box a L H') (x : Ch [a] H H') : Wo C Cs Co a R N L s rs M H' := by
  have n : ∀ {b}, b ∈ L → b ∉ [a] := fun h z => W.na h (List.mem_singleton.mp z)
  refine ⟨b, W.al.ch x, W.sd.ch x (fun b hb => n (W.sl b hb).1) (fun b hb => by rw [List.mem_singleton.mp hb]; exact W.b.nt), fun i o h => ⟨(W.r i o h).1.ch x (fun b hb => ?_) (fun b hb => n (W.rl i o h b ?_)), (W.r i o h).2⟩, W.ap, W.as, W.sl, W.rl, x.at (n W.rn.1) W.lr, x.at (n W.rn.2) W.ln, W.rn, W.pl⟩
  · rw [List.mem_singleton.mp hb]
    exact mem_rst.mpr ⟨.inl rfl, fun z => W.na (W.rl i o h o.e (by simp [Rv.foot])) z.symm⟩
  · simp only [Rv.foot, List.mem_cons, List.not_mem_nil, or_false] at hb ⊢
    rcases hb with z | z | z | z | z <;> simp [z]
theorem Wo.boxn (W : Wo C Cs Co a R N L s rs M H) (hn : ∀ z ∈ n, H z = none) (x : Ch G H H') (h : ∀ b ∈ G, b ∈ L) : Box a (n ++ L) H' := (W.b.owns n hn).ch x fun b hb => List.mem_append_right _ (h b hb)
theorem Wo.old (W : Wo C Cs Co a R N L s rs M H) (hn : ∀ z ∈ n, H z = none) {b : Addr} (h : b ∈ L) : b ∉ n := fun z => W.al b (List.mem_cons_of_mem _ h) (hn b z)
/-- a receiver does something -/
theorem Wo.recv (W : Wo C Cs Co a R N L s rs M H) (hi : rs[i]? = some o) (hn : ∀ z ∈ n, H z = none) (an : Al n H') (b : Box a (n ++ L) H') (x : Ch [a, o.p, o.d, o.e, o.q, o.c] H H') (w : Rw C Cs (n ++ rst a L o.e) s.B.con o' H')
    (e : o'.p = o.p ∧ o'.d = o.d ∧ o'.e = o.e ∧ o'.q = o.q ∧ o'.c = o.c) (eg : o'.g = o.g ∨ o'.g ∈ n) (nx : (s.B.base : Int) ≤ o'.B.nx) (kn : o'.kn = true → s.B.closed = true) : Wo C Cs Co a R N (n ++ L) s (rs.set i o') M H' := by
  have il := getq_lt hi
  obtain ⟨e1, e2, e3, e4, e5⟩ := e
  have gf : ∀ b ∈ [a, o.p, o.d, o.e, o.q, o.c], b = a ∨ b ∈ o.foot := fun b hb => by
    simp only [Rv.foot, List.mem_cons, List.not_mem_nil, or_false] at hb ⊢
    rcases hb with z | z | z | z | z | z <;> simp [z]
  have nf : ∀ b ∈ o'.foot, b ∈ o.foot ∨ b ∈ n := fun b hb => by
    simp only [Rv.foot, List.mem_cons, List.not_mem_nil, or_false] at hb ⊢
    rw [e1, e2, e3, e4, e5] at hb
    rcases hb with z | z | z | z | z | z
    · simp [z]
    · simp [z]
    · simp [z]
    · simp [z]
    · simp [z]
    · rcases eg with g | g
      · rw [z, g]; simp
      · rw [z]; exact .inr g
  have off : ∀ {b}, b ∈ L → b ∉ o.foot → b ∉ [a, o.p, o.d, o.e, o.q, o.c] := fun h1 h2 z => (gf _ z).elim (W.na h1) h2
  have at_ : ∀ {j : Nat} {y : Rv}, (rs.set i o')[j]? = some y → (j = i ∧ y = o') ∨ (j ≠ i ∧ rs[j]? = some y) := fun {j y} h => by
    rw [List.getElem?_set] at h
    by_cases q : i = j
    · rw [if_pos q, if_pos il] at h
      exact .inl ⟨q.symm, (Option.some.inj h).symm⟩
    · rw [if_neg q] at h
      exact .inr ⟨fun z => q z.symm, h⟩
  have fo := W.as i o hi
  have Rl := W.rl i o hi
  refine ⟨b, fun z hz => ?_, W.sd.ch x (fun b hb => off (W.sl b hb).1 fun z => (fo b z).1 hb) (fun b hb => ?_), fun j y h => ?_, fun j k y z nn h g q hq => ?_, fun j y h q hq => ?_, fun q hq => ⟨List.mem_append_right _ (W.sl q hq).1, (W.sl q hq).2⟩, fun j y h q hq => ?_, ?_, ?_, ⟨List.mem_append_right _ W.rn.1, List.mem_append_right _ W.rn.2⟩, W.pl⟩
  · rcases List.mem_cons.mp hz with hz | hz
    · exact x.2 z (W.al z (by rw [hz]; exact List.mem_cons_self))
    · rcases List.mem_append.mp hz with hz | hz
      · exact an z hz
      · exact x.2 z (W.al z (List.mem_cons_of_mem _ hz))
  · rcases gf b hb with h | h
    · rw [h]; exact W.b.nt
    · exact (W.r i o hi).1.nt b h
  · rcases at_ h with ⟨_, rfl⟩ | ⟨nj, h⟩
    · rw [← e3] at w
      exact ⟨w.rst, nx, kn⟩
    · obtain ⟨v, v2⟩ := W.r j y h
      have apj := W.ap i j o y (fun z => nj z.symm) hi h
      refine ⟨((v.owns n hn).ch x (fun b hb => List.mem_append_right _ (mem_rst.mpr ?_)) (fun b hb => ?_)).rst, v2⟩
      · rcases gf b hb with q | q
        · exact ⟨.inl q, fun z => W.na (W.rl j y h y.e (by simp [Rv.foot])) (z.symm.trans q)⟩
        · exact ⟨.inr (Rl b q), fun z => apj b q (by rw [z]; simp [Rv.foot])⟩
      · have hb' : b ∈ y.foot := by
          simp only [Rv.foot, List.mem_cons, List.not_mem_nil, or_false] at hb ⊢
          rcases hb with z | z | z | z | z <;> simp [z]
        exact off (W.rl j y h b hb') fun z => apj b z hb'
  · rcases at_ h with ⟨ej, ey⟩ | ⟨n1, h1⟩ <;> rcases at_ g with ⟨ek, ez⟩ | ⟨n2, g1⟩
    · exact absurd (ej.trans ek.symm) nn
    · rw [ey] at hq
      rcases nf q hq with c | c
      · exact W.ap i k o z (Ne.symm n2) hi g1 q c
      · exact fun m => W.old hn (W.rl k z g1 q m) c
    · intro m
      rw [ez] at m
      rcases nf q m with c | c
      · exact W.ap j i y o n1 h1 hi q hq c
      · exact W.old hn (W.rl j y h1 q hq) c
    · exact W.ap j k y z nn h1 g1 q hq
  · rcases at_ h with ⟨_, rfl⟩ | ⟨_, h⟩
    · rcases nf q hq with c | c
      · exact fo q c
      · exact ⟨fun z => W.old hn (W.sl q z).1 c, fun z => W.old hn W.rn.1 (z ▸ c), fun z => W.old hn W.rn.2 (z ▸ c)⟩
    · exact W.as j y h q hq
  · rcases at_ h with ⟨_, rfl⟩ | ⟨_, h⟩
    · rcases nf q hq with c | c
      · exact List.mem_append_right _ (Rl q c)
      · exact List.mem_append_left _ c
    · exact List.mem_append_right _ (W.rl j y h q hq)
  · rw [set_mapG (f := fun o => V.ref o.q) (o' := o') hi (by rw [e4])]
    exact x.at (off W.rn.1 fun z => (fo R z).2.1 rfl) W.lr
  · rw [set_mapG (f := fun o => V.ref o.p) (o' := o') hi (by rw [e1])]
    exact x.at (off W.rn.2 fun z => (fo N z).2.2 rfl) W.ln
/-- the sender does something -/
theorem Wo.send (W : Wo C Cs Co a R N L s rs M H) (hn : ∀ z ∈ n, H z = none) (an : Al n H') (b : Box a (n ++ L) H') (x : Ch [a, s.p, s.l, s.q, s.z] H H') (w : Sw Co s' H') (e : s'.p = s.p ∧ s'.l = s.l ∧ s'.q = s.q ∧ s'.z = s.z) (ew : s'.w = s.w ∨ s'.w ∈ n)
    (con : ∃ ys, s'.B.con = s.B.con ++ ys ∧ (s.B.closed = true → ys = [])) (cl : s.B.closed = true → s'.B.closed = true) (nx : ∀ (i : Nat) (o : Rv), rs[i]? = some o → (s'.B.base : Int) ≤ o.B.nx) (pl : s'.ps.length ≤ M') : Wo C Cs Co a R N (n ++ L) s' rs M' H' := by
  obtain ⟨e1, e2, e3, e4⟩ := e
  obtain ⟨ys, ec, ey⟩ := con
  have gf : ∀ b ∈ [a, s.p, s.l, s.q, s.z], b = a ∨ b ∈ s.foot := fun b hb => by
    simp only [Sn.foot, List.mem_cons, List.not_mem_nil, or_false] at hb ⊢
    rcases hb with z | z | z | z | z <;> simp [z]
  have nf : ∀ b ∈ s'.foot, b ∈ s.foot ∨ b ∈ n := fun b hb => by
    simp only [Sn.foot, List.mem_cons, List.not_mem_nil, or_false] at hb ⊢
    rw [e1, e2, e3, e4] at hb
    rcases hb with z | z | z | z | z
    · simp [z]
    · simp [z]
    · simp [z]
    · rcases ew with g | g
      · rw [z, g]; simp
      · rw [z]; exact .inr g
    · simp [z]
  have off : ∀ {b}, b ∈ L → b ∉ s.foot → b ∉ [a, s.p, s.l, s.q, s.z] := fun h1 h2 z => (gf _ z).elim (W.na h1) h2
  refine ⟨b, fun z hz => ?_, w, fun j y h => ?_, W.ap, fun j y h q hq => ?_, fun q hq => ?_, fun j y h q hq => List.mem_append_right _ (W.rl j y h q hq), x.at (off W.rn.1 fun z => (W.sl R z).2.1 rfl) W.lr, x.at (off W.rn.2 fun z => (W.sl N z).2.2 rfl) W.ln, ⟨List.mem_append_right _ W.rn.1, List.mem_append_right _ W.rn.2⟩, pl⟩
  · rcases List.mem_cons.mp hz with hz | hz
    · exact x.2 z (W.al z (by rw [hz]; exact List.mem_cons_self))
    · rcases List.mem_append.mp hz with hz | hz
      · exact an z hz
      · exact x.2 z (W.al z (List.mem_cons_of_mem _ hz))
  · obtain ⟨v, v2, v3⟩ := W.r j y h
    have f := W.as j y h
    refine ⟨?_, nx j y h, fun z => cl (v3 z)⟩
    rw [ec]
    refine (((v.owns n hn).ch x (fun b hb => List.mem_append_right _ (mem_rst.mpr ?_)) (fun b hb => ?_)).ext fun z => ey (v3 z)).rst
    · rcases gf b hb with q | q
      · exact ⟨.inl q, fun z => W.na (W.rl j y h y.e (by simp [Rv.foot])) (z.symm.trans q)⟩
      · exact ⟨.inr (W.sl b q).1, fun z => (f y.e (by simp [Rv.foot])).1 (z ▸ q)⟩
    · have hb' : b ∈ y.foot := by
        simp only [Rv.foot, List.mem_cons, List.not_mem_nil, or_false] at hb ⊢
        rcases hb with z | z | z | z | z <;> simp [z]
      exact off (W.rl j y h b hb') (f b hb').1
  · refine ⟨fun z => ?_, (W.as j y h q hq).2⟩
    rcases nf q z with c | c
    · exact (W.as j y h q hq).1 c
    · exact W.old hn (W.rl j y h q hq) c
  · rcases nf q hq with c | c
    · exact ⟨List.mem_append_right _ (W.sl q c).1, (W.sl q c).2⟩
    · exact ⟨List.mem_append_left _ c, fun z => W.old hn W.rn.1 (z ▸ c), fun z => W.old hn W.rn.2 (z ▸ c)⟩
end
/-! ### a piece is delivered -/
section
variable {C Cs : Addr} {F : List Addr} {con : List Int} {o : Rv} {H H' H1 : Hp} {B B' : Ib} {ks : List Int} {kn kn' : Bool}
theorem RelR.setFin (R : RelR con B ks kn) : RelR con { B with fin := some (1 + (con.length : Int)) } ks true := ⟨⟨R.g.r1, R.g.rn, R.g.ha, R.g.nn, R.g.lo, R.g.fu⟩, R.seen, R.val, R.rdl, rfl⟩
theorem RelR.setUrg (R : RelR con B ks kn) (u : Int) : RelR con { B with urg := u } ks kn := ⟨⟨R.g.r1, R.g.rn, R.g.ha, R.g.nn, R.g.lo, R.g.fu⟩, R.seen, R.val, R.rdl, R.fin⟩
theorem RelR.least (R : RelR con B ks kn) (N : Nrm B.ah) : B.least ≤ 1 + (con.length : Int) := by
  have nl := R.nxl
  unfold Ib.least
  cases hl : B.ah.getLast? with
  | none => show B.nx ≤ _; omega
  | some r =>
    have rm : r ∈ B.ah := List.mem_of_getLast? hl
    have pos := N.1 r rm
    have := (R.g.ha (r.2 - 1)).mp ⟨r, rm, by omega, by omega⟩
    have := (R.st_le this.1).2
    show r.2 ≤ _
    omega
theorem Rw.st {x : HO} (w : Rw C Cs F con o H) (s : SameX o.q H H1) (h1 : H1 o.q = some x) : InAt C Cs o.p o.d o.e F o.ks.length o.B H1 ∧ Ch [o.q] H H1 := by
  obtain ⟨_, _, _, n4, n5, _⟩ := w.apart
  have c : Ch [o.q] H H1 := Ch.ofX (by simp) s h1
  exact ⟨w.i.ch c (fun b hb => by rw [List.mem_singleton.mp hb]; exact w.f.1) (fun z => n4 (by rw [List.mem_singleton.mp z]; simp)) (fun z => n5 (by rw [List.mem_singleton.mp z]; simp)), c⟩
theorem Rw.mk' (w : Rw C Cs F con o H) (x : Ch [o.p, o.q] H H') (i : InAt C Cs o.p o.d o.e F o.ks.length B' H') (q : H' o.q = some (.dK (Rv.kvs { o with B := B', kn := kn' }))) (r : RelR con B' o.ks kn') (rd : B'.rd = o.B.rd) : Rw C Cs F con { o with B := B', kn := kn' } H' := by
  obtain ⟨_, n2, n3, _, _, _⟩ := w.apart
  refine ⟨i, q, w.c.ch x (fun z => ?_), ?_, r, w.f, w.n⟩
  · simp only [List.mem_cons, List.not_mem_nil, or_false, not_or] at z n2
    exact z.elim n2.1 fun z => w.n.2.2 z.symm
  · show H' o.g = some (.lst ((con.take (B'.rd - 1).toNat).map V.int))
    rw [rd]
    refine x.at (fun z => n3 ?_) w.g
    simp only [List.mem_cons, List.not_mem_nil, or_false] at z ⊢
    rcases z with z | z <;> simp [z]
end
theorem Sub.drop {con ns : List Int} {off : Int} {k : Nat} (h : Sub con off ns) : Sub con (off + k) (ns.drop k) := ⟨by have := h.1; omega, fun i hi => by
  rw [List.length_drop] at hi
  have := h.2 (k + i) (by omega)
  have h1 := h.1
  rw [List.getElem?_drop, ← this, show (off + (k : Int) - 1).toNat + i = (off - 1).toNat + (k + i) by omega]⟩
def sp__law_delivers (K : PySem.W.Frag) (C Cs Co : Addr) : Sp := fun vs H Q _ => ∃ (a R N : Addr) (L : List Addr) (s : Sn) (rs : List Rv) (M i : Nat) (o : Rv), vs = [.ref a, .ref s.p, .ref o.p, .ref o.q, .ref s.q] ∧ Wo C Cs Co a R N L s rs M H ∧ rs[i]? = some o ∧ s.ps ≠ [] ∧ M ≤ 1000 ∧
  ∀ rs' H', Wo C Cs Co a R N L s rs' M H' → rs'.length = rs.length → rs'.map (fun o => V.ref o.p) = rs.map (fun o => V.ref o.p) → rs'.map (fun o => V.ref o.q) = rs.map (fun o => V.ref o.q) → Q (.bl true) H'
set_option maxHeartbeats 0 in
theorem ok__law_delivers (T : Txt K mg) : FnOk P w K mg base CX0 10 T.a__law_delivers T.fd__law_delivers ["box", "outbox", "inbox", "receiver", "sender"] (sp__law_delivers K T.c_Inbox T.c_Spans T.c_Outbox) := by
  have S := sc__law_delivers
  refine T.F__law_delivers.ok S (fun vs H Q E h => ?_) (fun cdv A outer s H vs Q E hr h => ?_)
  · obtain ⟨a, R, N, L, s, rs, M, i, o, rfl, _⟩ := h
    rfl
  · obtain ⟨a, R, N, L, s1, rs, M, i, o, rfl, W, hi, pn, hM, k⟩ := h
    have il := getq_lt hi
    obtain ⟨hsq, hsw⟩ := id W.sd.a
    unfold Sn.kvs at hsq
    obtain ⟨ts, hz, tl, tp⟩ := id W.sd.z
    have pl := W.pl
    have pp := List.length_pos_iff.mpr pn
    have cl : s1.B.con.length ≤ 400 := by have := W.sd.mc; omega
    refine ⟨_, (pss_cons (ps_set (i := 5) S.nd rfl (Or.inl rfl) (pe_ix ix_list (pe_dget (room_u1 hr) (pv 4) pe_str (fun _ _ => rfl)) (pe_call (ok__law_draw T) (hr.mono (by decide)) rfl T.g__law_draw T.F__law_draw.kp T.B__law_draw .nil pass0 (pa_cons (pv 0) (pa_cons (pe_callB (id := "len") (call_lenK (K := K) rfl) (by rfl) T.b_len (by decide +kernel) (pa_cons (pe_dget (room_u1 hr) (pv 4) pe_str (fun _ _ => rfl)) pa_nil)) pa_nil))) (fun _ _ => rfl)))
      (pss_cons (ps_set (i := 6) S.nd rfl (Or.inl rfl) pe_int)
      (C8.pss_cut (ps_if (pt_cmpR op_eq (pe_call (ok__law_draw T) (hr.mono (by decide)) rfl T.g__law_draw T.F__law_draw.kp T.B__law_draw .nil pass0 (pa_cons (pv 0) (pa_cons pe_int pa_nil))) pe_int (nomark _)) (pss_one (ps_set (i := 6) S.nd rfl (Or.inl rfl) (pe_call (ok__law_draw T) (hr.mono (by decide)) rfl T.g__law_draw T.F__law_draw.kp T.B__law_draw .nil pass0 (pa_cons (pv 0) (pa_cons (pe_op op_add (pe_callB (id := "len") (call_lenK (K := K) rfl) (by rfl) T.b_len (by decide +kernel) (pa_cons (pe_ix ix_tup (pv 5) pe_int (fun _ _ => rfl)) pa_nil)) pe_int) pa_nil))))) pss_nil)
      (C8.pss_cut (ps_if (PW.pt (pw_and (pt_cmpR op_eq (pe_call (ok__law_draw T) (hr.mono (by decide)) rfl T.g__law_draw T.F__law_draw.kp T.B__law_draw .nil pass0 (pa_cons (pv 0) (pa_cons pe_int pa_nil))) pe_int (nomark _)) (pw_and1 (pt_cmpR op_gt (pe_dget (room_u1 hr) (pv 4) pe_str (fun _ _ => rfl)) pe_int (nomark _))))) (pss_cons (ps_dput (room_u1 hr) (pv 3) pe_str (pe_callB (id := "max") (call_max2K rfl) (by rfl) T.b_max (by decide +kernel) (pa_cons (pe_dget (room_u1 hr) (pv 3) pe_str (fun _ _ => rfl)) (pa_cons (pe_dget (room_u1 hr) (pv 4) pe_str (fun _ _ => rfl)) pa_nil))) rfl)
      (pss_one (ps_expr (pe_meth (pv 2) T.cl_Inbox T.m_Inbox_mark_urgent (ok_Inbox_mark_urgent T) (hr.mono (by decide)) T.B_Inbox_mark_urgent .nil pass0 (pa_cons (pe_fld (pv 1) rfl) pa_nil))))) pss_nil)
      (pss_cons (ps_if (pt_not (pt_val (pe_call (ok__law_arrives T) (hr.mono (by decide)) rfl T.g__law_arrives T.F__law_arrives.kp T.B__law_arrives .nil pass0 (pa_cons (pv 2) (pa_cons (pv 3) (pa_cons (pe_op op_add (pe_ix ix_tup (pv 5) pe_int (fun _ _ => rfl)) (pv 6)) (pa_cons (pe_slice sl_list (pe_callTy (T := "list") (call_listK (K := K) rfl) (by rfl) T.b_list (by decide +kernel) (pa_cons (pe_ix ix_tup (pv 5) pe_int (fun _ _ => rfl)) pa_nil)) (po_some (pv 6)) po_none) pa_nil))))))) (pss_one (ps_ret pe_bl)) pss_nil)
      (pss_cons (ps_if (PW.pt (pw_and (pt_val (pe_dget (room_u1 hr) (pv 4) pe_str (fun _ _ => rfl))) (pw_and1 (pt_cmpR op_eq (pe_call (ok__law_draw T) (hr.mono (by decide)) rfl T.g__law_draw T.F__law_draw.kp T.B__law_draw .nil pass0 (pa_cons (pv 0) (pa_cons pe_int pa_nil))) pe_int (nomark _))))) (pss_cons (ps_dput (room_u1 hr) (pv 3) pe_str pe_bl rfl)
      (pss_one (ps_ret (pe_cmpR op_isN (pe_meth (pv 2) T.cl_Inbox T.m_Inbox_finish (ok_Inbox_finish T) (hr.mono (by decide)) T.B_Inbox_finish .nil passL (pa_cons (pe_fld (pv 1) rfl) pa_nil)) pe_non (nomark _))))) pss_nil)
      (pss_one (ps_ret pe_bl)))))))), ?_⟩
    refine st__law_delivers ?_
    o_args
    refine lenA (SeqA.lst hz) ?_
    rw [List.length_map]
    o_args
    refine ⟨a, L, _, rfl, W.b, by omega, by omega, fun j H1 j0 j1 B1 c1 => ?_⟩
    have W1 := W.box B1 c1
    obtain ⟨jn, rfl⟩ : ∃ x : Nat, j = x := ⟨j.toNat, by omega⟩
    have jl : jn < ts.length := by omega
    have hz1 : H1 s1.z = some (.lst (ts.map V.ref)) := c1.at (fun z => W.na (W.sl s1.z (by simp [Sn.foot])).1 (List.mem_singleton.mp z)) hz
    obtain ⟨u, ht, hu⟩ := tp jn ts[jn] s1.ps[jn] (List.getElem?_eq_getElem jl) (List.getElem?_eq_getElem (by omega))
    obtain ⟨ok1, ok2, ok3⟩ := W.sd.ok s1.ps[jn] (List.getElem_mem _)
    refine ixL (i := jn) (v := .ref ts[jn]) hz1 (by rw [List.getElem?_map, List.getElem?_eq_getElem jl]; rfl) ?_
    generalize ts[jn] = t at ht
    generalize s1.ps[jn] = pc at ht hu ok1 ok2 ok3
    obtain ⟨low, ns⟩ := pc
    have ok1 : Sub s1.B.con low ns := ok1
    have ok2 : Bytes ns := ok2
    have ok3 : ns.length ≤ 400 := ok3
    have ht : H t = some (.tup [.int low, .ref u]) := ht
    have hu : H u = some (.tup (ns.map V.int)) := hu
    have tn : ∀ {b : Addr} {xs G H'}, NoTup G H → Ch G H H' → H b = some (.tup xs) → H' b = some (.tup xs) := fun nt c h => c.at (fun m => nt _ m _ h) h
    have na : NoTup [a] H := fun b hb => by rw [List.mem_singleton.mp hb]; exact W.b.nt
    have ht1 := tn na c1 ht
    have hu1 := tn na c1 hu
    o_args
    refine ⟨fun σ H' => ∃ lo : Nat, σ = [some (.ref a), some (.ref s1.p), some (.ref o.p), some (.ref o.q), some (.ref s1.q), some (.ref t), some (.int lo)] ∧ lo ≤ ns.length ∧ Wo T.c_Inbox T.c_Spans T.c_Outbox a R N L s1 rs M H' ∧ Ch [a] H H', ?_, ?_⟩
    · o_args
      refine ⟨a, L, _, rfl, W1.b, by decide, by decide, fun x H2 x0 x1 B2 c2 => ?_⟩
      have W2 := W1.box B2 c2
      have ht2 := tn na (c1.trans c2) ht
      have hu2 := tn na (c1.trans c2) hu
      o_args
      refine brD (fun cc => ?_) (fun cc => ?_)
      · o_args
        refine lenA (SeqA.tup hu2) ?_
        rw [List.length_map]
        o_args
        refine ⟨a, L, _, rfl, W2.b, by omega, by omega, fun lo H3 lo0 lo1 B3 c3 => ?_⟩
        obtain ⟨ln, rfl⟩ : ∃ x : Nat, lo = x := ⟨lo.toNat, by omega⟩
        o_args
        exact ⟨ln, rfl, by omega, W2.box B3 c3, (c1.trans c2).trans c3⟩
      · o_args
        exact ⟨0, rfl, Nat.zero_le _, W2, c1.trans c2⟩
    rintro σ H2 ⟨lo, rfl, lol, W2, c2⟩
    have ht2 := tn na c2 ht
    have hu2 := tn na c2 hu
    have W2s := W2.sd
    obtain ⟨w2, bx2, kx2⟩ := W2.r i o hi
    o_args
    refine ⟨fun σ H' => ∃ B', σ = [some (.ref a), some (.ref s1.p), some (.ref o.p), some (.ref o.q), some (.ref s1.q), some (.ref t), some (.int lo)] ∧ Wo T.c_Inbox T.c_Spans T.c_Outbox a R N L s1 (rs.set i { o with B := B' }) M H' ∧ Ch [a, o.p, o.q] H2 H', ?_, ?_⟩
    · o_args
      refine ⟨a, L, _, rfl, W2.b, by decide, by decide, fun x H3 x0 x1 B3 c3 => ?_⟩
      have W3 := W2.box B3 c3
      obtain ⟨w3, bx3, kx3⟩ := W3.r i o hi
      obtain ⟨hsq3, hsw3⟩ := id W3.sd.a
      unfold Sn.kvs at hsq3
      have none_ : ∃ B', ([some (.ref a), some (.ref s1.p), some (.ref o.p), some (.ref o.q), some (.ref s1.q), some (.ref t), some (.int lo)] : L2.St) = [some (.ref a), some (.ref s1.p), some (.ref o.p), some (.ref o.q), some (.ref s1.q), some (.ref t), some (.int lo)] ∧ Wo T.c_Inbox T.c_Spans T.c_Outbox a R N L s1 (rs.set i { o with B := B' }) M H3 ∧ Ch [a, o.p, o.q] H2 H3 := ⟨o.B, rfl, by
        rw [show rs.set i { o with B := o.B } = rs from by
          rw [List.getElem?_eq_getElem il] at hi
          rw [← Option.some.inj hi]
          exact List.set_getElem_self il]
        exact W3, c3.more (by simp)⟩
      o_args
      refine brD (fun cc => ?_) (fun cc => ?_)
      · o_args
        refine brD (fun c4 => ?_) (fun c4 => ?_)
        · have hq3 := w3.q
          unfold Rv.kvs at hq3
          o_args
          refine dput (k := "marked") (v := .int (max o.B.urg s1.B.urg)) (kvs' := Rv.kvs { o with B := { o.B with urg := max o.B.urg s1.B.urg } }) hq3 (Nat.le_of_ble_eq_true rfl) (by with_unfolding_all rfl) fun H4 s4 h4 => ?_
          obtain ⟨i4, x4⟩ := w3.st s4 h4
          obtain ⟨dx4, hp4⟩ := i4.oo
          obtain ⟨⟨dxo, hpo⟩, _⟩ := W3.sd.o
          have pq : s1.p ∉ [o.q] := fun z => (W.as i o hi o.q (by simp [Rv.foot])).1 (by rw [← List.mem_singleton.mp z]; simp [Sn.foot])
          have hpo4 := x4.at pq hpo
          o_args
          refine ⟨o.p, dx4, _, rfl, hp4, rfl, ?_⟩
          o_args
          refine fget hpo4 T.cl_Outbox T.n_Outbox_urgent_end rfl ?_
          o_args
          refine ⟨o.p, o.d, o.e, _, _, o.B, s1.B.urg, rfl, i4, fun H5 x5 i5 => ?_⟩
          o_args
          have x35 : Ch [o.p, o.q] H3 H5 := (x4.more (by simp)).trans (x5.more (by simp))
          obtain ⟨ap1, _⟩ := w3.apart
          have hq5 := x5.at (show o.q ∉ [o.p] from fun z => ap1 (by rw [List.mem_singleton.mp z]; simp)) h4
          have w5 := w3.mk' (kn' := o.kn) x35 i5 hq5 (w3.r.setUrg _) rfl
          refine ⟨_, rfl, W3.recv (n := []) hi (fun _ z => nomatch z) (fun _ z => nomatch z) (W3.boxn (n := []) (fun _ z => nomatch z) x35 (fun b hb => ?_)) (x35.more (by simp)) w5 ⟨rfl, rfl, rfl, rfl, rfl⟩ (.inl rfl) bx3 kx3, (c3.more (by simp)).trans (x35.more (by simp))⟩
          simp only [List.mem_cons, List.not_mem_nil, or_false] at hb
          rcases hb with rfl | rfl
          · exact W3.rl i o hi _ (by simp [Rv.foot])
          · exact W3.rl i o hi _ (by simp [Rv.foot])
        · o_args
          exact none_
      · o_args
        exact none_
    rintro σ H3 ⟨B', rfl, W3, x3⟩
    have nt2 : NoTup [a, o.p, o.q] H2 := fun b hb => by
      simp only [List.mem_cons, List.not_mem_nil, or_false] at hb
      rcases hb with rfl | rfl | rfl
      · exact W2.b.nt
      · exact w2.nt _ (by simp [Rv.foot])
      · exact w2.nt _ (by simp [Rv.foot])
    have ht3 := x3.at (fun m => nt2 _ m _ ht2) ht2
    have hu3 := x3.at (fun m => nt2 _ m _ hu2) hu2
    have hi3 : (rs.set i { o with B := B' })[i]? = some { o with B := B' } := by rw [List.getElem?_set, if_pos rfl, if_pos il]
    generalize ers : rs.set i { o with B := B' } = rs3 at W3 hi3
    have rl3 : rs3.length = rs.length := by rw [← ers, List.length_set]
    have rp3 : rs3.map (fun o => V.ref o.p) = rs.map fun o => V.ref o.p := by rw [← ers]; exact set_mapG hi rfl
    have rq3 : rs3.map (fun o => V.ref o.q) = rs.map fun o => V.ref o.q := by rw [← ers]; exact set_mapG hi rfl
    clear ers
    o_args
    refine listOf (SeqA.tup hu3) fun Ml H4 n4 s4 h4 => ?_
    o_args
    refine sliceL (SqL.of h4) fun l5 H5 n5 s5 h5 => ?_
    have h5 : H5 l5 = some (.lst ((ns.drop lo).map V.int)) := by rw [h5, cut_from, List.map_drop]
    have W5 := W3.same (s4.trans s5)
    obtain ⟨w5, bx5, kx5⟩ := W5.r i _ hi3
    o_args
    refine ⟨_, s1.B.con, { o with B := B' }, _, l5, ns.drop lo, rfl, w5, (fun b hb => W5.al b (List.mem_cons.mpr (mem_rst.mp hb).1)), cl, .inl h5, (fun x hx => ok2 x (List.mem_of_mem_drop hx)), by rw [List.length_drop]; have : ns.length ≤ 400 := ok3; omega, ok1.drop, fun B6 ks6 H6 w6 erd n06 _ x6 => ?_⟩
    have nn : ∀ z ∈ ([] : List Addr), H5 z = none := fun _ z => nomatch z
    have W6 : Wo T.c_Inbox T.c_Spans T.c_Outbox a R N L s1 (rs3.set i { o with B := B6, ks := ks6 }) M H6 := W5.recv (n := []) hi3 nn (fun _ z => nomatch z) (W5.boxn nn x6 (fun b hb => by
      have := W5.rl i _ hi3
      simp only [List.mem_cons, List.not_mem_nil, or_false] at hb
      rcases hb with rfl | rfl | rfl | rfl
      · exact this _ (by simp [Rv.foot])
      · exact this _ (by simp [Rv.foot])
      · exact this _ (by simp [Rv.foot])
      · exact this _ (by simp [Rv.foot]))) (x6.more (by simp)) w6 ⟨rfl, rfl, rfl, rfl, rfl⟩ (.inl rfl) (Int.le_trans bx5 n06) kx5
    have hi6 : (rs3.set i { o with B := B6, ks := ks6 })[i]? = some { o with B := B6, ks := ks6 } := by rw [List.getElem?_set, if_pos rfl, if_pos (by omega)]
    generalize ers : rs3.set i { o with B := B6, ks := ks6 } = rs6 at W6 hi6
    have rl6 : rs6.length = rs.length := by rw [← ers, List.length_set, rl3]
    have rp6 : rs6.map (fun o => V.ref o.p) = rs.map fun o => V.ref o.p := by rw [← ers, ← rp3]; exact set_mapG hi3 rfl
    have rq6 : rs6.map (fun o => V.ref o.q) = rs.map fun o => V.ref o.q := by rw [← ers, ← rq3]; exact set_mapG hi3 rfl
    clear ers
    obtain ⟨w6, bx6, kx6⟩ := W6.r i _ hi6
    obtain ⟨hsq6, hsw6⟩ := id W6.sd.a
    unfold Sn.kvs at hsq6
    o_args
    cases hc : s1.B.closed with
    | false =>
      refine brF (by rfl) ?_
      rw [if_neg (by simp)]
      o_args
      exact k rs6 H6 W6 rl6 rp6 rq6
    | true =>
      refine brT (by rfl) ?_
      o_args
      refine ⟨a, L, _, rfl, W6.b, by decide, by decide, fun x H7 x0 x1 B7 c7 => ?_⟩
      have W7 := W6.box B7 c7
      obtain ⟨w7, bx7, kx7⟩ := W7.r i _ hi6
      o_args
      refine brD (fun cc => ?_) (fun cc => ?_)
      · have hq7 := w7.q
        unfold Rv.kvs at hq7
        o_args
        refine dput (k := "known") (v := .bl true) (kvs' := Rv.kvs { o with B := { B6 with fin := some (1 + (s1.B.con.length : Int)) }, ks := ks6, kn := true }) hq7 (Nat.le_of_ble_eq_true rfl) (by with_unfolding_all rfl) fun H8 s8 h8 => ?_
        obtain ⟨i8, x8⟩ := w7.st s8 h8
        obtain ⟨dx8, hp8⟩ := i8.oo
        obtain ⟨⟨dxo, hpo⟩, _⟩ := W7.sd.o
        have pq : s1.p ∉ [o.q] := fun z => (W.as i o hi o.q (by simp [Rv.foot])).1 (by rw [← List.mem_singleton.mp z]; simp [Sn.foot])
        have hpo8 := x8.at pq hpo
        have hfin := w7.r.fin
        o_args
        refine ⟨o.p, dx8, _, rfl, hp8, rfl, ?_⟩
        o_args
        refine fget hpo8 T.cl_Outbox T.n_Outbox_end rfl ?_
        o_args
        have go : ∀ H9, Ch [o.p] H8 H9 → InAt T.c_Inbox T.c_Spans o.p o.d o.e (rst a L o.e) ks6.length { B6 with fin := some (1 + (s1.B.con.length : Int)) } H9 → Q (.bl true) H9 := fun H9 x9 i9 => by
          have x79 : Ch [o.p, o.q] H7 H9 := (x8.more (by simp)).trans (x9.more (by simp))
          obtain ⟨ap1, _⟩ := w7.apart
          have hq9 := x9.at (show o.q ∉ [o.p] from fun z => ap1 (by rw [List.mem_singleton.mp z]; simp)) h8
          have w9 := w7.mk' (kn' := true) x79 i9 hq9 w7.r.setFin rfl
          refine k _ H9 (W7.recv (n := []) hi6 (fun _ z => nomatch z) (fun _ z => nomatch z) (W7.boxn (n := []) (fun _ z => nomatch z) x79 (fun b hb => ?_)) (x79.more (by simp)) w9 ⟨rfl, rfl, rfl, rfl, rfl⟩ (.inl rfl) bx7 (fun _ => hc)) (by rw [List.length_set, rl6]) (by rw [← rp6]; exact set_mapG hi6 rfl) (by rw [← rq6]; exact set_mapG hi6 rfl)
          have := W7.rl i _ hi6
          simp only [List.mem_cons, List.not_mem_nil, or_false] at hb
          rcases hb with rfl | rfl
          · exact this _ (by simp [Rv.foot])
          · exact this _ (by simp [Rv.foot])
        refine ⟨o.p, o.d, o.e, _, _, B6, _, rfl, i8, ?_⟩
        cases hk : o.kn with
        | false =>
          have hf : B6.fin = none := by rw [hfin]; show (if o.kn = true then _ else _) = _; rw [hk]; rfl
          refine .inr ⟨hf, .inl ⟨_, rfl, w7.r.least w7.i.ee.offs.nrm, fun H9 x9 i9 => ?_⟩⟩
          o_args
          exact go H9 x9 i9
        | true =>
          have hf : B6.fin = some (1 + (s1.B.con.length : Int)) := by rw [hfin]; show (if o.kn = true then _ else _) = _; rw [hk]; rfl
          refine .inl ⟨by rw [hf]; exact nofun, ?_⟩
          o_args
          refine go H8 Ch.refl ?_
          rw [← hf]
          exact i8
      · o_args
        exact k rs6 H7 W7 rl6 rp6 rq6
/-! ### pieces compared with none -/
def pcD (pc : Int × List Int) : PyData := .tuple [.int pc.1, .tuple (pc.2.map PyData.int)]
theorem lay_pcs : ∀ ps : List (Int × List Int), PyData.canLayAll0 (ps.map pcD) = true ∧ PyData.depthAll (ps.map pcD) ≤ 2
  | [] => ⟨by simp only [List.map_nil, PyData.canLayAll0], by simp only [List.map_nil, PyData.depthAll]; decide⟩
  | r :: rs => by
    obtain ⟨h1, h2⟩ := lay_pcs rs
    obtain ⟨l1, l2⟩ := lay_all r.2
    refine ⟨by simp only [List.map_cons, pcD, PyData.canLayAll0, PyData.canLay0, h1, l1, Bool.and_self], ?_⟩
    rw [List.map_cons]
    unfold PyData.depthAll
    refine Nat.max_le.mpr ⟨?_, h2⟩
    unfold pcD
    simp [PyData.depth, PyData.depthAll, l2]
theorem lay_pcl (ps : List (Int × List Int)) : PySem.SeqAt.shaped (.list (ps.map pcD)) = true := by
  obtain ⟨h1, h2⟩ := lay_pcs ps
  have e : PyData.depthAll (ps.map pcD) = 0 ∨ PyData.depthAll (ps.map pcD) = 1 ∨ PyData.depthAll (ps.map pcD) = 2 := by
    generalize PyData.depthAll _ = n at h2
    omega
  unfold PySem.SeqAt.shaped
  rcases e with e | e | e
  · simp only [PyData.canLay0, PyData.depth, h1, e]
    decide
  · simp only [PyData.canLay0, PyData.depth, h1, e]
    decide
  · simp only [PyData.canLay0, PyData.depth, h1, e]
    decide
theorem dp_pcs {K : PySem.W.Frag} {H : Hp} : ∀ {ts : List Addr} {ps : List (Int × List Int)}, ts.length = ps.length → (∀ (i : Nat) (t : Addr) (pc : Int × List Int), ts[i]? = some t → ps[i]? = some pc → ∃ u, H t = some (.tup [.int pc.1, .ref u]) ∧ H u = some (.tup (pc.2.map V.int))) → DpAll K H (ts.map V.ref) (ps.map pcD)
  | [], [], _, _ => .nil
  | [], _ :: _, h, _ => nomatch h
  | _ :: _, [], h, _ => nomatch h
  | t :: ts, p :: ps, h, f => by
    obtain ⟨u, h1, h2⟩ := f 0 t p rfl rfl
    exact .cons (.tup (SqT.of h1) (.cons (.int _) (.cons (.tup (SqT.of h2) (dp_ints _)) .nil))) (dp_pcs (Nat.succ.inj h) fun i a b h1 h2 => f (i + 1) a b h1 h2)
theorem eqPieces {K : PySem.W.Frag} {H : Hp} {Q : VK} {z m : Addr} {ps : List (Int × List Int)} (h : PcAt H z ps) (g : H m = some (.lst [])) (q : Q (.bl (decide (ps = []))) H) : rEqD K (.ref z) (.ref m) H Q := by
  obtain ⟨ts, h1, h2, h3⟩ := h
  refine ⟨_, .list [], .lst (SqL.of h1) (dp_pcs h2 h3), .lst (SqL.of g) .nil, lay_pcl ps, by decide +kernel, ?_⟩
  rw [show PyData.eqv (.list (ps.map pcD)) (.list []) = decide (ps = []) by
    simp only [PyData.eqv]
    cases ps with
    | nil => simp [PyData.eqvAll]
    | cons r rs => simp [PyData.eqvAll]]
  exact q
/-! ### what both received is released -/
def sp__law_releases (K : PySem.W.Frag) (C Cs Co : Addr) : Sp := fun vs H Q _ => ∃ (a R N : Addr) (L : List Addr) (s : Sn) (rs : List Rv) (M : Nat) (x y : Rv), vs = [.ref s.p, .ref s.q, .ref R] ∧ Wo C Cs Co a R N L s rs M H ∧ rs = [x, y] ∧
  ∀ (m : Nat) H', (m : Int) = min x.B.nx y.B.nx → Wo C Cs Co a R N L { s with B := { s.B with base := m } } rs M H' → Q (.bl true) H'
set_option maxHeartbeats 0 in
theorem ok__law_releases (T : Txt K mg) : FnOk P w K mg base CX0 4 T.a__law_releases T.fd__law_releases ["outbox", "sender", "receivers"] (sp__law_releases K T.c_Inbox T.c_Spans T.c_Outbox) := by
  have S := sc__law_releases
  refine T.F__law_releases.ok S (fun vs H Q E h => ?_) (fun cdv A outer s H vs Q E hr h => ?_)
  · obtain ⟨a, R, N, L, s, rs, M, x, y, rfl, _⟩ := h
    rfl
  · obtain ⟨a, R, N, L, s1, rs, M, x, y, rfl, W, rfl, k⟩ := h
    have cl : s1.B.con.length ≤ 400 := by have := W.sd.mc; omega
    obtain ⟨wx, bx, _⟩ := W.r 0 x rfl
    obtain ⟨wy, by_, _⟩ := W.r 1 y rfl
    have nx := wx.r.nxl
    have ny := wy.r.nxl
    have lr := W.lr
    obtain ⟨hsq, hsw⟩ := id W.sd.a
    unfold Sn.kvs at hsq
    obtain ⟨⟨dx, hp⟩, hl, ok⟩ := id W.sd.o
    refine ⟨_, (pss_cons (ps_set (i := 3) S.nd rfl (Or.inl rfl) (pe_callB (id := "min") (call_min2K rfl) (by rfl) T.b_min (by decide +kernel) (pa_cons (pe_call (ok__law_next T) (hr.mono (by decide)) rfl T.g__law_next T.F__law_next.kp T.B__law_next .nil pass0 (pa_cons (pe_ix ix_list (pv 2) pe_int (fun _ _ => rfl)) pa_nil)) (pa_cons (pe_call (ok__law_next T) (hr.mono (by decide)) rfl T.g__law_next T.F__law_next.kp T.B__law_next .nil pass0 (pa_cons (pe_ix ix_list (pv 2) pe_int (fun _ _ => rfl)) pa_nil)) pa_nil))))
      (pss_cons (ps_set (i := 4) S.nd rfl (Or.inl rfl) (pe_meth (pv 0) T.cl_Outbox T.m_Outbox_release (ok_Outbox_release T) (hr.mono (by decide)) T.B_Outbox_release .nil passL (pa_cons (pv 3) pa_nil)))
      (pss_cons (ps_set (i := 5) S.nd rfl (Or.inl rfl) (pe_op op_sub (pv 3) (pe_dget (room_u1 hr) (pv 1) pe_str (fun _ _ => rfl))))
      (pss_cons (ps_dput (room_u1 hr) (pv 1) pe_str (pv 3) rfl)
      (pss_one (ps_ret (pe_and (pe_call (ok__law_is_whole T) (hr.mono (by decide)) rfl T.g__law_is_whole T.F__law_is_whole.kp T.B__law_is_whole .nil pass0 (pa_cons (pv 4) pa_nil)) (pe_one (pe_cmpR op_eq (pv 4) (pv 5) (nomark _)))))))))), ?_⟩
    refine st__law_releases ?_
    o_args
    refine ⟨_, s1.B.con, x, rfl, wx, cl, ?_⟩
    o_args
    refine ⟨_, s1.B.con, y, rfl, wy, cl, ?_⟩
    o_args
    refine ⟨s1.p, dx, _, rfl, hp, rfl, ?_⟩
    obtain ⟨m, em⟩ : ∃ m : Nat, min x.B.nx y.B.nx = m := ⟨(min x.B.nx y.B.nx).toNat, by omega⟩
    o_args
    rw [em]
    have b1 := ok.b1
    refine ⟨s1.p, s1.l, s1.B, _, rfl, W.sd.o, .inl ⟨m, rfl, by omega, by omega, fun H1 c1 O1 => ?_⟩⟩
    obtain ⟨ne1, ne2, ne3, ne4, ne5, ne6, ne7⟩ := W.sd.ne
    obtain ⟨nn1, nn2, nn3⟩ := W.sd.n
    have hq1 := c1.at (show s1.q ∉ [s1.p, s1.l] by simp [ne1.symm, ne5]) hsq
    have hw1 := c1.at (show s1.w ∉ [s1.p, s1.l] by simp [ne3.symm, nn1.symm]) hsw
    o_args
    refine dput (k := "base") (v := .int (m : Int)) (kvs' := Sn.kvs { s1 with B := { s1.B with base := m } }) hq1 (Nat.le_of_ble_eq_true rfl) (by with_unfolding_all rfl) fun H2 s2 h2 => ?_
    have c2 : Ch [s1.q] H1 H2 := Ch.ofX (by simp) s2 h2
    have qn : ∀ {b}, b ≠ s1.q → b ∉ [s1.q] := fun h z => h (List.mem_singleton.mp z)
    have c12 : Ch [s1.p, s1.l, s1.q] H H2 := (c1.more (by simp)).trans (c2.more (by simp))
    o_args
    refine ⟨_, true, rfl, intK_int _, ?_⟩
    o_args
    rw [decide_eq_true rfl]
    have sub4 : ∀ b ∈ [s1.p, s1.l, s1.q], b ∈ s1.foot := fun b hb => by
      simp only [Sn.foot, List.mem_cons, List.not_mem_nil, or_false] at hb ⊢
      rcases hb with z | z | z <;> simp [z]
    refine k m H2 em.symm (W.send (n := []) (fun _ z => nomatch z) (fun _ z => nomatch z) (W.boxn (n := []) (fun _ z => nomatch z) c12 (fun b hb => (W.sl b (sub4 b hb)).1)) (c12.more (by simp)) ⟨O1.ch c2 (qn ne1) (qn ne5.symm), ⟨h2, c2.at (qn ne6.symm) hw1⟩, W.sd.z.ch c12 (by simp [ne4.symm, nn2.symm, ne7.symm]) (fun b hb => W.sd.nt b (sub4 b hb)), W.sd.ok, W.sd.byt, ?_, W.sd.mc, W.sd.n⟩ ⟨rfl, rfl, rfl, rfl⟩ (.inl rfl) ⟨[], by simp, fun _ => rfl⟩ (fun z => z) (fun i o h => ?_) W.pl)
    · have := W.sd.sp
      show 1 + (s1.B.con.length : Int) - (m : Nat) ≤ s1.B.lim
      omega
    · show (m : Int) ≤ o.B.nx
      match i, h with
      | 0, h => cases h; omega
      | 1, h => cases h; omega
      | _ + 2, h => cases h
def sp__law_deed (K : PySem.W.Frag) (C Cs Co : Addr) : Sp := fun vs H Q _ => ∃ (a R N : Addr) (L : List Addr) (s : Sn) (rs : List Rv) (M : Nat), vs = [.ref a, .ref s.p, .ref s.q, .ref N, .ref R] ∧ Wo C Cs Co a R N L s rs M H ∧ rs.length = 2 ∧ M ≤ 900 ∧
  ∀ L' s' rs' H', Wo C Cs Co a R N L' s' rs' (M + 1) H' → s'.p = s.p → s'.q = s.q → rs'.length = 2 → Q (.bl true) H'
set_option maxHeartbeats 0 in
theorem ok__law_deed (T : Txt K mg) : FnOk P w K mg base CX0 11 T.a__law_deed T.fd__law_deed ["box", "outbox", "sender", "inboxes", "receivers"] (sp__law_deed K T.c_Inbox T.c_Spans T.c_Outbox) := by
  have S := sc__law_deed
  refine T.F__law_deed.ok S (fun vs H Q E h => ?_) (fun cdv A outer s H vs Q E hr h => ?_)
  · obtain ⟨a, R, N, L, s, rs, M, rfl, _⟩ := h
    rfl
  · obtain ⟨a, R, N, L, s1, rs, M, rfl, W, rl, hM, k⟩ := h
    refine ⟨_, (pss_cons (ps_set (i := 5) S.nd rfl (Or.inl rfl) (pe_call (ok__law_draw T) (hr.mono (by decide)) rfl T.g__law_draw T.F__law_draw.kp T.B__law_draw .nil pass0 (pa_cons (pv 0) (pa_cons pe_int pa_nil))))
      (pss_cons (ps_set (i := 6) S.nd rfl (Or.inl rfl) (pe_call (ok__law_draw T) (hr.mono (by decide)) rfl T.g__law_draw T.F__law_draw.kp T.B__law_draw .nil pass0 (pa_cons (pv 0) (pa_cons pe_int pa_nil))))
      (pss_cons (ps_if (pt_cmpR op_lt (pv 5) pe_int (nomark _)) (pss_one (ps_ret (pe_call (ok__law_writes T) (hr.mono (by decide)) rfl T.g__law_writes T.F__law_writes.kp T.B__law_writes .nil pass0 (pa_cons (pv 0) (pa_cons (pv 1) (pa_cons (pv 2) pa_nil)))))) pss_nil)
      (pss_cons (ps_if (pt_cmpR op_lt (pv 5) pe_int (nomark _)) (pss_one (ps_ret (pe_call (ok__law_cuts T) (hr.mono (by decide)) rfl T.g__law_cuts T.F__law_cuts.kp T.B__law_cuts .nil pass0 (pa_cons (pv 0) (pa_cons (pv 1) (pa_cons (pv 2) pa_nil)))))) pss_nil)
      (pss_cons (ps_if (pt_cmpR op_lt (pv 5) pe_int (nomark _)) (pss_cons (ps_if (PW.pt (pw_and (pt_cmpR (op_eqD hr.units) (pe_dget (room_u1 hr) (pv 2) pe_str (fun _ _ => rfl)) (pe_lst pa_nil) (nomark _)) (pw_and1 (pt_not (pt_val (pe_call (ok__law_cuts T) (hr.mono (by decide)) rfl T.g__law_cuts T.F__law_cuts.kp T.B__law_cuts .nil pass0 (pa_cons (pv 0) (pa_cons (pv 1) (pa_cons (pv 2) pa_nil))))))))) (pss_one (ps_ret pe_bl)) pss_nil)
      (pss_one (ps_ret (pe_call (ok__law_delivers T) (hr.mono (by decide)) rfl T.g__law_delivers T.F__law_delivers.kp T.B__law_delivers .nil pass0 (pa_cons (pv 0) (pa_cons (pv 1) (pa_cons (pe_ix ix_list (pv 3) (pv 6) (fun _ _ => rfl)) (pa_cons (pe_ix ix_list (pv 4) (pv 6) (fun _ _ => rfl)) (pa_cons (pv 2) pa_nil))))))))) pss_nil)
      (pss_cons (ps_if (pt_cmpR op_eq (pv 5) pe_int (nomark _)) (pss_one (ps_ret (pe_call (ok__law_reads T) (hr.mono (by decide)) rfl T.g__law_reads T.F__law_reads.kp T.B__law_reads .nil pass0 (pa_cons (pe_ix ix_list (pv 3) (pv 6) (fun _ _ => rfl)) (pa_cons (pe_ix ix_list (pv 4) (pv 6) (fun _ _ => rfl)) (pa_cons (pv 2) (pa_cons (pe_call (ok__law_draw T) (hr.mono (by decide)) rfl T.g__law_draw T.F__law_draw.kp T.B__law_draw .nil pass0 (pa_cons (pv 0) (pa_cons pe_int pa_nil))) pa_nil))))))) pss_nil)
      (pss_cons (ps_if (pt_cmpR op_eq (pv 5) pe_int (nomark _)) (pss_one (ps_ret (pe_call (ok__law_releases T) (hr.mono (by decide)) rfl T.g__law_releases T.F__law_releases.kp T.B__law_releases .nil pass0 (pa_cons (pv 1) (pa_cons (pv 2) (pa_cons (pv 4) pa_nil)))))) pss_nil)
      (pss_cons (ps_if (pt_cmpR op_eq (pe_call (ok__law_draw T) (hr.mono (by decide)) rfl T.g__law_draw T.F__law_draw.kp T.B__law_draw .nil pass0 (pa_cons (pv 0) (pa_cons pe_int pa_nil))) pe_int (nomark _)) (pss_cons (ps_dput (room_u1 hr) (pv 2) pe_str pe_bl rfl)
      (pss_one (ps_ret (pe_cmpR op_isN (pe_meth0 (pv 1) T.cl_Outbox T.m_Outbox_shut (ok_Outbox_shut T) (hr.mono (by decide)) T.B_Outbox_shut .nil pass0) pe_non (nomark _))))) pss_nil)
      (pss_one (ps_ret pe_bl)))))))))), ?_⟩
    refine st__law_deed ?_
    o_args
    refine ⟨a, L, _, rfl, W.b, by decide, by decide, fun way H1 _ _ B1 c1 => ?_⟩
    have W1 := W.box B1 c1
    o_args
    refine ⟨a, L, _, rfl, W1.b, by decide, by decide, fun wh H2 w0 w1 B2 c2 => ?_⟩
    have W2 := W1.box B2 c2
    obtain ⟨j, rfl⟩ : ∃ x : Nat, wh = x := ⟨wh.toNat, by omega⟩
    obtain ⟨o, ho⟩ : ∃ o, rs[j]? = some o := ⟨_, List.getElem?_eq_getElem (by omega)⟩
    have cl : s1.B.con.length ≤ 400 := by have := W.sd.mc; omega
    have pl := W.pl
    clear W W1 B1 B2 c1 c2
    o_args
    refine brD (fun cc => ?_) (fun cc => ?_)
    · o_args
      refine ⟨a, L, s1, rfl, W2.b, W2.sd, fun b hb => (W2.sl b hb).1, fun B' w' n H3 eb ec el con hn hw w3 B3 an c3 => ?_⟩
      o_args
      refine k (n ++ L) _ rs H3 (W2.send hn an B3 (c3.more (by simp)) w3 ⟨rfl, rfl, rfl, rfl⟩ hw con (fun z => by show B'.closed = true; rw [ec]; exact z) (fun i o h => by show (B'.base : Int) ≤ _; rw [eb]; exact (W2.r i o h).2.1) (by show s1.ps.length ≤ _; omega)) rfl rfl rl
    o_args
    refine brD (fun cc => ?_) (fun cc => ?_)
    · o_args
      refine ⟨a, L, s1, rfl, W2.b, W2.sd, fun b hb => (W2.sl b hb).1, by omega, fun pc H3 w3 B3 c3 => ?_⟩
      o_args
      refine k L _ rs H3 (W2.send (n := []) (fun _ z => nomatch z) (fun _ z => nomatch z) B3 (c3.more (by simp)) w3 ⟨rfl, rfl, rfl, rfl⟩ (.inl rfl) ⟨[], by simp, fun _ => rfl⟩ (fun z => z) (fun i o h => (W2.r i o h).2.1) (by show (s1.ps ++ [pc]).length ≤ _; rw [List.length_append]; simp; omega)) rfl rfl rl
    o_args
    refine brD (fun cc => ?_) (fun cc => ?_)
    · have hsq2 := W2.sd.a.1
      unfold Sn.kvs at hsq2
      have deliver : ∀ s' H3, Wo T.c_Inbox T.c_Spans T.c_Outbox a R N L s' rs (M + 1) H3 → s'.p = s1.p → s'.q = s1.q → s'.ps ≠ [] → ∀ {D : VK}, (∀ H', Q (.bl true) H' → D (.bl true) H') → sp__law_delivers K T.c_Inbox T.c_Spans T.c_Outbox [.ref a, .ref s'.p, .ref o.p, .ref o.q, .ref s'.q] H3 D E0 := fun s' H3 W3 e1 e2 pn D kk =>
        ⟨a, R, N, L, s', rs, M + 1, j, o, rfl, W3, ho, pn, by omega, fun rs' H' W' l1 _ _ => kk H' (k L s' rs' H' W' e1 e2 (by omega))⟩
      o_args
      refine newList (by simp) fun l H3 n3 s3 h3 => ?_
      have W3 := W2.same s3
      refine eqPieces W3.sd.z h3 ?_
      refine ⟨decide (s1.ps = []), rfl, ?_⟩
      by_cases e : s1.ps = []
      · rw [decide_eq_true e, if_pos rfl]
        o_args
        refine ⟨a, L, s1, rfl, W3.b, W3.sd, fun b hb => (W3.sl b hb).1, by omega, fun pc H4 w4 B4 c4 => ?_⟩
        have W4 := W3.send (n := []) (M' := M + 1) (fun _ z => nomatch z) (fun _ z => nomatch z) B4 (c4.more (by simp)) w4 ⟨rfl, rfl, rfl, rfl⟩ (.inl rfl) ⟨[], by simp, fun _ => rfl⟩ (fun z => z) (fun i o h => (W3.r i o h).2.1) (by show (s1.ps ++ [pc]).length ≤ _; rw [List.length_append]; simp; omega)
        o_args
        refine ixL W4.ln (v := .ref o.p) (by rw [List.getElem?_map, ho]; rfl) ?_
        o_args
        refine ixL W4.lr (v := .ref o.q) (by rw [List.getElem?_map, ho]; rfl) ?_
        o_args
        refine deliver _ H4 W4 rfl rfl (by simp) fun H' q => ?_
        o_args
        exact q
      · rw [decide_eq_false e, if_neg (by simp)]
        o_args
        refine ixL W3.ln (v := .ref o.p) (by rw [List.getElem?_map, ho]; rfl) ?_
        o_args
        refine ixL W3.lr (v := .ref o.q) (by rw [List.getElem?_map, ho]; rfl) ?_
        o_args
        refine deliver _ H3 (W3.more (by omega)) rfl rfl e fun H' q => ?_
        o_args
        exact q
    o_args
    refine brD (fun cc => ?_) (fun cc => ?_)
    · o_args
      refine ixL W2.ln (v := .ref o.p) (by rw [List.getElem?_map, ho]; rfl) ?_
      o_args
      refine ixL W2.lr (v := .ref o.q) (by rw [List.getElem?_map, ho]; rfl) ?_
      o_args
      refine ⟨a, L, _, rfl, W2.b, by decide, by decide, fun x H3 x0 x1 B3 c3 => ?_⟩
      have W3 := W2.box B3 c3
      obtain ⟨w3, bx3, kx3⟩ := W3.r j o ho
      o_args
      refine ⟨_, s1, o, x, rfl, w3, (fun b hb => W3.al b (List.mem_cons.mpr (mem_rst.mp hb).1)), cl, W3.sd.a, (fun z => (W3.as j o ho _ z).1 (by simp [Sn.foot])), (fun z => (W3.as j o ho _ z).1 (by simp [Sn.foot])), x0, fun g' H4 ng w4 c4 => ?_⟩
      o_args
      have hn : ∀ z ∈ [g'], H3 z = none := fun z hz => by rw [List.mem_singleton.mp hz]; exact ng
      refine k ([g'] ++ L) s1 _ H4 ((W3.recv (n := [g']) ho hn (fun z hz => by rw [List.mem_singleton.mp hz, w4.g]; exact nofun) (W3.boxn hn c4 (fun b hb => ?_)) (c4.more (by simp)) w4 ⟨rfl, rfl, rfl, rfl, rfl⟩ (.inr List.mem_cons_self) bx3 kx3).more (by omega)) rfl rfl (by rw [List.length_set]; exact rl)
      have := W3.rl j o ho
      simp only [List.mem_cons, List.not_mem_nil, or_false] at hb
      rcases hb with rfl | rfl | rfl | rfl
      · exact this _ (by simp [Rv.foot])
      · exact this _ (by simp [Rv.foot])
      · exact this _ (by simp [Rv.foot])
      · exact this _ (by simp [Rv.foot])
    o_args
    refine brD (fun cc => ?_) (fun cc => ?_)
    · obtain ⟨x, y, rfl⟩ : ∃ x y, rs = [x, y] := by
        match rs, rl with
        | [x, y], _ => exact ⟨x, y, rfl⟩
      o_args
      refine ⟨a, R, N, L, s1, _, M, x, y, rfl, W2, rfl, fun m H3 em W3 => ?_⟩
      o_args
      exact k L _ _ H3 (W3.more (by omega)) rfl rfl rfl
    o_args
    refine ⟨a, L, _, rfl, W2.b, by decide, by decide, fun x H3 x0 x1 B3 c3 => ?_⟩
    have W3 := W2.box B3 c3
    have hsq3 := W3.sd.a.1
    unfold Sn.kvs at hsq3
    o_args
    refine brD (fun cc => ?_) (fun cc => ?_)
    · o_args
      refine dput (k := "closed") (v := .bl true) (kvs' := Sn.kvs { s1 with B := { s1.B with closed := true } }) hsq3 (Nat.le_of_ble_eq_true rfl) (by with_unfolding_all rfl) fun H4 s4 h4 => ?_
      obtain ⟨ne1, ne2, ne3, ne4, ne5, ne6, ne7⟩ := W3.sd.ne
      obtain ⟨nn1, nn2, nn3⟩ := W3.sd.n
      have c4 : Ch [s1.q] H3 H4 := Ch.ofX (by simp) s4 h4
      have qn : ∀ {b}, b ≠ s1.q → b ∉ [s1.q] := fun h z => h (List.mem_singleton.mp z)
      have O4 := W3.sd.o.ch c4 (qn ne1) (qn ne5.symm)
      obtain ⟨⟨dx, hp4⟩, _⟩ := id O4
      o_args
      refine ⟨s1.p, dx, _, rfl, hp4, rfl, ?_⟩
      o_args
      refine ⟨s1.p, s1.l, s1.B, rfl, O4, fun H5 c5 O5 => ?_⟩
      o_args
      have c35 : Ch [s1.p, s1.q] H3 H5 := (c4.more (by simp)).trans (c5.more (by simp))
      have sub4 : ∀ b ∈ [s1.p, s1.q], b ∈ s1.foot := fun b hb => by
        simp only [Sn.foot, List.mem_cons, List.not_mem_nil, or_false] at hb ⊢
        rcases hb with z | z <;> simp [z]
      refine k L { s1 with B := { s1.B with closed := true } } rs H5 (W3.send (n := []) (fun _ z => nomatch z) (fun _ z => nomatch z) (W3.boxn (n := []) (fun _ z => nomatch z) c35 (fun b hb => (W3.sl b (sub4 b hb)).1)) (c35.more (by simp)) ⟨O5, ⟨c5.at (by simp [ne1.symm]) h4, c35.at (by simp [ne3.symm, ne6.symm]) W3.sd.a.2⟩, W3.sd.z.ch c35 (by simp [ne4.symm, ne7.symm]) (fun b hb => W3.sd.nt b (sub4 b hb)), W3.sd.ok, W3.sd.byt, W3.sd.sp, W3.sd.mc, W3.sd.n⟩ ⟨rfl, rfl, rfl, rfl⟩ (.inl rfl) ⟨[], by simp, fun _ => rfl⟩ (fun _ => rfl) (fun i o h => (W3.r i o h).2.1) (by show s1.ps.length ≤ _; omega)) rfl rfl rl
    · o_args
      exact k L s1 rs H3 (W3.more (by omega)) rfl rfl rl
/-! ### all that was written is brought -/
theorem finR {K : PySem.W.Frag} {C Cs Ce p d e : Addr} {F : List Addr} {m : Nat} {B : Ib} {con : List Int} {ks : List Int} {kn : Bool} {H : Hp} {Q : VK} {E : XK} (I : InAt C Cs p d e F m B H) (R : RelR con B ks kn) (k : ∀ H', Ch [p] H H' → InAt C Cs p d e F m { B with fin := some (1 + (con.length : Int)) } H' → Q .non H') : sp_Inbox_finish K C Cs Ce [.ref p, .int (1 + (con.length : Int))] H Q E := by
  refine ⟨p, d, e, F, m, B, _, rfl, I, ?_⟩
  have hf := R.fin
  cases kn with
  | false => exact .inr ⟨by rw [hf]; rfl, .inl ⟨_, rfl, R.least I.ee.offs.nrm, k⟩⟩
  | true =>
    have hf : B.fin = some (1 + (con.length : Int)) := by rw [hf]; rfl
    refine .inl ⟨by rw [hf]; exact nofun, k H Ch.refl ?_⟩
    rw [← hf]
    exact I
def sp__law_brings_all (K : PySem.W.Frag) (C Cs Co : Addr) : Sp := fun vs H Q _ => ∃ (a R N : Addr) (L : List Addr) (s : Sn) (rs : List Rv) (M i : Nat) (o : Rv), vs = [.ref s.p, .ref o.p, .ref o.q, .ref s.q] ∧ Wo C Cs Co a R N L s rs M H ∧ rs[i]? = some o ∧
  ∀ L' rs' H' o', Wo C Cs Co a R N L' { s with B := { s.B with closed := true } } rs' M H' → rs'.length = rs.length → (∀ j : Nat, j ≠ i → rs'[j]? = rs[j]?) → rs'[i]? = some o' → o'.B.nx = 1 + (s.B.con.length : Int) → Q (.bl true) H'
set_option maxHeartbeats 0 in
theorem ok__law_brings_all (T : Txt K mg) : FnOk P w K mg base CX0 11 T.a__law_brings_all T.fd__law_brings_all ["outbox", "inbox", "receiver", "sender"] (sp__law_brings_all K T.c_Inbox T.c_Spans T.c_Outbox) := by
  have S := sc__law_brings_all
  refine T.F__law_brings_all.ok S (fun vs H Q E h => ?_) (fun cdv A outer s H vs Q E hr h => ?_)
  · obtain ⟨a, R, N, L, s, rs, M, i, o, rfl, _⟩ := h
    rfl
  · obtain ⟨a, R, N, L, s1, rs, M, i, o, rfl, W, hi, k⟩ := h
    have il := getq_lt hi
    obtain ⟨hsq, hsw⟩ := id W.sd.a
    unfold Sn.kvs at hsq
    have cl : s1.B.con.length ≤ 400 := by have := W.sd.mc; omega
    refine ⟨_, (pss_cons (ps_set (i := 4) S.nd rfl (Or.inl rfl) (pe_op op_add pe_int (pe_callB (id := "len") (call_lenK (K := K) rfl) (by rfl) T.b_len (by decide +kernel) (pa_cons (pe_dget (room_u1 hr) (pv 3) pe_str (fun _ _ => rfl)) pa_nil))))
      (C8.pss_cut (ps_for PassesOwn.never rfl (pi_range1 (by rfl) T.b_range (pa_cons (pe_op op_add (pe_callB (id := "len") (call_lenK (K := K) rfl) (by rfl) T.b_len (by decide +kernel) (pa_cons (pe_dget (room_u1 hr) (pv 3) pe_str (fun _ _ => rfl)) pa_nil)) pe_int) pa_nil)) (pg_name (i := 5) S.nd rfl (Or.inl rfl)) (pss_cons (ps_if (pt_not (pt_val (pe_call (ok__law_reads T) (hr.mono (by decide)) rfl T.g__law_reads T.F__law_reads.kp T.B__law_reads .nil pass0 (pa_cons (pv 1) (pa_cons (pv 2) (pa_cons (pv 3) (pa_cons pe_int pa_nil))))))) (pss_one (ps_ret pe_bl)) pss_nil)
      (pss_cons (ps_set (i := 6) S.nd rfl (Or.inl rfl) (pe_call (ok__law_next T) (hr.mono (by decide)) rfl T.g__law_next T.F__law_next.kp T.B__law_next .nil pass0 (pa_cons (pv 2) pa_nil)))
      (pss_cons (ps_if (pt_cmpR op_eq (pv 6) (pv 4) (nomark _)) (pss_one ps_break) pss_nil)
      (pss_cons (ps_set (i := 7) S.nd rfl (Or.inl rfl) (pe_meth (pv 0) T.cl_Outbox T.m_Outbox_cut (ok_Outbox_cut T) (hr.mono (by decide)) T.B_Outbox_cut .nil passL (pa_cons (pv 6) (pa_cons (pv 4) pa_nil))))
      (pss_cons (ps_if (pt_not (pt_val (pe_call (ok__law_tuple_is T) (hr.mono (by decide)) rfl T.g__law_tuple_is T.F__law_tuple_is.kp T.B__law_tuple_is .nil pass0 (pa_cons (pv 7) (pa_cons (pe_slice sl_list (pe_dget (room_u1 hr) (pv 3) pe_str (fun _ _ => rfl)) (po_some (pe_op op_sub (pv 6) pe_int)) po_none) pa_nil))))) (pss_one (ps_ret pe_bl)) pss_nil)
      (pss_one (ps_if (pt_not (pt_val (pe_call (ok__law_arrives T) (hr.mono (by decide)) rfl T.g__law_arrives T.F__law_arrives.kp T.B__law_arrives .nil pass0 (pa_cons (pv 1) (pa_cons (pv 2) (pa_cons (pv 6) (pa_cons (pv 7) pa_nil))))))) (pss_one (ps_ret pe_bl)) pss_nil))))))))
      (pss_cons (ps_if (pt_not (pt_val (pe_call (ok__law_receiver_is T) (hr.mono (by decide)) rfl T.g__law_receiver_is T.F__law_receiver_is.kp T.B__law_receiver_is .nil pass0 (pa_cons (pv 1) (pa_cons (pv 2) (pa_cons (pv 3) pa_nil)))))) (pss_one (ps_ret pe_bl)) pss_nil)
      (pss_cons (ps_expr (pe_meth0 (pv 0) T.cl_Outbox T.m_Outbox_shut (ok_Outbox_shut T) (hr.mono (by decide)) T.B_Outbox_shut .nil pass0))
      (pss_cons (ps_dput (room_u1 hr) (pv 3) pe_str pe_bl rfl)
      (pss_cons (ps_expr (pe_meth (pv 1) T.cl_Inbox T.m_Inbox_finish (ok_Inbox_finish T) (hr.mono (by decide)) T.B_Inbox_finish .nil passL (pa_cons (pe_fld (pv 0) rfl) pa_nil)))
      (pss_cons (ps_dput (room_u1 hr) (pv 2) pe_str pe_bl rfl)
      (pss_cons (ps_if (PW.pt (pw_or (pt_cmpR (op_neD hr.units) (pe_dget (room_u1 hr) (pv 2) pe_str (fun _ _ => rfl)) (pe_dget (room_u1 hr) (pv 3) pe_str (fun _ _ => rfl)) (nomark _)) (pw_or1 (pt_cmpR op_ne (pe_prop (pv 1) T.cl_Inbox T.PR_Inbox_expected (ok_Inbox_expected T) (hr.mono (by decide)) T.B_Inbox_expected .nil pass0 rfl) (pe_prop (pv 0) T.cl_Outbox T.PR_Outbox_bound (ok_Outbox_bound T) (hr.mono (by decide)) T.B_Outbox_bound .nil pass0 rfl) (nomark _))))) (pss_one (ps_ret pe_bl)) pss_nil)
      (pss_one (ps_ret (pe_and (pe_cmpR op_is_bl (pe_prop (pv 1) T.cl_Inbox T.PR_Inbox_ended (ok_Inbox_ended T) (hr.mono (by decide)) T.B_Inbox_ended .nil pass0 rfl) pe_bl (nomark _)) (pe_one (pe_call (ok__law_receiver_is T) (hr.mono (by decide)) rfl T.g__law_receiver_is T.F__law_receiver_is.kp T.B__law_receiver_is .nil pass0 (pa_cons (pv 1) (pa_cons (pv 2) (pa_cons (pv 3) pa_nil)))))))))))))))), ?_⟩
    refine st__law_brings_all ?_
    o_args
    refine lenA (SeqA.lst hsw) ?_
    rw [List.length_map]
    o_args
    refine ⟨fun σ H' => ∃ L' rs' o' v5 v6 v7, σ = [some (.ref s1.p), some (.ref o.p), some (.ref o.q), some (.ref s1.q), some (.int (1 + (s1.B.con.length : Nat))), v5, v6, v7] ∧ Wo T.c_Inbox T.c_Spans T.c_Outbox a R N L' s1 rs' M H' ∧ rs'.length = rs.length ∧ (∀ j : Nat, j ≠ i → rs'[j]? = rs[j]?) ∧ rs'[i]? = some o' ∧ o'.p = o.p ∧ o'.q = o.q ∧ o'.B.nx = 1 + (s1.B.con.length : Int) ∧ o'.B.rd = o'.B.nx, ?_, ?_⟩
    · o_args
      refine lenA (SeqA.lst hsw) ?_
      rw [List.length_map]
      o_args
      refine ⟨by omega, by omega, ?_⟩
      refine for_range (lo := 0) (n := ((s1.B.con.length : Nat) + 1 : Int).toNat) (fun t σ H' => ∃ L' rs' o' v5 v6 v7, σ = [some (.ref s1.p), some (.ref o.p), some (.ref o.q), some (.ref s1.q), some (.int (1 + (s1.B.con.length : Nat))), v5, v6, v7] ∧ Wo T.c_Inbox T.c_Spans T.c_Outbox a R N L' s1 rs' M H' ∧ rs'.length = rs.length ∧ (∀ j : Nat, j ≠ i → rs'[j]? = rs[j]?) ∧ rs'[i]? = some o' ∧ o'.p = o.p ∧ o'.q = o.q ∧ 1 + (t : Int) ≤ o'.B.nx) ⟨L, rs, o, none, none, none, rfl, W, rfl, fun _ _ => rfl, hi, rfl, rfl, by have := (W.r i o hi).1.r.g.r1; have := (W.r i o hi).1.r.g.rn; omega⟩ ?_ ?_
      · clear W hi hsq hsw
        rintro t σ H1 tl ⟨L', rs', o', v5, v6, v7, rfl, W, rl, oth, hi, ep, eq, lo⟩
        have il' := getq_lt hi
        obtain ⟨w, bx, kx⟩ := W.r i o' hi
        have g1 := w.r.g.r1
        have g2 := w.r.g.rn
        have nl := w.r.nxl
        o_args
        refine ⟨_, s1, o', 1000, by rw [ep, eq]; rfl, w, (fun b hb => W.al b (List.mem_cons.mpr (mem_rst.mp hb).1)), cl, W.sd.a, (fun z => (W.as i o' hi _ z).1 (by simp [Sn.foot])), (fun z => (W.as i o' hi _ z).1 (by simp [Sn.foot])), by decide, fun g' H2 ng w2 c2 => ?_⟩
        rw [show min 1000 (o'.B.nx - o'.B.rd) = o'.B.nx - o'.B.rd by omega] at w2
        have hn : ∀ z ∈ [g'], H1 z = none := fun z hz => by rw [List.mem_singleton.mp hz]; exact ng
        have rlo := W.rl i o' hi
        have W2 := W.recv (n := [g']) hi hn (fun z hz => by rw [List.mem_singleton.mp hz, w2.g]; exact nofun) (W.boxn hn c2 (fun b hb => by
          simp only [List.mem_cons, List.not_mem_nil, or_false] at hb
          rcases hb with rfl | rfl | rfl | rfl
          · exact rlo _ (by simp [Rv.foot])
          · exact rlo _ (by simp [Rv.foot])
          · exact rlo _ (by simp [Rv.foot])
          · exact rlo _ (by simp [Rv.foot]))) (c2.more (by simp)) w2 ⟨rfl, rfl, rfl, rfl, rfl⟩ (.inr List.mem_cons_self) bx kx
        have e2 : ({ o' with g := g', B := o'.B.read (o'.B.nx - o'.B.rd) } : Rv).p = o.p ∧ ({ o' with g := g', B := o'.B.read (o'.B.nx - o'.B.rd) } : Rv).q = o.q ∧ ({ o' with g := g', B := o'.B.read (o'.B.nx - o'.B.rd) } : Rv).B.nx = o'.B.nx ∧ ({ o' with g := g', B := o'.B.read (o'.B.nx - o'.B.rd) } : Rv).B.rd = o'.B.nx := ⟨ep, eq, rfl, by show o'.B.rd + (o'.B.nx - o'.B.rd) = _; omega⟩
        have hi2 : (rs'.set i { o' with g := g', B := o'.B.read (o'.B.nx - o'.B.rd) })[i]? = some { o' with g := g', B := o'.B.read (o'.B.nx - o'.B.rd) } := by rw [List.getElem?_set, if_pos rfl, if_pos il']
        have oth2 : ∀ j : Nat, j ≠ i → (rs'.set i { o' with g := g', B := o'.B.read (o'.B.nx - o'.B.rd) })[j]? = rs[j]? := fun j hj => by rw [List.getElem?_set, if_neg (Ne.symm hj)]; exact oth j hj
        have rl2 : (rs'.set i { o' with g := g', B := o'.B.read (o'.B.nx - o'.B.rd) }).length = rs.length := by rw [List.length_set]; exact rl
        generalize rs'.set i { o' with g := g', B := o'.B.read (o'.B.nx - o'.B.rd) } = rs2 at W2 hi2 oth2 rl2
        generalize ({ o' with g := g', B := o'.B.read (o'.B.nx - o'.B.rd) } : Rv) = o2 at e2 hi2
        obtain ⟨e2p, e2q, e2n, e2r⟩ := e2
        clear w2 c2 w W
        obtain ⟨w2, bx2, kx2⟩ := W2.r i o2 hi2
        obtain ⟨hsq2, hsw2⟩ := id W2.sd.a
        unfold Sn.kvs at hsq2
        o_args
        refine ⟨_, s1.B.con, o2, by rw [e2q]; rfl, w2, cl, ?_⟩
        o_args
        refine brD (fun cc => ?_) (fun cc => ?_)
        · o_args
          exact ⟨_, rs2, o2, _, _, _, rfl, W2, rl2, oth2, hi2, e2p, e2q, cc, by rw [e2r, e2n]⟩
        · have nl2 := w2.r.nxl
          obtain ⟨m, em⟩ : ∃ m : Nat, o2.B.nx = m := ⟨o2.B.nx.toNat, by omega⟩
          obtain ⟨⟨dxo, hpo⟩, _⟩ := id W2.sd.o
          o_args
          refine ⟨s1.p, dxo, _, rfl, hpo, rfl, ?_⟩
          o_args
          refine ⟨s1.p, s1.l, s1.B, _, _, rfl, W2.sd.o, .inl ⟨m, s1.B.con.length + 1, by rw [em], congrArg V.int (by omega), by omega, by omega, by omega, fun t3 H3 n3 s3 h3 => ?_⟩⟩
          have W3 := W2.same s3
          have h3 : H3 t3 = some (.tup ((s1.B.con.drop (m - 1)).map V.int)) := by
            rw [h3, Nat.add_sub_cancel, List.take_of_length_le (Nat.le_refl _)]
          obtain ⟨hsq3, hsw3⟩ := id W3.sd.a
          unfold Sn.kvs at hsq3
          o_args
          refine sliceL (SqL.of hsw3) fun l4 H4 n4 s4 h4 => ?_
          have h4 : H4 l4 = some (.lst ((s1.B.con.drop (m - 1)).map V.int)) := by
            rw [h4, em, show (m : Int) - 1 = ((m - 1 : Nat) : Int) by omega, cut_from, List.map_drop]
          have W4 := W3.same s4
          o_args
          refine ⟨t3, l4, _, rfl, s4 _ _ h3, h4, by rw [List.length_drop]; omega, ?_⟩
          obtain ⟨w4, bx4, kx4⟩ := W4.r i o2 hi2
          have sub : Sub s1.B.con o2.B.nx (s1.B.con.drop (m - 1)) := ⟨by omega, fun q hq => by rw [List.getElem?_drop, show (o2.B.nx - 1).toNat + q = m - 1 + q by omega]⟩
          o_args
          refine ⟨_, s1.B.con, o2, o2.B.nx, t3, s1.B.con.drop (m - 1), by rw [e2p, e2q]; rfl, w4, (fun b hb => W4.al b (List.mem_cons.mpr (mem_rst.mp hb).1)), cl, .inr (s4 _ _ h3), (fun x hx => W4.sd.byt x (List.mem_of_mem_drop hx)), by rw [List.length_drop]; omega, sub, fun B6 ks6 H6 w6 erd n06 mv x6 => ?_⟩
          have mv := mv rfl (fun z => by
            have := congrArg List.length z
            rw [List.length_drop, List.length_nil] at this
            omega) (by rw [e2r, e2n])
          have rlo := W4.rl i o2 hi2
          have W6 := W4.recv (n := []) hi2 (fun _ z => nomatch z) (fun _ z => nomatch z) (W4.boxn (n := []) (fun _ z => nomatch z) x6 (fun b hb => by
            simp only [List.mem_cons, List.not_mem_nil, or_false] at hb
            rcases hb with rfl | rfl | rfl | rfl
            · exact rlo _ (by simp [Rv.foot])
            · exact rlo _ (by simp [Rv.foot])
            · exact rlo _ (by simp [Rv.foot])
            · exact rlo _ (by simp [Rv.foot]))) (x6.more (by simp)) w6 ⟨rfl, rfl, rfl, rfl, rfl⟩ (.inl rfl) (Int.le_trans bx4 n06) kx4
          o_args
          refine ⟨_, _, { o2 with B := B6, ks := ks6 }, _, _, _, rfl, W6, by rw [List.length_set]; exact rl2, fun j hj => by rw [List.getElem?_set, if_neg (Ne.symm hj)]; exact oth2 j hj, by rw [List.getElem?_set, if_pos rfl, if_pos (getq_lt hi2)], e2p, e2q, ?_⟩
          show 1 + ((t + 1 : Nat) : Int) ≤ B6.nx
          omega
      · rintro σ H1 ⟨L', rs', o', v5, v6, v7, rfl, W', rl, oth, hi', ep, eq, lo⟩
        have := (W'.r i o' hi').1.r.nxl
        omega
    · clear W hi hsq hsw
      rintro σ H1 ⟨L', rs', o', v5, v6, v7, rfl, W, rl, oth, hi, ep, eq, en, er⟩
      have il' := getq_lt hi
      obtain ⟨w, bx, kx⟩ := W.r i o' hi
      o_args
      refine ⟨_, s1, o', by rw [ep, eq]; rfl, w, cl, W.sd.a, fun H2 s2 => ?_⟩
      have W2 := W.same s2
      obtain ⟨⟨dxo, hpo⟩, _⟩ := id W2.sd.o
      o_args
      refine ⟨s1.p, dxo, _, rfl, hpo, rfl, ?_⟩
      o_args
      refine ⟨s1.p, s1.l, s1.B, rfl, W2.sd.o, fun H3 c3 O3 => ?_⟩
      have W3c : Wo T.c_Inbox T.c_Spans T.c_Outbox a R N L' s1 rs' M H2 := W2
      obtain ⟨ne1, ne2, ne3, ne4, ne5, ne6, ne7⟩ := W2.sd.ne
      obtain ⟨nn1, nn2, nn3⟩ := W2.sd.n
      obtain ⟨hsq2, hsw2⟩ := id W2.sd.a
      unfold Sn.kvs at hsq2
      have hsq3 := c3.at (show s1.q ∉ [s1.p] by simp [ne1.symm]) hsq2
      have qn : ∀ {b}, b ≠ s1.q → b ∉ [s1.q] := fun h z => h (List.mem_singleton.mp z)
      dsimp only
      o_args
      refine dput (k := "closed") (v := .bl true) (kvs' := Sn.kvs { s1 with B := { s1.B with closed := true } }) hsq3 (Nat.le_of_ble_eq_true rfl) (by with_unfolding_all rfl) fun H4 s4 h4 => ?_
      have c4 : Ch [s1.q] H3 H4 := Ch.ofX (by simp) s4 h4
      have O4 := O3.ch c4 (qn ne1) (qn ne5.symm)
      have c24 : Ch [s1.p, s1.q] H2 H4 := (c3.more (by simp)).trans (c4.more (by simp))
      have sub4 : ∀ b ∈ [s1.p, s1.q], b ∈ s1.foot := fun b hb => by
        simp only [Sn.foot, List.mem_cons, List.not_mem_nil, or_false] at hb ⊢
        rcases hb with z | z <;> simp [z]
      have W4 : Wo T.c_Inbox T.c_Spans T.c_Outbox a R N L' { s1 with B := { s1.B with closed := true } } rs' M H4 := W2.send (n := []) (fun _ z => nomatch z) (fun _ z => nomatch z) (W2.boxn (n := []) (fun _ z => nomatch z) c24 (fun b hb => (W2.sl b (sub4 b hb)).1)) (c24.more (by simp)) ⟨O4, ⟨h4, c24.at (by simp [ne3.symm, ne6.symm]) hsw2⟩, W2.sd.z.ch c24 (by simp [ne4.symm, ne7.symm]) (fun b hb => W2.sd.nt b (sub4 b hb)), W2.sd.ok, W2.sd.byt, W2.sd.sp, W2.sd.mc, W2.sd.n⟩ ⟨rfl, rfl, rfl, rfl⟩ (.inl rfl) ⟨[], by simp, fun _ => rfl⟩ (fun _ => rfl) (fun i o h => (W2.r i o h).2.1) W2.pl
      clear O3 O4 h4 s4 c4 c24 hsq2 hsw2 hsq3 c3 W2 W3c s2 W w hpo
      obtain ⟨w4, bx4, kx4⟩ := W4.r i o' hi
      obtain ⟨dx4, hp4⟩ := w4.i.oo
      rw [ep] at hp4
      obtain ⟨⟨dxo, hpo⟩, _⟩ := id W4.sd.o
      have hfin := w4.r.fin
      have lst := w4.r.least w4.i.ee.offs.nrm
      o_args
      refine ⟨o.p, dx4, _, rfl, hp4, rfl, ?_⟩
      o_args
      refine fget hpo T.cl_Outbox T.n_Outbox_end rfl ?_
      o_args
      have I4 := w4.i
      rw [ep] at I4
      refine finR I4 w4.r fun H5 c5 i5 => ?_
      have ap1 := w4.apart.1
      have ap4 := w4.apart.2.2.2.1
      have ap5 := w4.apart.2.2.2.2.1
      have hq5 := c5.at (show o'.q ∉ [o.p] from fun z => ap1 (by rw [List.mem_singleton.mp z, ← ep]; simp)) w4.q
      rw [eq] at hq5
      unfold Rv.kvs at hq5
      o_args
      refine dput (k := "known") (v := .bl true) (kvs' := Rv.kvs { o' with B := { o'.B with fin := some (1 + (s1.B.con.length : Int)) }, kn := true }) hq5 (Nat.le_of_ble_eq_true rfl) (by with_unfolding_all rfl) fun H6 s6 h6 => ?_
      rw [← eq] at s6 h6
      rw [← ep] at c5 i5
      have c6 : Ch [o'.q] H5 H6 := Ch.ofX (by simp) s6 h6
      have x46 : Ch [o'.p, o'.q] H4 H6 := (c5.more (by simp)).trans (c6.more (by simp))
      have i6 := i5.ch c6 (fun b hb => by rw [List.mem_singleton.mp hb]; exact w4.f.1) (fun z => ap4 (by rw [List.mem_singleton.mp z]; simp)) (fun z => ap5 (by rw [List.mem_singleton.mp z]; simp))
      have w6 := w4.mk' (kn' := true) x46 i6 h6 w4.r.setFin rfl
      have rlo := W4.rl i o' hi
      have W6 := W4.recv (n := []) hi (fun _ z => nomatch z) (fun _ z => nomatch z) (W4.boxn (n := []) (fun _ z => nomatch z) x46 (fun b hb => by
        simp only [List.mem_cons, List.not_mem_nil, or_false] at hb
        rcases hb with rfl | rfl
        · exact rlo _ (by simp [Rv.foot])
        · exact rlo _ (by simp [Rv.foot]))) (x46.more (by simp)) w6 ⟨rfl, rfl, rfl, rfl, rfl⟩ (.inl rfl) bx4 (fun _ => rfl)
      have hq6 := h6
      unfold Rv.kvs at hq6
      rw [eq] at hq6
      obtain ⟨hsq6, hsw6⟩ := id W6.sd.a
      unfold Sn.kvs at hsq6
      have hg6 : H6 o'.g = some (.lst (s1.B.con.map V.int)) := by
        have := w6.g
        rw [List.take_of_length_le (show s1.B.con.length ≤ (o'.B.rd - 1).toNat by omega)] at this
        exact this
      o_args
      refine neLL (xs := s1.B.con) (ys := s1.B.con) (SqL.of hg6) (SqL.of hsw6) ?_
      refine ⟨false, by rw [decide_eq_true rfl]; rfl, ?_⟩
      rw [if_neg (by simp)]
      have I6 := w6.i
      obtain ⟨dx6, hp6⟩ := id I6.oo
      have hp6 : H6 o'.p = _ := hp6
      rw [ep] at hp6
      obtain ⟨⟨dxo6, hpo6⟩, _⟩ := id W6.sd.o
      have I6p : InAt T.c_Inbox T.c_Spans o'.p o'.d o'.e (rst a L' o'.e) o'.ks.length { o'.B with fin := some (1 + (s1.B.con.length : Int)) } H6 := I6
      rw [ep] at I6p
      have hfed : ({ o'.B with fin := some (1 + (s1.B.con.length : Int)) } : Ib).fed = true := by
        unfold Ib.fed
        rw [decide_eq_true_iff]
        show some _ = some o'.B.nx
        rw [en]
      have hexp : ({ o'.B with fin := some (1 + (s1.B.con.length : Int)) } : Ib).exp = Bx.bound { s1.B with closed := true } := by
        unfold Ib.exp
        rw [hfed, if_pos rfl]
        unfold Bx.bound
        rw [if_pos rfl]
        show o'.B.nx + 1 = _
        rw [en]
      o_args
      refine ⟨o.p, dx6, _, rfl, hp6, o.p, o'.d, o'.e, _, _, _, rfl, I6p, ?_⟩
      o_args
      refine ⟨s1.p, dxo6, _, rfl, hpo6, s1.p, s1.l, _, rfl, W6.sd.o, ?_⟩
      rw [hexp]
      o_args
      refine brDT rfl ?_
      o_args
      refine ⟨o.p, dx6, _, rfl, hp6, o.p, o'.d, o'.e, _, _, _, rfl, I6p, ?_⟩
      o_args
      rw [hfed]
      refine ⟨true, true, rfl, rfl, ?_⟩
      refine ⟨true, rfl, ?_⟩
      rw [if_pos rfl]
      o_args
      refine ⟨_, { s1 with B := { s1.B with closed := true } }, { o' with B := { o'.B with fin := some (1 + (s1.B.con.length : Int)) }, kn := true }, by show _ = [V.ref o'.p, V.ref o'.q, V.ref s1.q]; rw [ep, eq]; rfl, w6, cl, W6.sd.a, fun H7 s7 => ?_⟩
      o_args
      exact k _ _ H7 { o' with B := { o'.B with fin := some (1 + (s1.B.con.length : Int)) }, kn := true } (W6.same s7) (by rw [List.length_set]; exact rl) (fun j hj => by rw [List.getElem?_set, if_neg (Ne.symm hj)]; exact oth j hj) (by rw [List.getElem?_set, if_pos rfl, if_pos il']) en
/-! ### the start -/
theorem lcR2 {tel : TE} {σ : L2.St} {H : Hp} {Q : VK} {j : Nat} (P : Addr → Nat → List Addr → Hp → Prop) (h0 : ∀ D, H D = none → P D 0 [] (upd H D (.lst [])))
    (hs : ∀ D i xs H', H D = none → i < 2 → H' D = some (.lst (xs.map V.ref)) → xs.length = i → P D i xs H' → ∀ Y : VK, (∀ x H3, H3 D = some (.lst (xs.map V.ref)) → P D (i + 1) (xs ++ [x]) (upd H3 D (.lst ((xs ++ [x]).map V.ref))) → Y (.ref x) H3) → tel ((σ.set j none).set j (some (.int (0 + (i : Int))))) H' Y)
    (hd : ∀ D xs H', H D = none → H' D = some (.lst (xs.map V.ref)) → xs.length = 2 → P D 2 xs H' → Q (.ref D) H') : tLc (iRng1 (tCons (tC (.int 2)) tNil)) (gName j) tYes tel [j] σ H Q := by
  refine ⟨2, rfl, by decide, by decide, fun D hD => lc_range (lo := 0) (n := (2 : Int).toNat) (fun i H' => ∃ xs : List Addr, xs.length = i ∧ H' D = some (.lst (xs.map V.ref)) ∧ P D i xs H') ⟨[], rfl, upd_same, h0 D hD⟩ ?_ ?_⟩
  · rintro i H' hi ⟨xs, hl, h1, hp⟩
    refine ⟨?_, ?_⟩
    · show ((((σ.set j none).set j (some (V.int (0 + (i : Int))))).set j none) = σ.set j none)
      rw [List.set_set, List.set_set]
    dsimp only [tYes]
    rw [if_pos rfl]
    refine hs D i xs H' hD hi h1 hl hp _ fun x H3 e p => ⟨_, e, ?_, xs ++ [x], by rw [List.length_append, hl]; rfl, by rw [List.map_append]; exact upd_same, by rw [List.map_append] at p; exact p⟩
    have : i < 2 := hi
    rw [List.length_map, sizeLine_eq]
    omega
  · rintro H' ⟨xs, hl, h1, hp⟩
    exact hd D xs H' hD h1 hl hp
theorem newDict {H : Hp} {Q : VK} {σ : L2.St} (q : ∀ d H', H d = none → Same H H' → H' d = some (.dK []) → Q (.ref d) H') : tDNewK σ H Q := fun d hd => q d _ hd (Same.new hd) upd_same
structure Ro where
  q : Addr
  c : Addr
  g : Addr
  n : Int
def Ro.fl (o : Ro) : List Addr := [o.g, o.c, o.q]
def Ro.kvs (o : Ro) : List (Key × V) := [(.inr "limit", .int o.n), (.inr "seen", .ref o.c), (.inr "got", .ref o.g), (.inr "marked", .int 0), (.inr "known", .bl false)]
structure Ro.At (o : Ro) (H : Hp) : Prop where
  q : H o.q = some (.dK o.kvs)
  c : H o.c = some (.dK [])
  g : H o.g = some (.lst [])
  n : 1 ≤ o.n ∧ o.n ≤ 1000
theorem Ro.At.ch {o : Ro} {G : List Addr} {H H' : Hp} (h : o.At H) (x : Ch G H H') (n : ∀ b ∈ o.fl, b ∉ G) : o.At H' := ⟨x.at (n _ (by simp [Ro.fl])) h.q, x.at (n _ (by simp [Ro.fl])) h.c, x.at (n _ (by simp [Ro.fl])) h.g, h.n⟩
def sp__law_receiver : Sp := fun vs H Q _ => ∃ (n : Int), vs = [.int n] ∧ 1 ≤ n ∧ n ≤ 1000 ∧ ∀ (o : Ro) (H' : Hp), H o.q = none → H o.c = none → H o.g = none → o.q ≠ o.c → o.n = n → Same H H' → o.At H' → Q (.ref o.q) H'
theorem ok__law_receiver (T : Txt K mg) : FnOk P w K mg base CX0 1 T.a__law_receiver T.fd__law_receiver ["most"] (sp__law_receiver) := by
  have S := sc__law_receiver
  refine T.F__law_receiver.ok S (fun vs H Q E h => ?_) (fun cdv A outer s H vs Q E hr h => ?_)
  · obtain ⟨n, rfl, _⟩ := h
    rfl
  · obtain ⟨n, rfl, n1, n2, k⟩ := h
    refine ⟨_, (pss_one (ps_ret (pe_disp (pps_cons pe_str (pv 0) (pps_cons pe_str pe_dnewK (pps_cons pe_str (pe_lst pa_nil) (pps_cons pe_str pe_int (pps_cons pe_str pe_bl pps_nil))))) rfl rfl (by simp) (by decide)))), ?_⟩
    refine st__law_receiver ?_
    o_args
    intro q nq
    have s1 := Same.new (o := .dK []) nq
    have h1 : upd H q (.dK []) q = some (.dK []) := upd_same
    generalize upd H q (.dK []) = H1 at s1 h1
    o_args
    refine newDict fun c H2 nc s2 h2 => ?_
    o_args
    refine newList (by simp) fun g H3 ng s3 h3 => ?_
    o_args
    have nc' := none_of s1 nc
    have ng' := none_of (s1.trans s2) ng
    have ne : q ≠ c := fun z => by rw [← z, h1] at nc; cases nc
    have gq : g ≠ q := fun z => by rw [z, s2 _ _ h1] at ng; cases ng
    refine ⟨(s2.trans s3) _ _ h1, (⟨q, c, g, n⟩ : Ro).kvs, rfl, Nat.le_of_ble_eq_true rfl, ?_⟩
    rw [show mergeK [] (⟨q, c, g, n⟩ : Ro).kvs = (⟨q, c, g, n⟩ : Ro).kvs by with_unfolding_all rfl]
    have s4 : SameX q H3 (upd H3 q (.dK (⟨q, c, g, n⟩ : Ro).kvs)) := SameX.upd
    exact k ⟨q, c, g, n⟩ _ nq nc' ng' ne rfl (Ch.same (((Ch.of (s1.trans (s2.trans s3))).trans (Ch.ofX (a := q) (G := [q]) (by simp) s4 upd_same)).drop nq)) ⟨upd_same, s4 _ _ ne.symm (s3 _ _ h2), s4 _ _ gq h3, ⟨n1, n2⟩⟩
/-- receivers made one behind the other; the newest first -/
structure Rs (a D : Addr) (L0 : List Addr) (H : Hp) (os : List Ro) (H' : Hp) : Prop where
  b : Box a ((os.map Ro.fl).flatten ++ D :: L0) H'
  al : Al ((os.map Ro.fl).flatten ++ D :: L0) H'
  nd : ((os.map Ro.fl).flatten ++ D :: L0).Nodup
  c : Ch [a, D] H H'
  r : ∀ o ∈ os, o.At H'
theorem Rs.add {a D : Addr} {L0 : List Addr} {H H1 H2 : Hp} {os : List Ro} {o : Ro} {H' : Hp} {xs : List V} (R : Rs a D L0 H os H') (b : Box a ((os.map Ro.fl).flatten ++ D :: L0) H1) (x : Ch [a] H' H1) (nq : H1 o.q = none) (nc : H1 o.c = none) (ng : H1 o.g = none) (ne : o.q ≠ o.c) (s : Same H1 H2) (h : o.At H2) : Rs a D L0 H (o :: os) (upd H2 D (.lst xs)) := by
  have al1 := R.al.ch x
  have gq : o.g ≠ o.q := fun z => by have := h.g; rw [z, h.q] at this; cases this
  have gc : o.g ≠ o.c := fun z => by have := h.g; rw [z, h.c] at this; cases this
  have b2 : Box a ((((o :: os).map Ro.fl).flatten) ++ D :: L0) H2 := (((b.own nq (Same.refl _)).own nc (Same.refl _)).own ng (Same.refl _)).same s
  have Dm : D ∈ (os.map Ro.fl).flatten ++ D :: L0 := List.mem_append_right _ List.mem_cons_self
  have cD : Ch [D] H2 (upd H2 D (.lst xs)) := Ch.ofX (by simp) SameX.upd upd_same
  have nD : ∀ b ∈ o.fl, b ∉ [D] := fun b hb z => by
    have hD := al1 D Dm
    simp only [Ro.fl, List.mem_cons, List.not_mem_nil, or_false] at hb
    rw [List.mem_singleton.mp z] at hb
    rcases hb with hb | hb | hb <;> rw [hb] at hD
    · exact hD ng
    · exact hD nc
    · exact hD nq
  refine ⟨b2.ch cD (fun b hb => by rw [List.mem_singleton.mp hb]; exact List.mem_append_right _ List.mem_cons_self), fun b hb => ?_, ?_, (R.c.trans (x.more (by simp))).trans ((Ch.of s).trans (cD.more (by simp))), fun o' ho => ?_⟩
  · refine cD.2 b ?_
    have hb : b ∈ o.fl ++ ((os.map Ro.fl).flatten ++ D :: L0) := by simpa [List.append_assoc] using hb
    rcases List.mem_append.mp hb with hb | hb
    · simp only [Ro.fl, List.mem_cons, List.not_mem_nil, or_false] at hb
      rcases hb with rfl | rfl | rfl
      · rw [h.g]; exact nofun
      · rw [h.c]; exact nofun
      · rw [h.q]; exact nofun
    · exact (al1.same s) b hb
  · show ((o.fl ++ (os.map Ro.fl).flatten) ++ D :: L0).Nodup
    rw [List.append_assoc]
    refine List.nodup_cons.mpr ⟨?_, List.nodup_cons.mpr ⟨?_, List.nodup_cons.mpr ⟨al1.new nq, R.nd⟩⟩⟩
    · intro z
      rcases List.mem_cons.mp z with z | z
      · exact gc z
      · rcases List.mem_cons.mp z with z | z
        · exact gq z
        · exact al1.new ng z
    · intro z
      rcases List.mem_cons.mp z with z | z
      · exact ne z.symm
      · exact al1.new nc z
  · rcases List.mem_cons.mp ho with rfl | ho
    · exact h.ch cD nD
    · refine ((R.r o' ho).ch x (fun b hb z => ?_)).ch ((Ch.of (G := [D]) s).trans cD) fun b hb z => ?_
      · exact R.b.nin (by rw [← List.mem_singleton.mp z]; exact List.mem_append_left _ (List.mem_flatten.mpr ⟨_, List.mem_map.mpr ⟨o', ho, rfl⟩, hb⟩))
      · have := (List.nodup_append.mp R.nd).2.2 b (List.mem_flatten.mpr ⟨_, List.mem_map.mpr ⟨o', ho, rfl⟩, hb⟩) D List.mem_cons_self
        exact this (List.mem_singleton.mp z)
/-- places of a list without doubles -/
theorem nd_dis {L : List Addr} {n : Nat} (nd : L.Nodup) (hl : L.length = n) {A B : List Nat} (hA : ∀ i ∈ A, i < n) (hB : ∀ i ∈ B, i < n) (d : ∀ i ∈ A, i ∉ B) : ∀ b ∈ A.map (fun i => L.getD i 0), b ∉ B.map (fun i => L.getD i 0) := fun b hb hc => by
  subst hl
  obtain ⟨i, hi, rfl⟩ := List.mem_map.mp hb
  obtain ⟨j, hj, e⟩ := List.mem_map.mp hc
  have li := hA i hi
  have lj := hB j hj
  simp only [List.getD_eq_getElem?_getD, List.getElem?_eq_getElem li, List.getElem?_eq_getElem lj, Option.getD_some] at e
  have pw := List.pairwise_iff_getElem.mp nd
  rcases Nat.lt_trichotomy i j with c | c | c
  · exact pw i j li lj c e.symm
  · exact d i hi (c ▸ hj)
  · exact pw j i lj li c e
theorem nd_mem {L : List Addr} {n : Nat} (hl : L.length = n) {A : List Nat} (hA : ∀ i ∈ A, i < n) : ∀ b ∈ A.map (fun i => L.getD i 0), b ∈ L := fun b hb => by
  subst hl
  obtain ⟨i, hi, rfl⟩ := List.mem_map.mp hb
  have li := hA i hi
  rw [List.getD_eq_getElem?_getD, List.getElem?_eq_getElem li, Option.getD_some]
  exact List.getElem_mem li
theorem RelR.new {n : Int} : RelR [] (Ib.new n) [] false := ⟨⟨Int.le_refl _, Int.le_refl _, fun o => ⟨fun z => absurd z Mem.nil, fun z => absurd rfl z.1⟩, rfl, fun o z => absurd rfl z, fun o z1 z2 => by
  have : o < (1 : Int) := z2
  have : (1 : Int) ≤ o := z1
  omega⟩, fun o => ⟨(fun z => nomatch z), fun z => z.elim (fun z => by have : o < (1 : Int) := z.2; omega) fun z => absurd rfl z⟩, (fun o x e => nomatch e), Int.le_refl _, rfl⟩
theorem nd_ne {L : List Addr} {n : Nat} (nd : L.Nodup) (hl : L.length = n) (i j : Nat) (hi : i < n) (hj : j < n) (ij : i ≠ j) : L.getD i 0 ≠ L.getD j 0 := fun e =>
  nd_dis nd hl (A := [i]) (B := [j]) (fun x hx => by rw [List.mem_singleton.mp hx]; exact hi) (fun x hx => by rw [List.mem_singleton.mp hx]; exact hj) (fun x hx hy => ij ((List.mem_singleton.mp hx).symm.trans (List.mem_singleton.mp hy))) (L.getD i 0) List.mem_cons_self (by rw [e]; exact List.mem_cons_self)
/-- all that was made at the start -/
theorem Wo.start {C Cs Co a N e2 d2 p2 e1 d1 p1 R l p z w q : Addr} {o1 o2 : Ro} {lim : Int} {mo ca : Nat} {H : Hp} (B : Box a [N, e2, d2, p2, e1, d1, p1, o2.g, o2.c, o2.q, o1.g, o1.c, o1.q, R, l, p, z, w, q] H) (al : Al (a :: [N, e2, d2, p2, e1, d1, p1, o2.g, o2.c, o2.q, o1.g, o1.c, o1.q, R, l, p, z, w, q]) H) (nd : [N, e2, d2, p2, e1, d1, p1, o2.g, o2.c, o2.q, o1.g, o1.c, o1.q, R, l, p, z, w, q].Nodup)
    (O : OutAt Co H p l ⟨lim, [], 1, false, 0⟩) (hq : H q = some (.dK (Sn.kvs ⟨p, l, q, w, z, ⟨lim, [], 1, false, 0⟩, mo, ca, []⟩))) (hw : H w = some (.lst [])) (hz : H z = some (.lst []))
    (I1 : InAt C Cs p1 d1 e1 (N :: e2 :: d2 :: p2 :: d1 :: [p1, a, o2.g, o2.c, o2.q, o1.g, o1.c, o1.q, R, l, p, z, w, q]) 0 (Ib.new o1.n) H) (I2 : InAt C Cs p2 d2 e2 (N :: d2 :: [p2, a, e1, d1, p1, o2.g, o2.c, o2.q, o1.g, o1.c, o1.q, R, l, p, z, w, q]) 0 (Ib.new o2.n) H) (O1 : o1.At H) (O2 : o2.At H)
    (hR : H R = some (.lst [.ref o1.q, .ref o2.q])) (hN : H N = some (.lst [.ref p1, .ref p2])) (mc : 6 ≤ mo ∧ mo ≤ 100 ∧ ca ≤ 400) (li : 1 ≤ lim) :
    Wo C Cs Co a R N [N, e2, d2, p2, e1, d1, p1, o2.g, o2.c, o2.q, o1.g, o1.c, o1.q, R, l, p, z, w, q] ⟨p, l, q, w, z, ⟨lim, [], 1, false, 0⟩, mo, ca, []⟩ [⟨p1, d1, e1, o1.q, o1.c, o1.g, Ib.new o1.n, [], false⟩, ⟨p2, d2, e2, o2.q, o2.c, o2.g, Ib.new o2.n, [], false⟩] 0 H := by
  have ne := nd_ne (n := 19) nd rfl
  have dis := fun (X Y : List Nat) => nd_dis (n := 19) nd rfl (A := X) (B := Y)
  have mem := fun (X : List Nat) => nd_mem (L := [N, e2, d2, p2, e1, d1, p1, o2.g, o2.c, o2.q, o1.g, o1.c, o1.q, R, l, p, z, w, q]) (n := 19) rfl (A := X)
  have seen : ∀ {c : Addr}, H c = some (.dK []) → SeenAt H c [] := fun h => ⟨[], h, rfl, List.nodup_nil, fun o => by rw [if_neg (by simp)]; rfl⟩
  have r1 : Rw C Cs (rst a [N, e2, d2, p2, e1, d1, p1, o2.g, o2.c, o2.q, o1.g, o1.c, o1.q, R, l, p, z, w, q] e1) [] ⟨p1, d1, e1, o1.q, o1.c, o1.g, Ib.new o1.n, [], false⟩ H := by
    have up : ∀ {b}, b ∈ [N, e2, d2, p2, e1, d1, p1, o2.g, o2.c, o2.q, o1.g, o1.c, o1.q, R, l, p, z, w, q] → b ≠ e1 → b ∈ rst a [N, e2, d2, p2, e1, d1, p1, o2.g, o2.c, o2.q, o1.g, o1.c, o1.q, R, l, p, z, w, q] e1 := fun h n => mem_rst.mpr ⟨.inr h, n⟩
    refine ⟨I1.less (fun b hb => ?_) (up (by simp) (ne 6 4 (by decide) (by decide) (by decide))) (up (by simp) (ne 5 4 (by decide) (by decide) (by decide))), O1.q, seen O1.c, O1.g, RelR.new, ⟨up (by simp) (ne 12 4 (by decide) (by decide) (by decide)), up (by simp) (ne 11 4 (by decide) (by decide) (by decide)), up (by simp) (ne 10 4 (by decide) (by decide) (by decide))⟩, ⟨ne 5 12 (by decide) (by decide) (by decide), ne 5 11 (by decide) (by decide) (by decide), ne 12 11 (by decide) (by decide) (by decide)⟩⟩
    obtain ⟨h1, h2⟩ := mem_rst.mp hb
    simp only [List.mem_cons, List.not_mem_nil, or_false] at h1 ⊢
    rcases h1 with h | h | h | h | h | h | h | h | h | h | h | h | h | h | h | h | h | h | h | h <;> first | exact absurd h h2 | simp [h]
  have r2 : Rw C Cs (rst a [N, e2, d2, p2, e1, d1, p1, o2.g, o2.c, o2.q, o1.g, o1.c, o1.q, R, l, p, z, w, q] e2) [] ⟨p2, d2, e2, o2.q, o2.c, o2.g, Ib.new o2.n, [], false⟩ H := by
    have up : ∀ {b}, b ∈ [N, e2, d2, p2, e1, d1, p1, o2.g, o2.c, o2.q, o1.g, o1.c, o1.q, R, l, p, z, w, q] → b ≠ e2 → b ∈ rst a [N, e2, d2, p2, e1, d1, p1, o2.g, o2.c, o2.q, o1.g, o1.c, o1.q, R, l, p, z, w, q] e2 := fun h n => mem_rst.mpr ⟨.inr h, n⟩
    refine ⟨I2.less (fun b hb => ?_) (up (by simp) (ne 3 1 (by decide) (by decide) (by decide))) (up (by simp) (ne 2 1 (by decide) (by decide) (by decide))), O2.q, seen O2.c, O2.g, RelR.new, ⟨up (by simp) (ne 9 1 (by decide) (by decide) (by decide)), up (by simp) (ne 8 1 (by decide) (by decide) (by decide)), up (by simp) (ne 7 1 (by decide) (by decide) (by decide))⟩, ⟨ne 2 9 (by decide) (by decide) (by decide), ne 2 8 (by decide) (by decide) (by decide), ne 9 8 (by decide) (by decide) (by decide)⟩⟩
    obtain ⟨h1, h2⟩ := mem_rst.mp hb
    simp only [List.mem_cons, List.not_mem_nil, or_false] at h1 ⊢
    rcases h1 with h | h | h | h | h | h | h | h | h | h | h | h | h | h | h | h | h | h | h | h <;> first | exact absurd h h2 | simp [h]
  have one : ∀ {b x : Addr}, b ∉ [x] → b ≠ x := fun h e => h (by rw [e]; exact List.mem_cons_self)
  refine ⟨B, al, ⟨O, ⟨hq, hw⟩, ⟨[], hz, rfl, (fun i t pc h => nomatch h)⟩, (fun pc h => nomatch h), Bytes.nil, by show (1 : Int) + 0 - 1 ≤ lim; omega, ⟨mc.1, mc.2.1, Nat.zero_le _, mc.2.2⟩, ⟨ne 14 17 (by decide) (by decide) (by decide), ne 14 16 (by decide) (by decide) (by decide), ne 17 16 (by decide) (by decide) (by decide)⟩⟩, fun i o h => ?_, fun i j x y n h g => ?_, fun i x h => ?_, fun b hb => ⟨mem [15, 14, 18, 17, 16] (by decide) b hb, one (dis [15, 14, 18, 17, 16] [13] (by decide) (by decide) (by decide) b hb), one (dis [15, 14, 18, 17, 16] [0] (by decide) (by decide) (by decide) b hb)⟩, fun i x h => ?_, hR, hN, ⟨by simp, by simp⟩, Nat.zero_le _⟩
  · match i, h with
    | 0, h => cases h; exact ⟨r1, Int.le_refl _, fun z => nomatch z⟩
    | 1, h => cases h; exact ⟨r2, Int.le_refl _, fun z => nomatch z⟩
    | _ + 2, h => cases h
  · match i, j, h, g with
    | 0, 0, _, _ => exact absurd rfl n
    | 1, 1, _, _ => exact absurd rfl n
    | 0, 1, h, g => cases h; cases g; exact dis [6, 5, 4, 12, 11, 10] [3, 2, 1, 9, 8, 7] (by decide) (by decide) (by decide)
    | 1, 0, h, g => cases h; cases g; exact dis [3, 2, 1, 9, 8, 7] [6, 5, 4, 12, 11, 10] (by decide) (by decide) (by decide)
    | _ + 2, _, h, _ => cases h
    | 0, _ + 2, _, g => cases g
    | 1, _ + 2, _, g => cases g
  · match i, h with
    | 0, h => cases h; exact fun b hb => ⟨dis [6, 5, 4, 12, 11, 10] [15, 14, 18, 17, 16] (by decide) (by decide) (by decide) b hb, one (dis [6, 5, 4, 12, 11, 10] [13] (by decide) (by decide) (by decide) b hb), one (dis [6, 5, 4, 12, 11, 10] [0] (by decide) (by decide) (by decide) b hb)⟩
    | 1, h => cases h; exact fun b hb => ⟨dis [3, 2, 1, 9, 8, 7] [15, 14, 18, 17, 16] (by decide) (by decide) (by decide) b hb, one (dis [3, 2, 1, 9, 8, 7] [13] (by decide) (by decide) (by decide) b hb), one (dis [3, 2, 1, 9, 8, 7] [0] (by decide) (by decide) (by decide) b hb)⟩
    | _ + 2, h => cases h
  · match i, h with
    | 0, h => cases h; exact fun b hb => mem [6, 5, 4, 12, 11, 10] (by decide) b hb
    | 1, h => cases h; exact fun b hb => mem [3, 2, 1, 9, 8, 7] (by decide) b hb
    | _ + 2, h => cases h
/-! ### the law -/
def sp_law (K : PySem.W.Frag) : Sp := fun vs H Q _ => ∃ (a : Addr) (ns : List Int), vs = [.ref a] ∧ SqL K H a (ns.map V.int) ∧ ns.length ≤ 63 ∧ ∀ H', Q (.bl true) H'
def kv7 (w z : Addr) (mo ca : Nat) : List (Key × V) := [(.inr "written", .ref w), (.inr "base", .int 1), (.inr "urgent", .int 0), (.inr "closed", .bl false), (.inr "pieces", .ref z), (.inr "most", .int mo), (.inr "cap", .int ca)]
set_option maxHeartbeats 0 in
set_option pp.maxSteps 150 in
theorem ok_law (T : Txt K mg) : FnOk P w K mg base CX0 12 T.a_law T.fd_law ["script"] (sp_law K) := by
  have S := sc_law
  refine T.F_law.ok S (fun vs H Q E h => ?_) (fun cdv A outer s H vs Q E hr h => ?_)
  · obtain ⟨s, ns, rfl, _⟩ := h
    rfl
  · obtain ⟨s, ns0, rfl, hS, _, k⟩ := h
    refine ⟨_, (pss_cons (ps_set (i := 1) S.nd rfl (Or.inr rfl) (pe_call (ok__law_box T) (hr.mono (by decide)) rfl T.g__law_box T.F__law_box.kp T.B__law_box .nil pass0 (pa_cons (pv 0) pa_nil)))
      (pss_cons (ps_set (i := 2) S.nd rfl (Or.inl rfl) (pe_op op_add pe_int (pe_call (ok__law_draw T) (hr.mono (by decide)) rfl T.g__law_draw T.F__law_draw.kp T.B__law_draw .nil pass0 (pa_cons (pv 1) (pa_cons pe_int pa_nil)))))
      (pss_cons (ps_set (i := 3) S.nd rfl (Or.inr rfl) pe_int)
      (pss_cons (ps_set (i := 4) S.nd rfl (Or.inr rfl) pe_int)
      (pss_cons (ps_set (i := 5) S.nd rfl (Or.inl rfl) (pe_disp (pps_cons pe_str (pe_lst pa_nil) (pps_cons pe_str pe_int (pps_cons pe_str pe_int (pps_cons pe_str pe_bl (pps_cons pe_str (pe_lst pa_nil) (pps_cons pe_str pe_int (pps_cons pe_str pe_int pps_nil))))))) rfl rfl (by simp) (by decide)))
      (C8.pss_cut (ps_if (pt_cmpR op_eq (pe_call (ok__law_draw T) (hr.mono (by decide)) rfl T.g__law_draw T.F__law_draw.kp T.B__law_draw .nil pass0 (pa_cons (pv 1) (pa_cons pe_int pa_nil))) pe_int (nomark _)) (pss_cons (ps_set (i := 3) S.nd rfl (Or.inr rfl) pe_int)
      (pss_cons (ps_set (i := 4) S.nd rfl (Or.inr rfl) pe_int)
      (pss_cons (ps_dput (room_u1 hr) (pv 5) pe_str pe_int rfl)
      (pss_one (ps_dput (room_u1 hr) (pv 5) pe_str pe_int rfl))))) pss_nil)
      (pss_cons (ps_dput (room_u1 hr) (pv 5) pe_str (pe_op op_add (pv 3) (pe_call (ok__law_draw T) (hr.mono (by decide)) rfl T.g__law_draw T.F__law_draw.kp T.B__law_draw .nil pass0 (pa_cons (pv 1) (pa_cons (pv 4) pa_nil)))) rfl)
      (pss_cons (ps_set (i := 6) S.nd rfl (Or.inl rfl) (pe_make T.M_Outbox (ok_Outbox_init_ T) (hr.mono (by decide)) rfl T.g_Outbox T.B_Outbox_init_ .nil passL (pa_cons (pe_dget (room_u1 hr) (pv 5) pe_str (fun _ _ => rfl)) pa_nil)))
      (pss_cons (ps_setLc (i := 8) (own := [("k", 7)]) (g := gName 7) (tt := tYes) rfl S.nd rfl rfl (sw_true rfl rfl rfl (by decide +kernel)) (pi_range1 (by rfl) T.b_range (pa_cons pe_int pa_nil)) (blkOk_by (N := ["script", "box", "many", "least", "wide", "sender", "outbox", "k", "receivers", "inboxes", "which"]) (sc := defScope s_law) (by decide +kernel)) (fun _ _ _ _ _ => pg_name (i := 7) S.nd rfl (Or.inl rfl)) (fun _ _ _ _ _ => pts_nil) (fun _ _ _ _ _ => (pe_call (ok__law_receiver T) (hr.mono (by decide)) rfl T.g__law_receiver T.F__law_receiver.kp T.B__law_receiver .nil pass0 (pa_cons (pe_op op_add (pv 3) (pe_call (ok__law_draw T) (hr.mono (by decide)) rfl T.g__law_draw T.F__law_draw.kp T.B__law_draw .nil pass0 (pa_cons (pv 1) (pa_cons (pv 4) pa_nil)))) pa_nil))))
      (pss_cons (ps_set (i := 9) S.nd rfl (Or.inl rfl) (pe_lst (pa_cons (pe_make T.M_Inbox (ok_Inbox_init_ T) (hr.mono (by decide)) rfl T.g_Inbox T.B_Inbox_init_ .nil passL (pa_cons (pe_dget (room_u1 hr) (pe_ix ix_list (pv 8) pe_int (fun _ _ => rfl)) pe_str (fun _ _ => rfl)) pa_nil)) (pa_cons (pe_make T.M_Inbox (ok_Inbox_init_ T) (hr.mono (by decide)) rfl T.g_Inbox T.B_Inbox_init_ .nil passL (pa_cons (pe_dget (room_u1 hr) (pe_ix ix_list (pv 8) pe_int (fun _ _ => rfl)) pe_str (fun _ _ => rfl)) pa_nil)) pa_nil))))
      (pss_cons (ps_for PassesOwn.never rfl (pi_range1 (by rfl) T.b_range (pa_cons (pv 2) pa_nil)) (pg_name (i := 7) S.nd rfl (Or.inl rfl)) (pss_cons (ps_if (pt_not (pt_val (pe_call (ok__law_deed T) (hr.mono (by decide)) rfl T.g__law_deed T.F__law_deed.kp T.B__law_deed .nil pass0 (pa_cons (pv 1) (pa_cons (pv 6) (pa_cons (pv 5) (pa_cons (pv 9) (pa_cons (pv 8) pa_nil)))))))) (pss_one (ps_ret pe_bl)) pss_nil)
      (pss_one (ps_if (pt_cmpR op_eq (pe_call (ok__law_draw T) (hr.mono (by decide)) rfl T.g__law_draw T.F__law_draw.kp T.B__law_draw .nil pass0 (pa_cons (pv 1) (pa_cons pe_int pa_nil))) pe_int (nomark _)) (pss_cons (ps_set (i := 10) S.nd rfl (Or.inl rfl) (pe_op op_mod (pe_callTy (T := "int") call_int1 (by rfl) T.b_int (by decide +kernel) (pa_cons (pv 7) pa_nil)) pe_int))
      (pss_one (ps_if (PW.pt (pw_or (pt_not (pt_val (pe_call (ok__law_sender_is T) (hr.mono (by decide)) rfl T.g__law_sender_is T.F__law_sender_is.kp T.B__law_sender_is .nil pass0 (pa_cons (pv 6) (pa_cons (pv 5) pa_nil))))) (pw_or1 (pt_not (pt_val (pe_call (ok__law_receiver_is T) (hr.mono (by decide)) rfl T.g__law_receiver_is T.F__law_receiver_is.kp T.B__law_receiver_is .nil pass0 (pa_cons (pe_ix ix_list (pv 9) (pv 10) (fun _ _ => rfl)) (pa_cons (pe_ix ix_list (pv 8) (pv 10) (fun _ _ => rfl)) (pa_cons (pv 5) pa_nil))))))))) (pss_one (ps_ret pe_bl)) pss_nil))) pss_nil))))
      (pss_cons (ps_for PassesOwn.never rfl (pi_range1 (by rfl) T.b_range (pa_cons pe_int pa_nil)) (pg_name (i := 7) S.nd rfl (Or.inl rfl)) (pss_cons (ps_if (pt_not (pt_val (pe_call (ok__law_receiver_is T) (hr.mono (by decide)) rfl T.g__law_receiver_is T.F__law_receiver_is.kp T.B__law_receiver_is .nil pass0 (pa_cons (pe_ix ix_list (pv 9) (pv 7) (fun _ _ => rfl)) (pa_cons (pe_ix ix_list (pv 8) (pv 7) (fun _ _ => rfl)) (pa_cons (pv 5) pa_nil)))))) (pss_one (ps_ret pe_bl)) pss_nil)
      (pss_one (ps_if (pt_not (pt_val (pe_call (ok__law_brings_all T) (hr.mono (by decide)) rfl T.g__law_brings_all T.F__law_brings_all.kp T.B__law_brings_all .nil pass0 (pa_cons (pv 6) (pa_cons (pe_ix ix_list (pv 9) (pv 7) (fun _ _ => rfl)) (pa_cons (pe_ix ix_list (pv 8) (pv 7) (fun _ _ => rfl)) (pa_cons (pv 5) pa_nil))))))) (pss_one (ps_ret pe_bl)) pss_nil))))
      (pss_cons (ps_if (PW.pt (pw_or (pt_not (pt_val (pe_call (ok__law_releases T) (hr.mono (by decide)) rfl T.g__law_releases T.F__law_releases.kp T.B__law_releases .nil pass0 (pa_cons (pv 6) (pa_cons (pv 5) (pa_cons (pv 8) pa_nil)))))) (pw_or1 (pt_not (pt_val (pe_call (ok__law_sender_is T) (hr.mono (by decide)) rfl T.g__law_sender_is T.F__law_sender_is.kp T.B__law_sender_is .nil pass0 (pa_cons (pv 6) (pa_cons (pv 5) pa_nil)))))))) (pss_one (ps_ret pe_bl)) pss_nil)
      (pss_one (ps_ret (pe_and (pe_cmpR op_eq (pe_fld (pv 6) rfl) (pe_fld (pv 6) rfl) (nomark _)) (pe_one (pe_cmpR op_eq (pe_prop (pv 6) T.cl_Outbox T.PR_Outbox_free (ok_Outbox_free T) (hr.mono (by decide)) T.B_Outbox_free .nil pass0 rfl) (pe_dget (room_u1 hr) (pv 5) pe_str (fun _ _ => rfl)) (nomark _))))))))))))))))))), ?_⟩
    refine st_law ?_
    o_args
    refine ⟨s, ns0, rfl, hS, fun a H1 na s1 B1 => ?_⟩
    have B1 := B1 [] Al.nil
    o_args
    refine ⟨a, [], _, rfl, B1, by decide, by decide, fun mm H2 m0 m1 B2 c2 => ?_⟩
    clear B1 s1 na c2
    o_args
    intro q nq
    have s3 := Same.new (o := .dK []) nq
    have h3 : upd H2 q (.dK []) q = some (.dK []) := upd_same
    generalize upd H2 q (.dK []) = H3 at s3 h3
    have B3 := B2.own nq s3
    o_args
    refine newList (by simp) fun w H4 nw s4 h4 => ?_
    have B4 := B3.own nw s4
    o_args
    refine newList (by simp) fun z H5 nz s5 h5 => ?_
    have B5 := B4.own nz s5
    o_args
    have hq5 := (s4.trans s5) _ _ h3
    have hw5 := s5 _ _ h4
    refine ⟨hq5, kv7 w z 12 60, rfl, Nat.le_of_ble_eq_true rfl, ?_⟩
    rw [show mergeK [] (kv7 w z 12 60) = kv7 w z 12 60 by with_unfolding_all rfl]
    have s6 : SameX q H5 (upd H5 q (.dK (kv7 w z 12 60))) := SameX.upd
    have h6 : upd H5 q (.dK (kv7 w z 12 60)) q = some (.dK (kv7 w z 12 60)) := upd_same
    generalize upd H5 q (.dK (kv7 w z 12 60)) = H6 at s6 h6
    have wq : w ≠ q := fun e => by rw [e, h3] at nw; cases nw
    have zq : z ≠ q := fun e => by rw [e, s4 _ _ h3] at nz; cases nz
    have zw : z ≠ w := fun e => by rw [e, h4] at nz; cases nz
    have hw6 := s6 _ _ wq hw5
    have hz6 := s6 _ _ zq h5
    have B6 : Box a [z, w, q] H6 := B5.ch (Ch.ofX (a := q) (G := [q]) (by simp) s6 h6) (by simp)
    have nd6 : [z, w, q].Nodup := by simp [zw, zq, wq]
    clear B2 B3 B4 B5 s3 s4 s5 s6 h3 h4 h5 hq5 hw5 nq nw nz
    o_args
    refine ⟨fun σ H' => ∃ (le wi : Int) (mo ca : Nat), σ = [some (.ref s), some (.ref a), some (.int (10 + mm)), some (.int le), some (.int wi), some (.ref q), none, none, none, none, none] ∧ (1 ≤ le ∧ le ≤ 40 ∧ 1 ≤ wi ∧ wi ≤ 60) ∧ (6 ≤ mo ∧ mo ≤ 100 ∧ ca ≤ 400) ∧ H' q = some (.dK (kv7 w z mo ca)) ∧ Box a [z, w, q] H' ∧ Ch [a, q] H6 H', ?_, ?_⟩
    · o_args
      refine ⟨a, _, _, rfl, B6, by decide, by decide, fun x H7 x0 x1 B7 c7 => ?_⟩
      have na : ∀ {b}, b ∈ [z, w, q] → b ∉ [a] := fun h e => B6.nin (by rw [← List.mem_singleton.mp e]; exact h)
      have h7 := c7.at (na (by simp)) h6
      o_args
      refine brD (fun cc => ?_) (fun cc => ?_)
      · unfold kv7 at h7
        o_args
        refine dput (k := "most") (v := .int 100) (kvs' := kv7 w z 100 60) h7 (Nat.le_of_ble_eq_true rfl) (by with_unfolding_all rfl) fun H8 s8 h8 => ?_
        have h8' := h8
        unfold kv7 at h8'
        o_args
        refine dput (P := fun H' => ∃ (le wi : Int) (mo ca : Nat), ([some (.ref s), some (.ref a), some (.int (10 + mm)), some (.int 40), some (.int 60), some (.ref q), none, none, none, none, none] : L2.St) = [some (.ref s), some (.ref a), some (.int (10 + mm)), some (.int le), some (.int wi), some (.ref q), none, none, none, none, none] ∧ (1 ≤ le ∧ le ≤ 40 ∧ 1 ≤ wi ∧ wi ≤ 60) ∧ (6 ≤ mo ∧ mo ≤ 100 ∧ ca ≤ 400) ∧ H' q = some (.dK (kv7 w z mo ca)) ∧ Box a [z, w, q] H' ∧ Ch [a, q] H6 H') (k := "cap") (v := .int 400) (kvs' := kv7 w z 100 400) h8' (Nat.le_of_ble_eq_true rfl) (by with_unfolding_all rfl) fun H9 s9 h9 => ?_
        have c9 : Ch [q] H7 H9 := (Ch.ofX (by simp) s8 h8).trans (Ch.ofX (by simp) s9 h9)
        exact ⟨40, 60, 100, 400, rfl, by decide, by decide, h9, B7.ch c9 (by simp), (c7.more (by simp)).trans (c9.more (by simp))⟩
      · o_args
        exact ⟨1, 12, 12, 60, rfl, by decide, by decide, h7, B7, c7.more (by simp)⟩
    rintro σ H7 ⟨le, wi, mo, ca, rfl, ⟨le0, le1, wi0, wi1⟩, ⟨mo0, mo1, ca1⟩, h7, B7, c7⟩
    have na : ∀ {b}, b ∈ [z, w, q] → b ≠ a := fun h e => B6.nin (e ▸ h)
    have hw7 := c7.at (by simp [na (b := w) (by simp), wq]) hw6
    have hz7 := c7.at (by simp [na (b := z) (by simp), zq]) hz6
    clear B6 c7 h6 hw6 hz6
    o_args
    refine ⟨a, _, _, rfl, B7, by omega, by omega, fun li H8 li0 li1 B8 c8 => ?_⟩
    have h8 := c8.at (by simp [na (b := q) (by simp)]) h7
    unfold kv7 at h8
    obtain ⟨lim, elim⟩ : ∃ lim, le + li = lim := ⟨_, rfl⟩
    o_args
    rw [elim]
    refine dput (k := "limit") (v := .int lim) (kvs' := Sn.kvs ⟨q, q, q, w, z, ⟨lim, [], 1, false, 0⟩, mo, ca, []⟩) h8 (Nat.le_of_ble_eq_true rfl) (by with_unfolding_all rfl) fun H9 s9 h9 => ?_
    have c9 : Ch [q] H8 H9 := Ch.ofX (by simp) s9 h9
    have hw9 := s9 _ _ wq (c8.at (by simp [na (b := w) (by simp)]) hw7)
    have hz9 := s9 _ _ zq (c8.at (by simp [na (b := z) (by simp)]) hz7)
    have B9 := B8.ch c9 (by simp)
    have al9 : Al [z, w, q] H9 := .cons hz9 (.cons hw9 (.cons h9 .nil))
    have hq9 := h9
    unfold Sn.kvs at hq9
    clear h7 B7 hw7 hz7 c8 h8 B8 s9 c9 na
    o_args
    intro p dx hp hdx nd
    have sm : Same H9 (upd (upd H9 dx (.own p)) p (.ins T.c_Outbox dx [])) := fun b o hb => by rw [upd_ne (ne_of_none hb hp), upd_ne (ne_of_none hb hdx)]; exact hb
    have hpm : upd (upd H9 dx (.own p)) p (.ins T.c_Outbox dx []) p = some (.ins T.c_Outbox dx []) := upd_same
    generalize upd (upd H9 dx (.own p)) p (.ins T.c_Outbox dx []) = Hm at sm hpm
    refine ⟨p, dx, _, rfl, hpm, .inl ⟨lim, rfl, by omega, by omega, fun l H10 nl c10 O10 => ⟨rfl, ?_⟩⟩⟩
    have alm : Al [p, z, w, q] Hm := .cons hpm (al9.same sm)
    have np : p ∉ [z, w, q] := al9.new hp
    have nl' : l ∉ [p, z, w, q] := alm.new nl
    have Bm : Box a [l, p, z, w, q] Hm := ((B9.own hp sm).own nl (Same.refl _))
    have B10 := Bm.ch c10 (by simp)
    have pn : ∀ {b}, b ∈ [z, w, q] → b ∉ [p] := fun h e => np (by rw [← List.mem_singleton.mp e]; exact h)
    have h10 := c10.at (pn (by simp)) (sm _ _ h9)
    have hw10 := c10.at (pn (by simp)) (sm _ _ hw9)
    have hz10 := c10.at (pn (by simp)) (sm _ _ hz9)
    have al10 : Al [l, p, z, w, q] H10 := by
      obtain ⟨⟨_, e1⟩, e2, _⟩ := O10
      exact .cons e2 (.cons e1 (.cons hz10 (.cons hw10 (.cons h10 .nil))))
    have nd10 : [l, p, z, w, q].Nodup := List.nodup_cons.mpr ⟨nl', List.nodup_cons.mpr ⟨np, nd6⟩⟩
    clear Bm B9 sm hpm hp hdx nd dx alm al9 h9 hw9 hz9 c10 nl pn nd6 hq9
    o_args
    refine lcR2 (fun D i xs H' => ∃ os, xs = (os.map Ro.q).reverse ∧ os.length = i ∧ Rs a D [l, p, z, w, q] H10 os H') (fun D hD => ⟨[], rfl, rfl, B10.own hD (Same.new hD), .cons upd_same (al10.same (Same.new hD)), List.nodup_cons.mpr ⟨al10.new hD, nd10⟩, Ch.of (Same.new hD), fun _ h => nomatch h⟩) (fun D i xs H' hD hi h1 hl hp Y hY => ?_) (fun R xs H11 hR hR11 hl hp => ?_)
    · obtain ⟨os, ex, el, R⟩ := hp
      o_args
      refine ⟨a, _, _, rfl, R.b, by omega, by omega, fun x H3 x0 x1 B3 c3 => ?_⟩
      o_args
      refine ⟨_, rfl, by omega, by omega, fun o H4 nq nc ng ne en s4 h4 => ?_⟩
      o_args
      refine hY o.q H4 (s4 _ _ (c3.at (fun z => R.b.nin (by rw [← List.mem_singleton.mp z]; exact List.mem_append_right _ List.mem_cons_self)) h1)) ⟨o :: os, by rw [ex]; simp, by rw [List.length_cons, el], R.add B3 c3 nq nc ng ne s4 h4⟩
    obtain ⟨os, ex, el, Rr⟩ := hp
    obtain ⟨o2, o1, rfl⟩ : ∃ x y, os = [x, y] := by
      match os, el with
      | [x, y], _ => exact ⟨x, y, rfl⟩
    subst ex
    have hR11 : H11 R = some (.lst [.ref o1.q, .ref o2.q]) := hR11
    have B11 : Box a [o2.g, o2.c, o2.q, o1.g, o1.c, o1.q, R, l, p, z, w, q] H11 := Rr.b
    have al11 : Al [o2.g, o2.c, o2.q, o1.g, o1.c, o1.q, R, l, p, z, w, q] H11 := Rr.al
    have nd11 : [o2.g, o2.c, o2.q, o1.g, o1.c, o1.q, R, l, p, z, w, q].Nodup := Rr.nd
    have O1 := Rr.r o1 (by simp)
    have O2 := Rr.r o2 (by simp)
    have cR := Rr.c
    have old : ∀ {b}, b ∈ [l, p, z, w, q] → b ∉ [a, R] := fun {b} h e => by
      simp only [List.mem_cons, List.not_mem_nil, or_false] at e
      rcases e with e | e
      · exact B10.nin (e ▸ h)
      · exact al10.new hR (e ▸ h)
    have h11 := cR.at (old (by simp)) h10
    have hw11 := cR.at (old (by simp)) hw10
    have hz11 := cR.at (old (by simp)) hz10
    have OA := O10.ch cR (old (by simp)) (old (by simp))
    clear old cR Rr B10 al10 nd10 h10 hw10 hz10 O10 hR hl el
    have hq1 := O1.q
    unfold Ro.kvs at hq1
    o_args
    intro p1 dx1 hp1 hdx1 nd1
    have sm : Same H11 (upd (upd H11 dx1 (.own p1)) p1 (.ins T.c_Inbox dx1 [])) := fun b o hb => by rw [upd_ne (ne_of_none hb hp1), upd_ne (ne_of_none hb hdx1)]; exact hb
    have hpm : upd (upd H11 dx1 (.own p1)) p1 (.ins T.c_Inbox dx1 []) p1 = some (.ins T.c_Inbox dx1 []) := upd_same
    generalize upd (upd H11 dx1 (.own p1)) p1 (.ins T.c_Inbox dx1 []) = Hm at sm hpm
    refine ⟨p1, dx1, _, rfl, hpm, .inl ⟨o1.n, rfl, O1.n.1, by have := O1.n.2; omega, fun d1 e1 H12 nd_ ne_ c12 I12 => ⟨rfl, ?_⟩⟩⟩
    have la11 : ∀ {b}, b ∈ [o2.g, o2.c, o2.q, o1.g, o1.c, o1.q, R, l, p, z, w, q] → b ≠ a := fun h e => B11.nin (e ▸ h)
    obtain ⟨oa, hoa⟩ := B11.al
    have alm : Al [p1, a, o2.g, o2.c, o2.q, o1.g, o1.c, o1.q, R, l, p, z, w, q] Hm := .cons hpm (.cons (sm _ _ hoa) (al11.same sm))
    have np1 : p1 ∉ [o2.g, o2.c, o2.q, o1.g, o1.c, o1.q, R, l, p, z, w, q] := al11.new hp1
    have I1 := I12 _ alm (by simp)
    have de1 : e1 ≠ d1 := fun h => I1.ee.out (by rw [h]; exact List.mem_cons_self)
    have nd12 : [e1, d1, p1, o2.g, o2.c, o2.q, o1.g, o1.c, o1.q, R, l, p, z, w, q].Nodup := by
      refine List.nodup_cons.mpr ⟨fun h => ?_, List.nodup_cons.mpr ⟨fun h => ?_, List.nodup_cons.mpr ⟨np1, nd11⟩⟩⟩
      · rcases List.mem_cons.mp h with h | h
        · exact de1 h
        · exact alm.new ne_ (by rcases List.mem_cons.mp h with h | h; exact h ▸ List.mem_cons_self; exact List.mem_cons_of_mem _ (List.mem_cons_of_mem _ h))
      · exact alm.new nd_ (by rcases List.mem_cons.mp h with h | h; exact h ▸ List.mem_cons_self; exact List.mem_cons_of_mem _ (List.mem_cons_of_mem _ h))
    have pn : ∀ {b}, b ∈ [o2.g, o2.c, o2.q, o1.g, o1.c, o1.q, R, l, p, z, w, q] → b ∉ [p1] := fun h e => np1 (by rw [← List.mem_singleton.mp e]; exact h)
    have B12 : Box a [e1, d1, p1, o2.g, o2.c, o2.q, o1.g, o1.c, o1.q, R, l, p, z, w, q] H12 := (((B11.own hp1 sm).own nd_ (Same.refl _)).own ne_ (Same.refl _)).ch c12 (by simp)
    have h12 := c12.at (pn (by simp)) (sm _ _ h11)
    have hw12 := c12.at (pn (by simp)) (sm _ _ hw11)
    have hz12 := c12.at (pn (by simp)) (sm _ _ hz11)
    have hR12 := c12.at (pn (by simp)) (sm _ _ hR11)
    have OB := (OA.same sm).ch c12 (pn (by simp)) (pn (by simp))
    have O1b := (O1.ch (Ch.of (G := []) sm) (fun _ _ h => nomatch h)).ch c12 (fun b hb => pn (by simp only [Ro.fl, List.mem_cons, List.not_mem_nil, or_false] at hb ⊢; rcases hb with h | h | h <;> simp [h]))
    have O2b := (O2.ch (Ch.of (G := []) sm) (fun _ _ h => nomatch h)).ch c12 (fun b hb => pn (by simp only [Ro.fl, List.mem_cons, List.not_mem_nil, or_false] at hb ⊢; rcases hb with h | h | h <;> simp [h]))
    have al12 : Al [a, e1, d1, p1, o2.g, o2.c, o2.q, o1.g, o1.c, o1.q, R, l, p, z, w, q] H12 := fun b hb => by
      obtain ⟨_, e1'⟩ := I1.oo
      obtain ⟨_, e2', _⟩ := I1.dd
      obtain ⟨_, e3'⟩ := I1.ee.at_
      have al : ∀ {b}, b ∈ [p1, a, o2.g, o2.c, o2.q, o1.g, o1.c, o1.q, R, l, p, z, w, q] → H12 b ≠ none := fun h => c12.2 _ (alm _ h)
      rcases List.mem_cons.mp hb with h | hb
      · rw [h]; exact al (by simp)
      rcases List.mem_cons.mp hb with h | hb
      · rw [h, e3']; exact nofun
      rcases List.mem_cons.mp hb with h | hb
      · rw [h, e2']; exact nofun
      rcases List.mem_cons.mp hb with h | hb
      · rw [h]; exact al (by simp)
      exact al (List.mem_cons_of_mem _ (List.mem_cons_of_mem _ hb))
    clear hq1 sm hpm hp1 hdx1 nd1 dx1 I12 c12 pn la11 np1 nd_ ne_ alm B11 al11 nd11 h11 hw11 hz11 hR11 OA O1 O2 hoa de1
    have hq2 := O2b.q
    unfold Ro.kvs at hq2
    o_args
    intro p2 dx2 hp2 hdx2 nd2
    have sm : Same H12 (upd (upd H12 dx2 (.own p2)) p2 (.ins T.c_Inbox dx2 [])) := fun b o hb => by rw [upd_ne (ne_of_none hb hp2), upd_ne (ne_of_none hb hdx2)]; exact hb
    have hpm : upd (upd H12 dx2 (.own p2)) p2 (.ins T.c_Inbox dx2 []) p2 = some (.ins T.c_Inbox dx2 []) := upd_same
    generalize upd (upd H12 dx2 (.own p2)) p2 (.ins T.c_Inbox dx2 []) = Hm at sm hpm
    refine ⟨p2, dx2, _, rfl, hpm, .inl ⟨o2.n, rfl, O2b.n.1, by have := O2b.n.2; omega, fun d2 e2 H13 nd_ ne_ c13 I13 => ⟨rfl, ?_⟩⟩⟩
    have alm : Al [p2, a, e1, d1, p1, o2.g, o2.c, o2.q, o1.g, o1.c, o1.q, R, l, p, z, w, q] Hm := .cons hpm (al12.same sm)
    have np2 : p2 ∉ [a, e1, d1, p1, o2.g, o2.c, o2.q, o1.g, o1.c, o1.q, R, l, p, z, w, q] := al12.new hp2
    have I2 := I13 _ alm (by simp)
    have de2 : e2 ≠ d2 := fun h => I2.ee.out (by rw [h]; exact List.mem_cons_self)
    have nd13 : [e2, d2, p2, e1, d1, p1, o2.g, o2.c, o2.q, o1.g, o1.c, o1.q, R, l, p, z, w, q].Nodup := by
      refine List.nodup_cons.mpr ⟨fun h => ?_, List.nodup_cons.mpr ⟨fun h => ?_, List.nodup_cons.mpr ⟨fun h => np2 (List.mem_cons_of_mem _ h), nd12⟩⟩⟩
      · rcases List.mem_cons.mp h with h | h
        · exact de2 h
        · exact alm.new ne_ (by rcases List.mem_cons.mp h with h | h; exact h ▸ List.mem_cons_self; exact List.mem_cons_of_mem _ (List.mem_cons_of_mem _ h))
      · exact alm.new nd_ (by rcases List.mem_cons.mp h with h | h; exact h ▸ List.mem_cons_self; exact List.mem_cons_of_mem _ (List.mem_cons_of_mem _ h))
    have pn : ∀ {b}, b ∈ [a, e1, d1, p1, o2.g, o2.c, o2.q, o1.g, o1.c, o1.q, R, l, p, z, w, q] → b ∉ [p2] := fun h e => np2 (by rw [← List.mem_singleton.mp e]; exact h)
    have B13 : Box a [e2, d2, p2, e1, d1, p1, o2.g, o2.c, o2.q, o1.g, o1.c, o1.q, R, l, p, z, w, q] H13 := (((B12.own hp2 sm).own nd_ (Same.refl _)).own ne_ (Same.refl _)).ch c13 (by simp)
    have h13 := c13.at (pn (by simp)) (sm _ _ h12)
    have hw13 := c13.at (pn (by simp)) (sm _ _ hw12)
    have hz13 := c13.at (pn (by simp)) (sm _ _ hz12)
    have hR13 := c13.at (pn (by simp)) (sm _ _ hR12)
    have OC := (OB.same sm).ch c13 (pn (by simp)) (pn (by simp))
    have O1c := (O1b.ch (Ch.of (G := []) sm) (fun _ _ h => nomatch h)).ch c13 (fun b hb => pn (by simp only [Ro.fl, List.mem_cons, List.not_mem_nil, or_false] at hb ⊢; rcases hb with h | h | h <;> simp [h]))
    have O2c := (O2b.ch (Ch.of (G := []) sm) (fun _ _ h => nomatch h)).ch c13 (fun b hb => pn (by simp only [Ro.fl, List.mem_cons, List.not_mem_nil, or_false] at hb ⊢; rcases hb with h | h | h <;> simp [h]))
    have I1c := (((I1.own hp2 sm).own nd_ (Same.refl _)).own ne_ (Same.refl _)).ch c13 (by simp) (pn (by simp)) (pn (by simp))
    have al13 : Al [a, e2, d2, p2, e1, d1, p1, o2.g, o2.c, o2.q, o1.g, o1.c, o1.q, R, l, p, z, w, q] H13 := fun b hb => by
      obtain ⟨_, e1'⟩ := I2.oo
      obtain ⟨_, e2', _⟩ := I2.dd
      obtain ⟨_, e3'⟩ := I2.ee.at_
      have al : ∀ {b}, b ∈ [p2, a, e1, d1, p1, o2.g, o2.c, o2.q, o1.g, o1.c, o1.q, R, l, p, z, w, q] → H13 b ≠ none := fun h => c13.2 _ (alm _ h)
      rcases List.mem_cons.mp hb with h | hb
      · rw [h]; exact al (by simp)
      rcases List.mem_cons.mp hb with h | hb
      · rw [h, e3']; exact nofun
      rcases List.mem_cons.mp hb with h | hb
      · rw [h, e2']; exact nofun
      rcases List.mem_cons.mp hb with h | hb
      · rw [h]; exact al (by simp)
      exact al (List.mem_cons_of_mem _ (List.mem_cons_of_mem _ hb))
    clear hq2 sm hpm hp2 hdx2 nd2 dx2 I13 c13 pn np2 nd_ ne_ alm B12 al12 nd12 h12 hw12 hz12 hR12 OB O1b O2b I1 de2
    o_args
    refine newList (by simp) fun N H14 nN s14 h14 => ?_
    have al14 : Al (a :: [N, e2, d2, p2, e1, d1, p1, o2.g, o2.c, o2.q, o1.g, o1.c, o1.q, R, l, p, z, w, q]) H14 := fun b hb => by
      rcases List.mem_cons.mp hb with h | hb
      · rw [h]; exact (al13.same s14) a List.mem_cons_self
      rcases List.mem_cons.mp hb with h | hb
      · rw [h, h14]; exact nofun
      exact (al13.same s14) b (List.mem_cons_of_mem _ hb)
    have nd14 : [N, e2, d2, p2, e1, d1, p1, o2.g, o2.c, o2.q, o1.g, o1.c, o1.q, R, l, p, z, w, q].Nodup := List.nodup_cons.mpr ⟨fun h => al13.new nN (List.mem_cons_of_mem _ h), nd13⟩
    have W := Wo.start (C := T.c_Inbox) (Cs := T.c_Spans) (Co := T.c_Outbox) (mo := mo) (ca := ca) (lim := lim) (B13.own nN s14) al14 nd14 (OC.same s14) (s14 _ _ h13) (s14 _ _ hw13) (s14 _ _ hz13) (I1c.own nN s14) (I2.own nN s14) (O1c.ch (Ch.of (G := []) s14) (fun _ _ h => nomatch h)) (O2c.ch (Ch.of (G := []) s14) (fun _ _ h => nomatch h)) (s14 _ _ hR13) h14 ⟨mo0, mo1, ca1⟩ (by omega)
    obtain ⟨L, eL⟩ : ∃ L, L = [N, e2, d2, p2, e1, d1, p1, o2.g, o2.c, o2.q, o1.g, o1.c, o1.q, R, l, p, z, w, q] := ⟨_, rfl⟩
    obtain ⟨s0, es⟩ : ∃ s0 : Sn, s0 = ⟨p, l, q, w, z, ⟨lim, [], 1, false, 0⟩, mo, ca, []⟩ := ⟨_, rfl⟩
    obtain ⟨rs, er⟩ : ∃ rs : List Rv, rs = [⟨p1, d1, e1, o1.q, o1.c, o1.g, Ib.new o1.n, [], false⟩, ⟨p2, d2, e2, o2.q, o2.c, o2.g, Ib.new o2.n, [], false⟩] := ⟨_, rfl⟩
    rw [← eL, ← es, ← er] at W
    have ep : s0.p = p := by rw [es]
    have eq : s0.q = q := by rw [es]
    have rl : rs.length = 2 := by rw [er]; rfl
    clear al14 nd14 B13 OC h13 hw13 hz13 I1c I2 O1c O2c hR13 h14 s14 nN al13 nd13 er es eL
    o_args
    refine ⟨by omega, by omega, for_rangeK (fun i σ H' => ∃ v7 v10 L s' rs, σ = [some (.ref s), some (.ref a), some (.int (10 + mm)), some (.int le), some (.int wi), some (.ref q), some (.ref p), v7, some (.ref R), some (.ref N), v10] ∧ s'.p = p ∧ s'.q = q ∧ rs.length = 2 ∧ Wo T.c_Inbox T.c_Spans T.c_Outbox a R N L s' rs i H') ⟨none, none, L, s0, rs, rfl, ep, eq, rl, W⟩ (fun i σ H6 hi h => ?_) (fun σ H6 h => ?_)⟩
    · clear W ep eq rl
      obtain ⟨v7, v10, L, s', rs, rfl, ep, eq, rl, W⟩ := h
      have hi : (i : Int) < 10 + mm := by omega
      o_args
      refine ⟨a, R, N, L, s', rs, i, by rw [ep, eq]; rfl, W, rl, by omega, fun L' s2 rs' H7 W7 e1' e2' rl7 => ?_⟩
      clear W
      o_args
      refine ⟨a, _, _, rfl, W7.b, by decide, by decide, fun x H8 x0 x1 B8 c8 => ?_⟩
      have W8 := W7.box B8 c8
      clear W7 B8 c8
      o_args
      refine brD (fun cc => ?_) (fun cc => ?_)
      · obtain ⟨j, ej⟩ : ∃ j : Nat, (0 + (i : Int)) % 2 = j := ⟨((0 + (i : Int)) % 2).toNat, by omega⟩
        obtain ⟨o, ho⟩ : ∃ o, rs'[j]? = some o := ⟨_, List.getElem?_eq_getElem (by omega)⟩
        have cl : s2.B.con.length ≤ 400 := by have := W8.sd.mc; omega
        o_args
        refine ⟨s2, by rw [e1', e2', ep, eq]; rfl, W8.sd, fun H9 s9 => ?_⟩
        have W9 := W8.same s9
        clear W8 s9
        o_args
        rw [ej]
        refine ixL W9.ln (v := .ref o.p) (by rw [List.getElem?_map, ho]; rfl) ?_
        o_args
        refine ixL W9.lr (v := .ref o.q) (by rw [List.getElem?_map, ho]; rfl) ?_
        o_args
        refine ⟨_, s2, o, by rw [e2', eq]; rfl, (W9.r j o ho).1, cl, W9.sd.a, fun H10 s10 => ?_⟩
        o_args
        exact ⟨_, _, L', s2, rs', rfl, e1'.trans ep, e2'.trans eq, rl7, W9.same s10⟩
      · o_args
        exact ⟨_, _, L', s2, rs', rfl, e1'.trans ep, e2'.trans eq, rl7, W8⟩
    · clear W ep eq rl
      obtain ⟨v7, v10, L, s', rs, rfl, ep, eq, rl, W⟩ := h
      have W : Wo T.c_Inbox T.c_Spans T.c_Outbox a R N L s' rs 50 H6 := W.more (by omega)
      o_args
      refine ⟨by decide, by decide, for_rangeK (fun i σ H' => ∃ v7 v10 L s' rs, σ = [some (.ref s), some (.ref a), some (.int (10 + mm)), some (.int le), some (.int wi), some (.ref q), some (.ref p), v7, some (.ref R), some (.ref N), v10] ∧ s'.p = p ∧ s'.q = q ∧ rs.length = 2 ∧ Wo T.c_Inbox T.c_Spans T.c_Outbox a R N L s' rs 50 H' ∧ ∀ j : Nat, j < i → ∃ o, rs[j]? = some o ∧ o.B.nx = 1 + (s'.B.con.length : Int)) ⟨v7, v10, L, s', rs, rfl, ep, eq, rl, W, fun j h => absurd h (Nat.not_lt_zero _)⟩ (fun i σ H7 hi h => ?_) (fun σ H7 h => ?_)⟩
      · clear W ep eq rl
        obtain ⟨v7, v10, L, s', rs, rfl, ep, eq, rl, W, all⟩ := h
        have hi : i < 2 := hi
        have e0 : (0 : Int) + (i : Int) = (i : Int) := by omega
        obtain ⟨o, ho⟩ : ∃ o, rs[i]? = some o := ⟨_, List.getElem?_eq_getElem (by omega)⟩
        have cl : s'.B.con.length ≤ 400 := by have := W.sd.mc; omega
        o_args
        rw [e0]
        refine ixL W.ln (v := .ref o.p) (by rw [List.getElem?_map, ho]; rfl) ?_
        o_args
        refine ixL W.lr (v := .ref o.q) (by rw [List.getElem?_map, ho]; rfl) ?_
        o_args
        refine ⟨_, s', o, by rw [eq]; rfl, (W.r i o ho).1, cl, W.sd.a, fun H8 s8 => ?_⟩
        have W8 := W.same s8
        clear W s8
        o_args
        refine ixL W8.ln (v := .ref o.p) (by rw [List.getElem?_map, ho]; rfl) ?_
        o_args
        refine ixL W8.lr (v := .ref o.q) (by rw [List.getElem?_map, ho]; rfl) ?_
        o_args
        refine ⟨a, R, N, L, s', rs, 50, i, o, by rw [ep, eq]; rfl, W8, ho, fun L' rs' H9 o' W9 rl9 oth ho' en => ?_⟩
        o_args
        refine ⟨_, _, L', { s' with B := { s'.B with closed := true } }, rs', rfl, ep, eq, by omega, W9, fun j hj => ?_⟩
        by_cases c : j = i
        · rw [c]; exact ⟨o', ho', en⟩
        · rw [oth j c]; exact all j (by omega)
      · clear W ep eq rl
        obtain ⟨v7, v10, L, s', rs, rfl, ep, eq, rl, W, all⟩ := h
        obtain ⟨x, y, rfl⟩ : ∃ x y, rs = [x, y] := by
          match rs, rl with
          | [x, y], _ => exact ⟨x, y, rfl⟩
        obtain ⟨_, hx, nx⟩ := all 0 (by decide)
        obtain ⟨_, hy, ny⟩ := all 1 (by decide)
        cases hx
        cases hy
        o_args
        refine ⟨a, R, N, L, s', _, 50, x, y, by rw [ep, eq]; rfl, W, rfl, fun m H8 em W8 => ?_⟩
        o_args
        refine ⟨_, by show _ = [V.ref s'.p, V.ref s'.q]; rw [ep, eq]; rfl, W8.sd, fun H9 s9 => ?_⟩
        have W9 := W8.same s9
        obtain ⟨⟨dxo, hpo⟩, _, ok⟩ := id W9.sd.o
        have hpo : H9 s'.p = _ := hpo
        rw [ep] at hpo
        have l1 := ok.l1
        have hq9 := W9.sd.a.1
        have hq9 : H9 s'.q = _ := hq9
        unfold Sn.kvs at hq9
        rw [eq] at hq9
        rw [nx, ny] at em
        o_args
        refine fget hpo T.cl_Outbox T.n_Outbox_base rfl ?_
        o_args
        refine fget hpo T.cl_Outbox T.n_Outbox_end rfl ?_
        o_args
        refine brDT (by show (m : Int) = 1 + (s'.B.con.length : Int); omega) ?_
        o_args
        refine ⟨p, dxo, _, rfl, hpo, s'.p, s'.l, _, by rw [ep], W9.sd.o, ?_⟩
        o_args
        rw [decide_eq_true (show Bx.spare { s'.B with base := m } = s'.B.lim by
          have l1 : 1 ≤ s'.B.lim := l1
          unfold Bx.spare
          show max 0 (s'.B.lim - (1 + (s'.B.con.length : Int) - (m : Int))) = s'.B.lim
          omega)]
        exact k _
end
set_option maxHeartbeats 0 in
theorem all_mk {l : PySem.W.OpenLaw} {w : World} {K : PySem.W.Frag} {h : Heap} {mg : Str → Option Value} {fa : Addr} (X : K.In h) (G : h.Ns mainGlobals mg) (hfa : mg "law" = some (.ref fa))
    {c_Spans c_Inbox c_Outbox c_LossError c_InvalidNumber c_InvalidSetting c_NotAllowed a_InvalidNumber_init_ a_InvalidSetting_init_ a_NotAllowed_init_ a_is_integer a_is_between a_is_at_least a_is_byte a_is_sequence a_require_data a_require_limit a_is_run a_joined a_missing a_common a_without a_Spans_init_ a_Spans_put a_Spans_drop a_Spans_holding a_Spans_gaps a_Spans_highest a_Inbox_init_ a_Inbox_limit p_Inbox_limit a_Inbox_limit_set a_Inbox_edge p_Inbox_edge a_Inbox_ready p_Inbox_ready a_Inbox_ended p_Inbox_ended a_Inbox_expected p_Inbox_expected a_Inbox_urgent_count p_Inbox_urgent_count a_Inbox_take a_Inbox_stop a_Inbox_move_on a_Inbox_finish a_Inbox_read a_Inbox_mark_urgent a_Outbox_init_ a_Outbox_limit p_Outbox_limit a_Outbox_limit_set a_Outbox_free p_Outbox_free a_Outbox_bound p_Outbox_bound a_Outbox_put a_Outbox_urge a_Outbox_shut a_Outbox_cut a_Outbox_release a__law_box a__law_draw a__law_is_whole a__law_bytes a__law_tuple_is a__law_receiver a__law_next a__law_sender_is a__law_receiver_is a__law_writes a__law_cuts a__law_arrives a__law_delivers a__law_reads a__law_releases a__law_deed a__law_brings_all a_law : Addr}
    {od_InvalidNumber_init_ an_InvalidNumber_init_ od_InvalidSetting_init_ an_InvalidSetting_init_ od_NotAllowed_init_ an_NotAllowed_init_ od_is_integer an_is_integer od_is_between an_is_between od_is_at_least an_is_at_least od_is_byte an_is_byte od_is_sequence an_is_sequence od_require_data an_require_data od_require_limit an_require_limit od_is_run an_is_run od_joined an_joined od_missing an_missing od_common an_common od_without an_without od_Spans_init_ an_Spans_init_ od_Spans_put an_Spans_put od_Spans_drop an_Spans_drop od_Spans_holding an_Spans_holding od_Spans_gaps an_Spans_gaps od_Spans_highest an_Spans_highest od_Inbox_init_ an_Inbox_init_ od_Inbox_limit an_Inbox_limit od_Inbox_limit_set an_Inbox_limit_set od_Inbox_edge an_Inbox_edge od_Inbox_ready an_Inbox_ready od_Inbox_ended an_Inbox_ended od_Inbox_expected an_Inbox_expected od_Inbox_urgent_count an_Inbox_urgent_count od_Inbox_take an_Inbox_take od_Inbox_stop an_Inbox_stop od_Inbox_move_on an_Inbox_move_on od_Inbox_finish an_Inbox_finish od_Inbox_read an_Inbox_read od_Inbox_mark_urgent an_Inbox_mark_urgent od_Outbox_init_ an_Outbox_init_ od_Outbox_limit an_Outbox_limit od_Outbox_limit_set an_Outbox_limit_set od_Outbox_free an_Outbox_free od_Outbox_bound an_Outbox_bound od_Outbox_put an_Outbox_put od_Outbox_urge an_Outbox_urge od_Outbox_shut an_Outbox_shut od_Outbox_cut an_Outbox_cut od_Outbox_release an_Outbox_release od__law_box an__law_box od__law_draw an__law_draw od__law_is_whole an__law_is_whole od__law_bytes an__law_bytes od__law_tuple_is an__law_tuple_is od__law_receiver an__law_receiver od__law_next an__law_next od__law_sender_is an__law_sender_is od__law_receiver_is an__law_receiver_is od__law_writes an__law_writes od__law_cuts an__law_cuts od__law_arrives an__law_arrives od__law_delivers an__law_delivers od__law_reads an__law_reads od__law_releases an__law_releases od__law_deed an__law_deed od__law_brings_all an__law_brings_all od_law an_law : Option Addr} {sl_InvalidNumber_init_ sl_InvalidSetting_init_ sl_NotAllowed_init_ sl_is_integer sl_is_between sl_is_at_least sl_is_byte sl_is_sequence sl_require_data sl_require_limit sl_is_run sl_joined sl_missing sl_common sl_without sl_Spans_init_ sl_Spans_put sl_Spans_drop sl_Spans_holding sl_Spans_gaps sl_Spans_highest sl_Inbox_init_ sl_Inbox_limit sl_Inbox_limit_set sl_Inbox_edge sl_Inbox_ready sl_Inbox_ended sl_Inbox_expected sl_Inbox_urgent_count sl_Inbox_take sl_Inbox_stop sl_Inbox_move_on sl_Inbox_finish sl_Inbox_read sl_Inbox_mark_urgent sl_Outbox_init_ sl_Outbox_limit sl_Outbox_limit_set sl_Outbox_free sl_Outbox_bound sl_Outbox_put sl_Outbox_urge sl_Outbox_shut sl_Outbox_cut sl_Outbox_release sl__law_box sl__law_draw sl__law_is_whole sl__law_bytes sl__law_tuple_is sl__law_receiver sl__law_next sl__law_sender_is sl__law_receiver_is sl__law_writes sl__law_cuts sl__law_arrives sl__law_delivers sl__law_reads sl__law_releases sl__law_deed sl__law_brings_all sl_law : Array (Option Value)}
    {oc_InvalidNumber_init_ kV_InvalidNumber_init_ dc_InvalidNumber_init_ pm_InvalidNumber_init_ cd_InvalidNumber_init_ ct_InvalidNumber_init_ oc_InvalidSetting_init_ kV_InvalidSetting_init_ dc_InvalidSetting_init_ pm_InvalidSetting_init_ cd_InvalidSetting_init_ ct_InvalidSetting_init_ oc_NotAllowed_init_ kV_NotAllowed_init_ dc_NotAllowed_init_ pm_NotAllowed_init_ cd_NotAllowed_init_ ct_NotAllowed_init_ oc_is_integer kV_is_integer dc_is_integer pm_is_integer cd_is_integer ct_is_integer oc_is_between kV_is_between dc_is_between pm_is_between cd_is_between ct_is_between oc_is_at_least kV_is_at_least dc_is_at_least pm_is_at_least cd_is_at_least ct_is_at_least oc_is_byte kV_is_byte dc_is_byte pm_is_byte cd_is_byte ct_is_byte oc_is_sequence kV_is_sequence dc_is_sequence pm_is_sequence cd_is_sequence ct_is_sequence oc_require_data kV_require_data dc_require_data pm_require_data cd_require_data ct_require_data oc_require_limit kV_require_limit dc_require_limit pm_require_limit cd_require_limit ct_require_limit oc_is_run kV_is_run dc_is_run pm_is_run cd_is_run ct_is_run oc_joined kV_joined dc_joined pm_joined cd_joined ct_joined oc_missing kV_missing dc_missing pm_missing cd_missing ct_missing oc_common kV_common dc_common pm_common cd_common ct_common oc_without kV_without dc_without pm_without cd_without ct_without oc_Spans_init_ kV_Spans_init_ dc_Spans_init_ pm_Spans_init_ cd_Spans_init_ ct_Spans_init_ oc_Spans_put kV_Spans_put dc_Spans_put pm_Spans_put cd_Spans_put ct_Spans_put oc_Spans_drop kV_Spans_drop dc_Spans_drop pm_Spans_drop cd_Spans_drop ct_Spans_drop oc_Spans_holding kV_Spans_holding dc_Spans_holding pm_Spans_holding cd_Spans_holding ct_Spans_holding oc_Spans_gaps kV_Spans_gaps dc_Spans_gaps pm_Spans_gaps cd_Spans_gaps ct_Spans_gaps oc_Spans_highest kV_Spans_highest dc_Spans_highest pm_Spans_highest cd_Spans_highest ct_Spans_highest oc_Inbox_init_ kV_Inbox_init_ dc_Inbox_init_ pm_Inbox_init_ cd_Inbox_init_ ct_Inbox_init_ oc_Inbox_limit kV_Inbox_limit dc_Inbox_limit pm_Inbox_limit cd_Inbox_limit ct_Inbox_limit oc_Inbox_limit_set kV_Inbox_limit_set dc_Inbox_limit_set pm_Inbox_limit_set cd_Inbox_limit_set ct_Inbox_limit_set oc_Inbox_edge kV_Inbox_edge dc_Inbox_edge pm_Inbox_edge cd_Inbox_edge ct_Inbox_edge oc_Inbox_ready kV_Inbox_ready dc_Inbox_ready pm_Inbox_ready cd_Inbox_ready ct_Inbox_ready oc_Inbox_ended kV_Inbox_ended dc_Inbox_ended pm_Inbox_ended cd_Inbox_ended ct_Inbox_ended oc_Inbox_expected kV_Inbox_expected dc_Inbox_expected pm_Inbox_expected cd_Inbox_expected ct_Inbox_expected oc_Inbox_urgent_count kV_Inbox_urgent_count dc_Inbox_urgent_count pm_Inbox_urgent_count cd_Inbox_urgent_count ct_Inbox_urgent_count oc_Inbox_take kV_Inbox_take dc_Inbox_take pm_Inbox_take cd_Inbox_take ct_Inbox_take oc_Inbox_stop kV_Inbox_stop dc_Inbox_stop pm_Inbox_stop cd_Inbox_stop ct_Inbox_stop oc_Inbox_move_on kV_Inbox_move_on dc_Inbox_move_on pm_Inbox_move_on cd_Inbox_move_on ct_Inbox_move_on oc_Inbox_finish kV_Inbox_finish dc_Inbox_finish pm_Inbox_finish cd_Inbox_finish ct_Inbox_finish oc_Inbox_read kV_Inbox_read dc_Inbox_read pm_Inbox_read cd_Inbox_read ct_Inbox_read oc_Inbox_mark_urgent kV_Inbox_mark_urgent dc_Inbox_mark_urgent pm_Inbox_mark_urgent cd_Inbox_mark_urgent ct_Inbox_mark_urgent oc_Outbox_init_ kV_Outbox_init_ dc_Outbox_init_ pm_Outbox_init_ cd_Outbox_init_ ct_Outbox_init_ oc_Outbox_limit kV_Outbox_limit dc_Outbox_limit pm_Outbox_limit cd_Outbox_limit ct_Outbox_limit oc_Outbox_limit_set kV_Outbox_limit_set dc_Outbox_limit_set pm_Outbox_limit_set cd_Outbox_limit_set ct_Outbox_limit_set oc_Outbox_free kV_Outbox_free dc_Outbox_free pm_Outbox_free cd_Outbox_free ct_Outbox_free oc_Outbox_bound kV_Outbox_bound dc_Outbox_bound pm_Outbox_bound cd_Outbox_bound ct_Outbox_bound oc_Outbox_put kV_Outbox_put dc_Outbox_put pm_Outbox_put cd_Outbox_put ct_Outbox_put oc_Outbox_urge kV_Outbox_urge dc_Outbox_urge pm_Outbox_urge cd_Outbox_urge ct_Outbox_urge oc_Outbox_shut kV_Outbox_shut dc_Outbox_shut pm_Outbox_shut cd_Outbox_shut ct_Outbox_shut oc_Outbox_cut kV_Outbox_cut dc_Outbox_cut pm_Outbox_cut cd_Outbox_cut ct_Outbox_cut oc_Outbox_release kV_Outbox_release dc_Outbox_release pm_Outbox_release cd_Outbox_release ct_Outbox_release oc__law_box kV__law_box dc__law_box pm__law_box cd__law_box ct__law_box oc__law_draw kV__law_draw dc__law_draw pm__law_draw cd__law_draw ct__law_draw oc__law_is_whole kV__law_is_whole dc__law_is_whole pm__law_is_whole cd__law_is_whole ct__law_is_whole oc__law_bytes kV__law_bytes dc__law_bytes pm__law_bytes cd__law_bytes ct__law_bytes oc__law_tuple_is kV__law_tuple_is dc__law_tuple_is pm__law_tuple_is cd__law_tuple_is ct__law_tuple_is oc__law_receiver kV__law_receiver dc__law_receiver pm__law_receiver cd__law_receiver ct__law_receiver oc__law_next kV__law_next dc__law_next pm__law_next cd__law_next ct__law_next oc__law_sender_is kV__law_sender_is dc__law_sender_is pm__law_sender_is cd__law_sender_is ct__law_sender_is oc__law_receiver_is kV__law_receiver_is dc__law_receiver_is pm__law_receiver_is cd__law_receiver_is ct__law_receiver_is oc__law_writes kV__law_writes dc__law_writes pm__law_writes cd__law_writes ct__law_writes oc__law_cuts kV__law_cuts dc__law_cuts pm__law_cuts cd__law_cuts ct__law_cuts oc__law_arrives kV__law_arrives dc__law_arrives pm__law_arrives cd__law_arrives ct__law_arrives oc__law_delivers kV__law_delivers dc__law_delivers pm__law_delivers cd__law_delivers ct__law_delivers oc__law_reads kV__law_reads dc__law_reads pm__law_reads cd__law_reads ct__law_reads oc__law_releases kV__law_releases dc__law_releases pm__law_releases cd__law_releases ct__law_releases oc__law_deed kV__law_deed dc__law_deed pm__law_deed cd__law_deed ct__law_deed oc__law_brings_all kV__law_brings_all dc__law_brings_all pm__law_brings_all cd__law_brings_all ct__law_brings_all oc_law kV_law dc_law pm_law cd_law ct_law : Value}
    {gx_Inbox_limit_set gx_Outbox_limit_set : Value}
    {rs_Inbox_limit rs_Inbox_limit_set rs_Inbox_edge rs_Inbox_ready rs_Inbox_ended rs_Inbox_expected rs_Inbox_urgent_count rs_Outbox_limit rs_Outbox_limit_set rs_Outbox_free rs_Outbox_bound : List Value}
    {xn_InvalidNumber xq_InvalidNumber : Str} {xN_InvalidNumber : Addr} {xb_InvalidNumber xm_InvalidNumber : List Value} {xs_InvalidNumber : List Str} {xu_InvalidNumber : List Value} {xa_InvalidNumber : Bool} {xo_InvalidNumber : _} {xd_InvalidNumber : Option Addr} {x0_InvalidNumber x1_InvalidNumber x2_InvalidNumber x3_InvalidNumber x5_InvalidNumber : Option Value}
    {xn_InvalidSetting xq_InvalidSetting : Str} {xN_InvalidSetting : Addr} {xb_InvalidSetting xm_InvalidSetting : List Value} {xs_InvalidSetting : List Str} {xu_InvalidSetting : List Value} {xa_InvalidSetting : Bool} {xo_InvalidSetting : _} {xd_InvalidSetting : Option Addr} {x0_InvalidSetting x1_InvalidSetting x2_InvalidSetting x3_InvalidSetting x5_InvalidSetting : Option Value}
    {xn_NotAllowed xq_NotAllowed : Str} {xN_NotAllowed : Addr} {xb_NotAllowed xm_NotAllowed : List Value} {xs_NotAllowed : List Str} {xu_NotAllowed : List Value} {xa_NotAllowed : Bool} {xo_NotAllowed : _} {xd_NotAllowed : Option Addr} {x0_NotAllowed x1_NotAllowed x2_NotAllowed x3_NotAllowed x5_NotAllowed : Option Value}
    (aC_Spans : PySem.W.nsIn K mainGlobals "Spans" = some (some (.ref c_Spans)))
    (pg_Spans : PySem.W.plainGet K c_Spans Str.empty = true)
    (hd_Spans : PySem.W.hasDictIn K c_Spans = true)
    (po_Spans : PySem.W.plainOver K c_Spans = true)
    (sa_Spans : PySem.W.findIn K (.ref c_Spans) "__setattr__" = some (some (.builtin "object.__setattr__")))
    (mk_Spans : PySem.W.makesIn K c_Spans = true)
    (kc_Spans : PySem.W.keepIn K (.ref c_Spans) = true)
    (n_Spans__runs : PySem.W.findIn K (.ref c_Spans) "_runs" = some none)
    (aC_Inbox : PySem.W.nsIn K mainGlobals "Inbox" = some (some (.ref c_Inbox)))
    (pg_Inbox : PySem.W.plainGet K c_Inbox Str.empty = true)
    (hd_Inbox : PySem.W.hasDictIn K c_Inbox = true)
    (po_Inbox : PySem.W.plainOver K c_Inbox = true)
    (sa_Inbox : PySem.W.findIn K (.ref c_Inbox) "__setattr__" = some (some (.builtin "object.__setattr__")))
    (mk_Inbox : PySem.W.makesIn K c_Inbox = true)
    (kc_Inbox : PySem.W.keepIn K (.ref c_Inbox) = true)
    (n_Inbox__limit : PySem.W.findIn K (.ref c_Inbox) "_limit" = some none)
    (n_Inbox_next_offset : PySem.W.findIn K (.ref c_Inbox) "next_offset" = some none)
    (n_Inbox_read_offset : PySem.W.findIn K (.ref c_Inbox) "read_offset" = some none)
    (n_Inbox_final : PySem.W.findIn K (.ref c_Inbox) "final" = some none)
    (n_Inbox_urgent_end : PySem.W.findIn K (.ref c_Inbox) "urgent_end" = some none)
    (n_Inbox__stored : PySem.W.findIn K (.ref c_Inbox) "_stored" = some none)
    (n_Inbox__ahead : PySem.W.findIn K (.ref c_Inbox) "_ahead" = some none)
    (n_Inbox__latest : PySem.W.findIn K (.ref c_Inbox) "_latest" = some none)
    (aC_Outbox : PySem.W.nsIn K mainGlobals "Outbox" = some (some (.ref c_Outbox)))
    (pg_Outbox : PySem.W.plainGet K c_Outbox Str.empty = true)
    (hd_Outbox : PySem.W.hasDictIn K c_Outbox = true)
    (po_Outbox : PySem.W.plainOver K c_Outbox = true)
    (sa_Outbox : PySem.W.findIn K (.ref c_Outbox) "__setattr__" = some (some (.builtin "object.__setattr__")))
    (mk_Outbox : PySem.W.makesIn K c_Outbox = true)
    (kc_Outbox : PySem.W.keepIn K (.ref c_Outbox) = true)
    (n_Outbox__limit : PySem.W.findIn K (.ref c_Outbox) "_limit" = some none)
    (n_Outbox_base : PySem.W.findIn K (.ref c_Outbox) "base" = some none)
    (n_Outbox_end : PySem.W.findIn K (.ref c_Outbox) "end" = some none)
    (n_Outbox_closed : PySem.W.findIn K (.ref c_Outbox) "closed" = some none)
    (n_Outbox_urgent_end : PySem.W.findIn K (.ref c_Outbox) "urgent_end" = some none)
    (n_Outbox__kept : PySem.W.findIn K (.ref c_Outbox) "_kept" = some none)
    (aC_LossError : PySem.W.nsIn K mainGlobals "LossError" = some (some (.ref c_LossError)))
    (aC_InvalidNumber : PySem.W.nsIn K mainGlobals "InvalidNumber" = some (some (.ref c_InvalidNumber)))
    (xl_InvalidNumber : K.lookup c_InvalidNumber = some (excClassObj xn_InvalidNumber xq_InvalidNumber c_InvalidNumber xN_InvalidNumber xb_InvalidNumber xm_InvalidNumber true xs_InvalidNumber xu_InvalidNumber xa_InvalidNumber xo_InvalidNumber xd_InvalidNumber x0_InvalidNumber x1_InvalidNumber x2_InvalidNumber x3_InvalidNumber x5_InvalidNumber "ValueError.__new__"))
    (sa_InvalidNumber : PySem.W.findIn K (.ref c_InvalidNumber) "__setattr__" = some (some (.builtin "object.__setattr__")))
    (xx_InvalidNumber : PySem.W.subIn K (.ref c_InvalidNumber) (.type "BaseException") = some true)
    (xt_InvalidNumber : PySem.W.typeIn K (.ref c_InvalidNumber) = some (.type "type"))
    (xk_InvalidNumber : PySem.W.keepIn K (.ref c_InvalidNumber) = true)
    (xi_InvalidNumber : PySem.W.findIn K (.ref c_InvalidNumber) "__init__" = some (some (.ref a_InvalidNumber_init_)))
    (xg_InvalidNumber : PySem.W.findIn K (.ref c_InvalidNumber) "__getattribute__" = some (some (.builtin "BaseException.__getattribute__")))
    (xh_InvalidNumber : PySem.W.findIn K (.ref c_InvalidNumber) "__getattr__" = some none)
    (xy_InvalidNumber : PySem.W.hasDictIn K c_InvalidNumber = true)
    (xc_InvalidNumber : PySem.W.findIn K (.ref c_InvalidNumber) "__class__" = some (some (.builtin "object.__class__")))
    (xr_InvalidNumber : PySem.W.mroIn K c_InvalidNumber (.type "object") = some true)
    (nX_InvalidNumber : PySem.W.findIn K (.ref c_InvalidNumber) "number" = some none)
    (aC_InvalidSetting : PySem.W.nsIn K mainGlobals "InvalidSetting" = some (some (.ref c_InvalidSetting)))
    (xl_InvalidSetting : K.lookup c_InvalidSetting = some (excClassObj xn_InvalidSetting xq_InvalidSetting c_InvalidSetting xN_InvalidSetting xb_InvalidSetting xm_InvalidSetting true xs_InvalidSetting xu_InvalidSetting xa_InvalidSetting xo_InvalidSetting xd_InvalidSetting x0_InvalidSetting x1_InvalidSetting x2_InvalidSetting x3_InvalidSetting x5_InvalidSetting "ValueError.__new__"))
    (sa_InvalidSetting : PySem.W.findIn K (.ref c_InvalidSetting) "__setattr__" = some (some (.builtin "object.__setattr__")))
    (xx_InvalidSetting : PySem.W.subIn K (.ref c_InvalidSetting) (.type "BaseException") = some true)
    (xt_InvalidSetting : PySem.W.typeIn K (.ref c_InvalidSetting) = some (.type "type"))
    (xk_InvalidSetting : PySem.W.keepIn K (.ref c_InvalidSetting) = true)
    (xi_InvalidSetting : PySem.W.findIn K (.ref c_InvalidSetting) "__init__" = some (some (.ref a_InvalidSetting_init_)))
    (xg_InvalidSetting : PySem.W.findIn K (.ref c_InvalidSetting) "__getattribute__" = some (some (.builtin "BaseException.__getattribute__")))
    (xh_InvalidSetting : PySem.W.findIn K (.ref c_InvalidSetting) "__getattr__" = some none)
    (xy_InvalidSetting : PySem.W.hasDictIn K c_InvalidSetting = true)
    (xc_InvalidSetting : PySem.W.findIn K (.ref c_InvalidSetting) "__class__" = some (some (.builtin "object.__class__")))
    (xr_InvalidSetting : PySem.W.mroIn K c_InvalidSetting (.type "object") = some true)
    (nX_InvalidSetting : PySem.W.findIn K (.ref c_InvalidSetting) "setting" = some none)
    (aC_NotAllowed : PySem.W.nsIn K mainGlobals "NotAllowed" = some (some (.ref c_NotAllowed)))
    (xl_NotAllowed : K.lookup c_NotAllowed = some (excClassObj xn_NotAllowed xq_NotAllowed c_NotAllowed xN_NotAllowed xb_NotAllowed xm_NotAllowed true xs_NotAllowed xu_NotAllowed xa_NotAllowed xo_NotAllowed xd_NotAllowed x0_NotAllowed x1_NotAllowed x2_NotAllowed x3_NotAllowed x5_NotAllowed "ValueError.__new__"))
    (sa_NotAllowed : PySem.W.findIn K (.ref c_NotAllowed) "__setattr__" = some (some (.builtin "object.__setattr__")))
    (xx_NotAllowed : PySem.W.subIn K (.ref c_NotAllowed) (.type "BaseException") = some true)
    (xt_NotAllowed : PySem.W.typeIn K (.ref c_NotAllowed) = some (.type "type"))
    (xk_NotAllowed : PySem.W.keepIn K (.ref c_NotAllowed) = true)
    (xi_NotAllowed : PySem.W.findIn K (.ref c_NotAllowed) "__init__" = some (some (.ref a_NotAllowed_init_)))
    (xg_NotAllowed : PySem.W.findIn K (.ref c_NotAllowed) "__getattribute__" = some (some (.builtin "BaseException.__getattribute__")))
    (xh_NotAllowed : PySem.W.findIn K (.ref c_NotAllowed) "__getattr__" = some none)
    (xy_NotAllowed : PySem.W.hasDictIn K c_NotAllowed = true)
    (xc_NotAllowed : PySem.W.findIn K (.ref c_NotAllowed) "__class__" = some (some (.builtin "object.__class__")))
    (xr_NotAllowed : PySem.W.mroIn K c_NotAllowed (.type "object") = some true)
    (nX_NotAllowed : PySem.W.findIn K (.ref c_NotAllowed) "state" = some none)
    (x_get : PySem.W.specialIn K (.builtin "object.__class__") "__get__" = some (some (.builtin "getset_descriptor.__get__")))
    (x_tk : PySem.W.takesIn K (.builtin "object.__class__") = some true)
    (xf_InvalidNumber_init_ : PySem.W.typeIn K (.ref a_InvalidNumber_init_) = some (.type "function"))
    (l_InvalidNumber_init_ : K.lookup a_InvalidNumber_init_ = some ⟨oc_InvalidNumber_init_, od_InvalidNumber_init_, .func (PySem.W.fnOf "__init__" "InvalidNumber.__init__" (defArgs s_InvalidNumber_init_) (defBody s_InvalidNumber_init_) (defScope s_InvalidNumber_init_) .none kV_InvalidNumber_init_ dc_InvalidNumber_init_ pm_InvalidNumber_init_ an_InvalidNumber_init_ cd_InvalidNumber_init_ ct_InvalidNumber_init_), sl_InvalidNumber_init_⟩)
    (e_InvalidNumber_init_ : PySem.W.codeIn K cd_InvalidNumber_init_ "InvalidNumber.__init__" = true)
    (k_InvalidNumber_init_ : PySem.W.keepIn K (.ref a_InvalidNumber_init_) = true)
    (xf_InvalidSetting_init_ : PySem.W.typeIn K (.ref a_InvalidSetting_init_) = some (.type "function"))
    (l_InvalidSetting_init_ : K.lookup a_InvalidSetting_init_ = some ⟨oc_InvalidSetting_init_, od_InvalidSetting_init_, .func (PySem.W.fnOf "__init__" "InvalidSetting.__init__" (defArgs s_InvalidSetting_init_) (defBody s_InvalidSetting_init_) (defScope s_InvalidSetting_init_) .none kV_InvalidSetting_init_ dc_InvalidSetting_init_ pm_InvalidSetting_init_ an_InvalidSetting_init_ cd_InvalidSetting_init_ ct_InvalidSetting_init_), sl_InvalidSetting_init_⟩)
    (e_InvalidSetting_init_ : PySem.W.codeIn K cd_InvalidSetting_init_ "InvalidSetting.__init__" = true)
    (k_InvalidSetting_init_ : PySem.W.keepIn K (.ref a_InvalidSetting_init_) = true)
    (xf_NotAllowed_init_ : PySem.W.typeIn K (.ref a_NotAllowed_init_) = some (.type "function"))
    (l_NotAllowed_init_ : K.lookup a_NotAllowed_init_ = some ⟨oc_NotAllowed_init_, od_NotAllowed_init_, .func (PySem.W.fnOf "__init__" "NotAllowed.__init__" (defArgs s_NotAllowed_init_) (defBody s_NotAllowed_init_) (defScope s_NotAllowed_init_) .none kV_NotAllowed_init_ dc_NotAllowed_init_ pm_NotAllowed_init_ an_NotAllowed_init_ cd_NotAllowed_init_ ct_NotAllowed_init_), sl_NotAllowed_init_⟩)
    (e_NotAllowed_init_ : PySem.W.codeIn K cd_NotAllowed_init_ "NotAllowed.__init__" = true)
    (k_NotAllowed_init_ : PySem.W.keepIn K (.ref a_NotAllowed_init_) = true)
    (a_is_integer' : PySem.W.nsIn K mainGlobals "is_integer" = some (some (.ref a_is_integer)))
    (l_is_integer : K.lookup a_is_integer = some ⟨oc_is_integer, od_is_integer, .func (PySem.W.fnOf "is_integer" "is_integer" (defArgs s_is_integer) (defBody s_is_integer) (defScope s_is_integer) .none kV_is_integer dc_is_integer pm_is_integer an_is_integer cd_is_integer ct_is_integer), sl_is_integer⟩)
    (e_is_integer : PySem.W.codeIn K cd_is_integer "is_integer" = true)
    (k_is_integer : PySem.W.keepIn K (.ref a_is_integer) = true)
    (a_is_between' : PySem.W.nsIn K mainGlobals "is_between" = some (some (.ref a_is_between)))
    (l_is_between : K.lookup a_is_between = some ⟨oc_is_between, od_is_between, .func (PySem.W.fnOf "is_between" "is_between" (defArgs s_is_between) (defBody s_is_between) (defScope s_is_between) .none kV_is_between dc_is_between pm_is_between an_is_between cd_is_between ct_is_between), sl_is_between⟩)
    (e_is_between : PySem.W.codeIn K cd_is_between "is_between" = true)
    (k_is_between : PySem.W.keepIn K (.ref a_is_between) = true)
    (a_is_at_least' : PySem.W.nsIn K mainGlobals "is_at_least" = some (some (.ref a_is_at_least)))
    (l_is_at_least : K.lookup a_is_at_least = some ⟨oc_is_at_least, od_is_at_least, .func (PySem.W.fnOf "is_at_least" "is_at_least" (defArgs s_is_at_least) (defBody s_is_at_least) (defScope s_is_at_least) .none kV_is_at_least dc_is_at_least pm_is_at_least an_is_at_least cd_is_at_least ct_is_at_least), sl_is_at_least⟩)
    (e_is_at_least : PySem.W.codeIn K cd_is_at_least "is_at_least" = true)
    (k_is_at_least : PySem.W.keepIn K (.ref a_is_at_least) = true)
    (a_is_byte' : PySem.W.nsIn K mainGlobals "is_byte" = some (some (.ref a_is_byte)))
    (l_is_byte : K.lookup a_is_byte = some ⟨oc_is_byte, od_is_byte, .func (PySem.W.fnOf "is_byte" "is_byte" (defArgs s_is_byte) (defBody s_is_byte) (defScope s_is_byte) .none kV_is_byte dc_is_byte pm_is_byte an_is_byte cd_is_byte ct_is_byte), sl_is_byte⟩)
    (e_is_byte : PySem.W.codeIn K cd_is_byte "is_byte" = true)
    (k_is_byte : PySem.W.keepIn K (.ref a_is_byte) = true)
    (a_is_sequence' : PySem.W.nsIn K mainGlobals "is_sequence" = some (some (.ref a_is_sequence)))
    (l_is_sequence : K.lookup a_is_sequence = some ⟨oc_is_sequence, od_is_sequence, .func (PySem.W.fnOf "is_sequence" "is_sequence" (defArgs s_is_sequence) (defBody s_is_sequence) (defScope s_is_sequence) .none kV_is_sequence dc_is_sequence pm_is_sequence an_is_sequence cd_is_sequence ct_is_sequence), sl_is_sequence⟩)
    (e_is_sequence : PySem.W.codeIn K cd_is_sequence "is_sequence" = true)
    (k_is_sequence : PySem.W.keepIn K (.ref a_is_sequence) = true)
    (a_require_data' : PySem.W.nsIn K mainGlobals "require_data" = some (some (.ref a_require_data)))
    (l_require_data : K.lookup a_require_data = some ⟨oc_require_data, od_require_data, .func (PySem.W.fnOf "require_data" "require_data" (defArgs s_require_data) (defBody s_require_data) (defScope s_require_data) .none kV_require_data dc_require_data pm_require_data an_require_data cd_require_data ct_require_data), sl_require_data⟩)
    (e_require_data : PySem.W.codeIn K cd_require_data "require_data" = true)
    (k_require_data : PySem.W.keepIn K (.ref a_require_data) = true)
    (a_require_limit' : PySem.W.nsIn K mainGlobals "require_limit" = some (some (.ref a_require_limit)))
    (l_require_limit : K.lookup a_require_limit = some ⟨oc_require_limit, od_require_limit, .func (PySem.W.fnOf "require_limit" "require_limit" (defArgs s_require_limit) (defBody s_require_limit) (defScope s_require_limit) .none kV_require_limit dc_require_limit pm_require_limit an_require_limit cd_require_limit ct_require_limit), sl_require_limit⟩)
    (e_require_limit : PySem.W.codeIn K cd_require_limit "require_limit" = true)
    (k_require_limit : PySem.W.keepIn K (.ref a_require_limit) = true)
    (a_is_run' : PySem.W.nsIn K mainGlobals "is_run" = some (some (.ref a_is_run)))
    (l_is_run : K.lookup a_is_run = some ⟨oc_is_run, od_is_run, .func (PySem.W.fnOf "is_run" "is_run" (defArgs s_is_run) (defBody s_is_run) (defScope s_is_run) .none kV_is_run dc_is_run pm_is_run an_is_run cd_is_run ct_is_run), sl_is_run⟩)
    (e_is_run : PySem.W.codeIn K cd_is_run "is_run" = true)
    (k_is_run : PySem.W.keepIn K (.ref a_is_run) = true)
    (a_joined' : PySem.W.nsIn K mainGlobals "joined" = some (some (.ref a_joined)))
    (l_joined : K.lookup a_joined = some ⟨oc_joined, od_joined, .func (PySem.W.fnOf "joined" "joined" (defArgs s_joined) (defBody s_joined) (defScope s_joined) .none kV_joined dc_joined pm_joined an_joined cd_joined ct_joined), sl_joined⟩)
    (e_joined : PySem.W.codeIn K cd_joined "joined" = true)
    (k_joined : PySem.W.keepIn K (.ref a_joined) = true)
    (a_missing' : PySem.W.nsIn K mainGlobals "missing" = some (some (.ref a_missing)))
    (l_missing : K.lookup a_missing = some ⟨oc_missing, od_missing, .func (PySem.W.fnOf "missing" "missing" (defArgs s_missing) (defBody s_missing) (defScope s_missing) .none kV_missing dc_missing pm_missing an_missing cd_missing ct_missing), sl_missing⟩)
    (e_missing : PySem.W.codeIn K cd_missing "missing" = true)
    (k_missing : PySem.W.keepIn K (.ref a_missing) = true)
    (a_common' : PySem.W.nsIn K mainGlobals "common" = some (some (.ref a_common)))
    (l_common : K.lookup a_common = some ⟨oc_common, od_common, .func (PySem.W.fnOf "common" "common" (defArgs s_common) (defBody s_common) (defScope s_common) .none kV_common dc_common pm_common an_common cd_common ct_common), sl_common⟩)
    (e_common : PySem.W.codeIn K cd_common "common" = true)
    (k_common : PySem.W.keepIn K (.ref a_common) = true)
    (a_without' : PySem.W.nsIn K mainGlobals "without" = some (some (.ref a_without)))
    (l_without : K.lookup a_without = some ⟨oc_without, od_without, .func (PySem.W.fnOf "without" "without" (defArgs s_without) (defBody s_without) (defScope s_without) .none kV_without dc_without pm_without an_without cd_without ct_without), sl_without⟩)
    (e_without : PySem.W.codeIn K cd_without "without" = true)
    (k_without : PySem.W.keepIn K (.ref a_without) = true)
    (a_Spans_init_' : PySem.W.findIn K (.ref c_Spans) "__init__" = some (some (.ref a_Spans_init_)))
    (i_Spans_init_ : PySem.W.isFn K (.ref a_Spans_init_) = true)
    (l_Spans_init_ : K.lookup a_Spans_init_ = some ⟨oc_Spans_init_, od_Spans_init_, .func (PySem.W.fnOf "__init__" "Spans.__init__" (defArgs s_Spans_init_) (defBody s_Spans_init_) (defScope s_Spans_init_) .none kV_Spans_init_ dc_Spans_init_ pm_Spans_init_ an_Spans_init_ cd_Spans_init_ ct_Spans_init_), sl_Spans_init_⟩)
    (e_Spans_init_ : PySem.W.codeIn K cd_Spans_init_ "Spans.__init__" = true)
    (k_Spans_init_ : PySem.W.keepIn K (.ref a_Spans_init_) = true)
    (a_Spans_put' : PySem.W.findIn K (.ref c_Spans) "put" = some (some (.ref a_Spans_put)))
    (i_Spans_put : PySem.W.isFn K (.ref a_Spans_put) = true)
    (l_Spans_put : K.lookup a_Spans_put = some ⟨oc_Spans_put, od_Spans_put, .func (PySem.W.fnOf "put" "Spans.put" (defArgs s_Spans_put) (defBody s_Spans_put) (defScope s_Spans_put) .none kV_Spans_put dc_Spans_put pm_Spans_put an_Spans_put cd_Spans_put ct_Spans_put), sl_Spans_put⟩)
    (e_Spans_put : PySem.W.codeIn K cd_Spans_put "Spans.put" = true)
    (k_Spans_put : PySem.W.keepIn K (.ref a_Spans_put) = true)
    (a_Spans_drop' : PySem.W.findIn K (.ref c_Spans) "drop" = some (some (.ref a_Spans_drop)))
    (i_Spans_drop : PySem.W.isFn K (.ref a_Spans_drop) = true)
    (l_Spans_drop : K.lookup a_Spans_drop = some ⟨oc_Spans_drop, od_Spans_drop, .func (PySem.W.fnOf "drop" "Spans.drop" (defArgs s_Spans_drop) (defBody s_Spans_drop) (defScope s_Spans_drop) .none kV_Spans_drop dc_Spans_drop pm_Spans_drop an_Spans_drop cd_Spans_drop ct_Spans_drop), sl_Spans_drop⟩)
    (e_Spans_drop : PySem.W.codeIn K cd_Spans_drop "Spans.drop" = true)
    (k_Spans_drop : PySem.W.keepIn K (.ref a_Spans_drop) = true)
    (a_Spans_holding' : PySem.W.findIn K (.ref c_Spans) "holding" = some (some (.ref a_Spans_holding)))
    (i_Spans_holding : PySem.W.isFn K (.ref a_Spans_holding) = true)
    (l_Spans_holding : K.lookup a_Spans_holding = some ⟨oc_Spans_holding, od_Spans_holding, .func (PySem.W.fnOf "holding" "Spans.holding" (defArgs s_Spans_holding) (defBody s_Spans_holding) (defScope s_Spans_holding) .none kV_Spans_holding dc_Spans_holding pm_Spans_holding an_Spans_holding cd_Spans_holding ct_Spans_holding), sl_Spans_holding⟩)
    (e_Spans_holding : PySem.W.codeIn K cd_Spans_holding "Spans.holding" = true)
    (k_Spans_holding : PySem.W.keepIn K (.ref a_Spans_holding) = true)
    (a_Spans_gaps' : PySem.W.findIn K (.ref c_Spans) "gaps" = some (some (.ref a_Spans_gaps)))
    (i_Spans_gaps : PySem.W.isFn K (.ref a_Spans_gaps) = true)
    (l_Spans_gaps : K.lookup a_Spans_gaps = some ⟨oc_Spans_gaps, od_Spans_gaps, .func (PySem.W.fnOf "gaps" "Spans.gaps" (defArgs s_Spans_gaps) (defBody s_Spans_gaps) (defScope s_Spans_gaps) .none kV_Spans_gaps dc_Spans_gaps pm_Spans_gaps an_Spans_gaps cd_Spans_gaps ct_Spans_gaps), sl_Spans_gaps⟩)
    (e_Spans_gaps : PySem.W.codeIn K cd_Spans_gaps "Spans.gaps" = true)
    (k_Spans_gaps : PySem.W.keepIn K (.ref a_Spans_gaps) = true)
    (a_Spans_highest' : PySem.W.findIn K (.ref c_Spans) "highest" = some (some (.ref a_Spans_highest)))
    (i_Spans_highest : PySem.W.isFn K (.ref a_Spans_highest) = true)
    (l_Spans_highest : K.lookup a_Spans_highest = some ⟨oc_Spans_highest, od_Spans_highest, .func (PySem.W.fnOf "highest" "Spans.highest" (defArgs s_Spans_highest) (defBody s_Spans_highest) (defScope s_Spans_highest) .none kV_Spans_highest dc_Spans_highest pm_Spans_highest an_Spans_highest cd_Spans_highest ct_Spans_highest), sl_Spans_highest⟩)
    (e_Spans_highest : PySem.W.codeIn K cd_Spans_highest "Spans.highest" = true)
    (k_Spans_highest : PySem.W.keepIn K (.ref a_Spans_highest) = true)
    (a_Inbox_init_' : PySem.W.findIn K (.ref c_Inbox) "__init__" = some (some (.ref a_Inbox_init_)))
    (i_Inbox_init_ : PySem.W.isFn K (.ref a_Inbox_init_) = true)
    (l_Inbox_init_ : K.lookup a_Inbox_init_ = some ⟨oc_Inbox_init_, od_Inbox_init_, .func (PySem.W.fnOf "__init__" "Inbox.__init__" (defArgs s_Inbox_init_) (defBody s_Inbox_init_) (defScope s_Inbox_init_) .none kV_Inbox_init_ dc_Inbox_init_ pm_Inbox_init_ an_Inbox_init_ cd_Inbox_init_ ct_Inbox_init_), sl_Inbox_init_⟩)
    (e_Inbox_init_ : PySem.W.codeIn K cd_Inbox_init_ "Inbox.__init__" = true)
    (k_Inbox_init_ : PySem.W.keepIn K (.ref a_Inbox_init_) = true)
    (a_Inbox_limit' : PySem.W.findIn K (.ref c_Inbox) "limit" = some (some (.ref p_Inbox_limit)))
    (pg_Inbox_limit : PySem.W.specialIn K (.ref p_Inbox_limit) "__get__" = some (some (.builtin "property.__get__")))
    (pt_Inbox_limit : PySem.W.takesIn K (.ref p_Inbox_limit) = some true)
    (rc_Inbox_limit : PySem.W.recIn K p_Inbox_limit "property" = some (.ref a_Inbox_limit :: rs_Inbox_limit))
    (l_Inbox_limit : K.lookup a_Inbox_limit = some ⟨oc_Inbox_limit, od_Inbox_limit, .func (PySem.W.fnOf "limit" "Inbox.limit" (defArgs s_Inbox_limit) (defBody s_Inbox_limit) (defScope s_Inbox_limit) .none kV_Inbox_limit dc_Inbox_limit pm_Inbox_limit an_Inbox_limit cd_Inbox_limit ct_Inbox_limit), sl_Inbox_limit⟩)
    (e_Inbox_limit : PySem.W.codeIn K cd_Inbox_limit "Inbox.limit" = true)
    (k_Inbox_limit : PySem.W.keepIn K (.ref a_Inbox_limit) = true)
    (ty_Inbox_limit_set : PySem.W.typeIn K (.ref p_Inbox_limit) = some (.type "property"))
    (rx_Inbox_limit_set : PySem.W.recIn K p_Inbox_limit "property" = some (gx_Inbox_limit_set :: .ref a_Inbox_limit_set :: rs_Inbox_limit_set))
    (l_Inbox_limit_set : K.lookup a_Inbox_limit_set = some ⟨oc_Inbox_limit_set, od_Inbox_limit_set, .func (PySem.W.fnOf "limit" "Inbox.limit" (defArgs s_Inbox_limit_set) (defBody s_Inbox_limit_set) (defScope s_Inbox_limit_set) .none kV_Inbox_limit_set dc_Inbox_limit_set pm_Inbox_limit_set an_Inbox_limit_set cd_Inbox_limit_set ct_Inbox_limit_set), sl_Inbox_limit_set⟩)
    (e_Inbox_limit_set : PySem.W.codeIn K cd_Inbox_limit_set "Inbox.limit" = true)
    (k_Inbox_limit_set : PySem.W.keepIn K (.ref a_Inbox_limit_set) = true)
    (a_Inbox_edge' : PySem.W.findIn K (.ref c_Inbox) "edge" = some (some (.ref p_Inbox_edge)))
    (pg_Inbox_edge : PySem.W.specialIn K (.ref p_Inbox_edge) "__get__" = some (some (.builtin "property.__get__")))
    (pt_Inbox_edge : PySem.W.takesIn K (.ref p_Inbox_edge) = some true)
    (rc_Inbox_edge : PySem.W.recIn K p_Inbox_edge "property" = some (.ref a_Inbox_edge :: rs_Inbox_edge))
    (l_Inbox_edge : K.lookup a_Inbox_edge = some ⟨oc_Inbox_edge, od_Inbox_edge, .func (PySem.W.fnOf "edge" "Inbox.edge" (defArgs s_Inbox_edge) (defBody s_Inbox_edge) (defScope s_Inbox_edge) .none kV_Inbox_edge dc_Inbox_edge pm_Inbox_edge an_Inbox_edge cd_Inbox_edge ct_Inbox_edge), sl_Inbox_edge⟩)
    (e_Inbox_edge : PySem.W.codeIn K cd_Inbox_edge "Inbox.edge" = true)
    (k_Inbox_edge : PySem.W.keepIn K (.ref a_Inbox_edge) = true)
    (a_Inbox_ready' : PySem.W.findIn K (.ref c_Inbox) "ready" = some (some (.ref p_Inbox_ready)))
    (pg_Inbox_ready : PySem.W.specialIn K (.ref p_Inbox_ready) "__get__" = some (some (.builtin "property.__get__")))
    (pt_Inbox_ready : PySem.W.takesIn K (.ref p_Inbox_ready) = some true)
    (rc_Inbox_ready : PySem.W.recIn K p_Inbox_ready "property" = some (.ref a_Inbox_ready :: rs_Inbox_ready))
    (l_Inbox_ready : K.lookup a_Inbox_ready = some ⟨oc_Inbox_ready, od_Inbox_ready, .func (PySem.W.fnOf "ready" "Inbox.ready" (defArgs s_Inbox_ready) (defBody s_Inbox_ready) (defScope s_Inbox_ready) .none kV_Inbox_ready dc_Inbox_ready pm_Inbox_ready an_Inbox_ready cd_Inbox_ready ct_Inbox_ready), sl_Inbox_ready⟩)
    (e_Inbox_ready : PySem.W.codeIn K cd_Inbox_ready "Inbox.ready" = true)
    (k_Inbox_ready : PySem.W.keepIn K (.ref a_Inbox_ready) = true)
    (a_Inbox_ended' : PySem.W.findIn K (.ref c_Inbox) "ended" = some (some (.ref p_Inbox_ended)))
    (pg_Inbox_ended : PySem.W.specialIn K (.ref p_Inbox_ended) "__get__" = some (some (.builtin "property.__get__")))
    (pt_Inbox_ended : PySem.W.takesIn K (.ref p_Inbox_ended) = some true)
    (rc_Inbox_ended : PySem.W.recIn K p_Inbox_ended "property" = some (.ref a_Inbox_ended :: rs_Inbox_ended))
    (l_Inbox_ended : K.lookup a_Inbox_ended = some ⟨oc_Inbox_ended, od_Inbox_ended, .func (PySem.W.fnOf "ended" "Inbox.ended" (defArgs s_Inbox_ended) (defBody s_Inbox_ended) (defScope s_Inbox_ended) .none kV_Inbox_ended dc_Inbox_ended pm_Inbox_ended an_Inbox_ended cd_Inbox_ended ct_Inbox_ended), sl_Inbox_ended⟩)
    (e_Inbox_ended : PySem.W.codeIn K cd_Inbox_ended "Inbox.ended" = true)
    (k_Inbox_ended : PySem.W.keepIn K (.ref a_Inbox_ended) = true)
    (a_Inbox_expected' : PySem.W.findIn K (.ref c_Inbox) "expected" = some (some (.ref p_Inbox_expected)))
    (pg_Inbox_expected : PySem.W.specialIn K (.ref p_Inbox_expected) "__get__" = some (some (.builtin "property.__get__")))
    (pt_Inbox_expected : PySem.W.takesIn K (.ref p_Inbox_expected) = some true)
    (rc_Inbox_expected : PySem.W.recIn K p_Inbox_expected "property" = some (.ref a_Inbox_expected :: rs_Inbox_expected))
    (l_Inbox_expected : K.lookup a_Inbox_expected = some ⟨oc_Inbox_expected, od_Inbox_expected, .func (PySem.W.fnOf "expected" "Inbox.expected" (defArgs s_Inbox_expected) (defBody s_Inbox_expected) (defScope s_Inbox_expected) .none kV_Inbox_expected dc_Inbox_expected pm_Inbox_expected an_Inbox_expected cd_Inbox_expected ct_Inbox_expected), sl_Inbox_expected⟩)
    (e_Inbox_expected : PySem.W.codeIn K cd_Inbox_expected "Inbox.expected" = true)
    (k_Inbox_expected : PySem.W.keepIn K (.ref a_Inbox_expected) = true)
    (a_Inbox_urgent_count' : PySem.W.findIn K (.ref c_Inbox) "urgent_count" = some (some (.ref p_Inbox_urgent_count)))
    (pg_Inbox_urgent_count : PySem.W.specialIn K (.ref p_Inbox_urgent_count) "__get__" = some (some (.builtin "property.__get__")))
    (pt_Inbox_urgent_count : PySem.W.takesIn K (.ref p_Inbox_urgent_count) = some true)
    (rc_Inbox_urgent_count : PySem.W.recIn K p_Inbox_urgent_count "property" = some (.ref a_Inbox_urgent_count :: rs_Inbox_urgent_count))
    (l_Inbox_urgent_count : K.lookup a_Inbox_urgent_count = some ⟨oc_Inbox_urgent_count, od_Inbox_urgent_count, .func (PySem.W.fnOf "urgent_count" "Inbox.urgent_count" (defArgs s_Inbox_urgent_count) (defBody s_Inbox_urgent_count) (defScope s_Inbox_urgent_count) .none kV_Inbox_urgent_count dc_Inbox_urgent_count pm_Inbox_urgent_count an_Inbox_urgent_count cd_Inbox_urgent_count ct_Inbox_urgent_count), sl_Inbox_urgent_count⟩)
    (e_Inbox_urgent_count : PySem.W.codeIn K cd_Inbox_urgent_count "Inbox.urgent_count" = true)
    (k_Inbox_urgent_count : PySem.W.keepIn K (.ref a_Inbox_urgent_count) = true)
    (a_Inbox_take' : PySem.W.findIn K (.ref c_Inbox) "take" = some (some (.ref a_Inbox_take)))
    (i_Inbox_take : PySem.W.isFn K (.ref a_Inbox_take) = true)
    (l_Inbox_take : K.lookup a_Inbox_take = some ⟨oc_Inbox_take, od_Inbox_take, .func (PySem.W.fnOf "take" "Inbox.take" (defArgs s_Inbox_take) (defBody s_Inbox_take) (defScope s_Inbox_take) .none kV_Inbox_take dc_Inbox_take pm_Inbox_take an_Inbox_take cd_Inbox_take ct_Inbox_take), sl_Inbox_take⟩)
    (e_Inbox_take : PySem.W.codeIn K cd_Inbox_take "Inbox.take" = true)
    (k_Inbox_take : PySem.W.keepIn K (.ref a_Inbox_take) = true)
    (a_Inbox_stop' : PySem.W.findIn K (.ref c_Inbox) "_stop" = some (some (.ref a_Inbox_stop)))
    (i_Inbox_stop : PySem.W.isFn K (.ref a_Inbox_stop) = true)
    (l_Inbox_stop : K.lookup a_Inbox_stop = some ⟨oc_Inbox_stop, od_Inbox_stop, .func (PySem.W.fnOf "_stop" "Inbox._stop" (defArgs s_Inbox_stop) (defBody s_Inbox_stop) (defScope s_Inbox_stop) .none kV_Inbox_stop dc_Inbox_stop pm_Inbox_stop an_Inbox_stop cd_Inbox_stop ct_Inbox_stop), sl_Inbox_stop⟩)
    (e_Inbox_stop : PySem.W.codeIn K cd_Inbox_stop "Inbox._stop" = true)
    (k_Inbox_stop : PySem.W.keepIn K (.ref a_Inbox_stop) = true)
    (a_Inbox_move_on' : PySem.W.findIn K (.ref c_Inbox) "_move_on" = some (some (.ref a_Inbox_move_on)))
    (i_Inbox_move_on : PySem.W.isFn K (.ref a_Inbox_move_on) = true)
    (l_Inbox_move_on : K.lookup a_Inbox_move_on = some ⟨oc_Inbox_move_on, od_Inbox_move_on, .func (PySem.W.fnOf "_move_on" "Inbox._move_on" (defArgs s_Inbox_move_on) (defBody s_Inbox_move_on) (defScope s_Inbox_move_on) .none kV_Inbox_move_on dc_Inbox_move_on pm_Inbox_move_on an_Inbox_move_on cd_Inbox_move_on ct_Inbox_move_on), sl_Inbox_move_on⟩)
    (e_Inbox_move_on : PySem.W.codeIn K cd_Inbox_move_on "Inbox._move_on" = true)
    (k_Inbox_move_on : PySem.W.keepIn K (.ref a_Inbox_move_on) = true)
    (a_Inbox_finish' : PySem.W.findIn K (.ref c_Inbox) "finish" = some (some (.ref a_Inbox_finish)))
    (i_Inbox_finish : PySem.W.isFn K (.ref a_Inbox_finish) = true)
    (l_Inbox_finish : K.lookup a_Inbox_finish = some ⟨oc_Inbox_finish, od_Inbox_finish, .func (PySem.W.fnOf "finish" "Inbox.finish" (defArgs s_Inbox_finish) (defBody s_Inbox_finish) (defScope s_Inbox_finish) .none kV_Inbox_finish dc_Inbox_finish pm_Inbox_finish an_Inbox_finish cd_Inbox_finish ct_Inbox_finish), sl_Inbox_finish⟩)
    (e_Inbox_finish : PySem.W.codeIn K cd_Inbox_finish "Inbox.finish" = true)
    (k_Inbox_finish : PySem.W.keepIn K (.ref a_Inbox_finish) = true)
    (a_Inbox_read' : PySem.W.findIn K (.ref c_Inbox) "read" = some (some (.ref a_Inbox_read)))
    (i_Inbox_read : PySem.W.isFn K (.ref a_Inbox_read) = true)
    (l_Inbox_read : K.lookup a_Inbox_read = some ⟨oc_Inbox_read, od_Inbox_read, .func (PySem.W.fnOf "read" "Inbox.read" (defArgs s_Inbox_read) (defBody s_Inbox_read) (defScope s_Inbox_read) .none kV_Inbox_read dc_Inbox_read pm_Inbox_read an_Inbox_read cd_Inbox_read ct_Inbox_read), sl_Inbox_read⟩)
    (e_Inbox_read : PySem.W.codeIn K cd_Inbox_read "Inbox.read" = true)
    (k_Inbox_read : PySem.W.keepIn K (.ref a_Inbox_read) = true)
    (a_Inbox_mark_urgent' : PySem.W.findIn K (.ref c_Inbox) "mark_urgent" = some (some (.ref a_Inbox_mark_urgent)))
    (i_Inbox_mark_urgent : PySem.W.isFn K (.ref a_Inbox_mark_urgent) = true)
    (l_Inbox_mark_urgent : K.lookup a_Inbox_mark_urgent = some ⟨oc_Inbox_mark_urgent, od_Inbox_mark_urgent, .func (PySem.W.fnOf "mark_urgent" "Inbox.mark_urgent" (defArgs s_Inbox_mark_urgent) (defBody s_Inbox_mark_urgent) (defScope s_Inbox_mark_urgent) .none kV_Inbox_mark_urgent dc_Inbox_mark_urgent pm_Inbox_mark_urgent an_Inbox_mark_urgent cd_Inbox_mark_urgent ct_Inbox_mark_urgent), sl_Inbox_mark_urgent⟩)
    (e_Inbox_mark_urgent : PySem.W.codeIn K cd_Inbox_mark_urgent "Inbox.mark_urgent" = true)
    (k_Inbox_mark_urgent : PySem.W.keepIn K (.ref a_Inbox_mark_urgent) = true)
    (a_Outbox_init_' : PySem.W.findIn K (.ref c_Outbox) "__init__" = some (some (.ref a_Outbox_init_)))
    (i_Outbox_init_ : PySem.W.isFn K (.ref a_Outbox_init_) = true)
    (l_Outbox_init_ : K.lookup a_Outbox_init_ = some ⟨oc_Outbox_init_, od_Outbox_init_, .func (PySem.W.fnOf "__init__" "Outbox.__init__" (defArgs s_Outbox_init_) (defBody s_Outbox_init_) (defScope s_Outbox_init_) .none kV_Outbox_init_ dc_Outbox_init_ pm_Outbox_init_ an_Outbox_init_ cd_Outbox_init_ ct_Outbox_init_), sl_Outbox_init_⟩)
    (e_Outbox_init_ : PySem.W.codeIn K cd_Outbox_init_ "Outbox.__init__" = true)
    (k_Outbox_init_ : PySem.W.keepIn K (.ref a_Outbox_init_) = true)
    (a_Outbox_limit' : PySem.W.findIn K (.ref c_Outbox) "limit" = some (some (.ref p_Outbox_limit)))
    (pg_Outbox_limit : PySem.W.specialIn K (.ref p_Outbox_limit) "__get__" = some (some (.builtin "property.__get__")))
    (pt_Outbox_limit : PySem.W.takesIn K (.ref p_Outbox_limit) = some true)
    (rc_Outbox_limit : PySem.W.recIn K p_Outbox_limit "property" = some (.ref a_Outbox_limit :: rs_Outbox_limit))
    (l_Outbox_limit : K.lookup a_Outbox_limit = some ⟨oc_Outbox_limit, od_Outbox_limit, .func (PySem.W.fnOf "limit" "Outbox.limit" (defArgs s_Outbox_limit) (defBody s_Outbox_limit) (defScope s_Outbox_limit) .none kV_Outbox_limit dc_Outbox_limit pm_Outbox_limit an_Outbox_limit cd_Outbox_limit ct_Outbox_limit), sl_Outbox_limit⟩)
    (e_Outbox_limit : PySem.W.codeIn K cd_Outbox_limit "Outbox.limit" = true)
    (k_Outbox_limit : PySem.W.keepIn K (.ref a_Outbox_limit) = true)
    (ty_Outbox_limit_set : PySem.W.typeIn K (.ref p_Outbox_limit) = some (.type "property"))
    (rx_Outbox_limit_set : PySem.W.recIn K p_Outbox_limit "property" = some (gx_Outbox_limit_set :: .ref a_Outbox_limit_set :: rs_Outbox_limit_set))
    (l_Outbox_limit_set : K.lookup a_Outbox_limit_set = some ⟨oc_Outbox_limit_set, od_Outbox_limit_set, .func (PySem.W.fnOf "limit" "Outbox.limit" (defArgs s_Outbox_limit_set) (defBody s_Outbox_limit_set) (defScope s_Outbox_limit_set) .none kV_Outbox_limit_set dc_Outbox_limit_set pm_Outbox_limit_set an_Outbox_limit_set cd_Outbox_limit_set ct_Outbox_limit_set), sl_Outbox_limit_set⟩)
    (e_Outbox_limit_set : PySem.W.codeIn K cd_Outbox_limit_set "Outbox.limit" = true)
    (k_Outbox_limit_set : PySem.W.keepIn K (.ref a_Outbox_limit_set) = true)
    (a_Outbox_free' : PySem.W.findIn K (.ref c_Outbox) "free" = some (some (.ref p_Outbox_free)))
    (pg_Outbox_free : PySem.W.specialIn K (.ref p_Outbox_free) "__get__" = some (some (.builtin "property.__get__")))
    (pt_Outbox_free : PySem.W.takesIn K (.ref p_Outbox_free) = some true)
    (rc_Outbox_free : PySem.W.recIn K p_Outbox_free "property" = some (.ref a_Outbox_free :: rs_Outbox_free))
    (l_Outbox_free : K.lookup a_Outbox_free = some ⟨oc_Outbox_free, od_Outbox_free, .func (PySem.W.fnOf "free" "Outbox.free" (defArgs s_Outbox_free) (defBody s_Outbox_free) (defScope s_Outbox_free) .none kV_Outbox_free dc_Outbox_free pm_Outbox_free an_Outbox_free cd_Outbox_free ct_Outbox_free), sl_Outbox_free⟩)
    (e_Outbox_free : PySem.W.codeIn K cd_Outbox_free "Outbox.free" = true)
    (k_Outbox_free : PySem.W.keepIn K (.ref a_Outbox_free) = true)
    (a_Outbox_bound' : PySem.W.findIn K (.ref c_Outbox) "bound" = some (some (.ref p_Outbox_bound)))
    (pg_Outbox_bound : PySem.W.specialIn K (.ref p_Outbox_bound) "__get__" = some (some (.builtin "property.__get__")))
    (pt_Outbox_bound : PySem.W.takesIn K (.ref p_Outbox_bound) = some true)
    (rc_Outbox_bound : PySem.W.recIn K p_Outbox_bound "property" = some (.ref a_Outbox_bound :: rs_Outbox_bound))
    (l_Outbox_bound : K.lookup a_Outbox_bound = some ⟨oc_Outbox_bound, od_Outbox_bound, .func (PySem.W.fnOf "bound" "Outbox.bound" (defArgs s_Outbox_bound) (defBody s_Outbox_bound) (defScope s_Outbox_bound) .none kV_Outbox_bound dc_Outbox_bound pm_Outbox_bound an_Outbox_bound cd_Outbox_bound ct_Outbox_bound), sl_Outbox_bound⟩)
    (e_Outbox_bound : PySem.W.codeIn K cd_Outbox_bound "Outbox.bound" = true)
    (k_Outbox_bound : PySem.W.keepIn K (.ref a_Outbox_bound) = true)
    (a_Outbox_put' : PySem.W.findIn K (.ref c_Outbox) "put" = some (some (.ref a_Outbox_put)))
    (i_Outbox_put : PySem.W.isFn K (.ref a_Outbox_put) = true)
    (l_Outbox_put : K.lookup a_Outbox_put = some ⟨oc_Outbox_put, od_Outbox_put, .func (PySem.W.fnOf "put" "Outbox.put" (defArgs s_Outbox_put) (defBody s_Outbox_put) (defScope s_Outbox_put) .none kV_Outbox_put dc_Outbox_put pm_Outbox_put an_Outbox_put cd_Outbox_put ct_Outbox_put), sl_Outbox_put⟩)
    (e_Outbox_put : PySem.W.codeIn K cd_Outbox_put "Outbox.put" = true)
    (k_Outbox_put : PySem.W.keepIn K (.ref a_Outbox_put) = true)
    (a_Outbox_urge' : PySem.W.findIn K (.ref c_Outbox) "urge" = some (some (.ref a_Outbox_urge)))
    (i_Outbox_urge : PySem.W.isFn K (.ref a_Outbox_urge) = true)
    (l_Outbox_urge : K.lookup a_Outbox_urge = some ⟨oc_Outbox_urge, od_Outbox_urge, .func (PySem.W.fnOf "urge" "Outbox.urge" (defArgs s_Outbox_urge) (defBody s_Outbox_urge) (defScope s_Outbox_urge) .none kV_Outbox_urge dc_Outbox_urge pm_Outbox_urge an_Outbox_urge cd_Outbox_urge ct_Outbox_urge), sl_Outbox_urge⟩)
    (e_Outbox_urge : PySem.W.codeIn K cd_Outbox_urge "Outbox.urge" = true)
    (k_Outbox_urge : PySem.W.keepIn K (.ref a_Outbox_urge) = true)
    (a_Outbox_shut' : PySem.W.findIn K (.ref c_Outbox) "shut" = some (some (.ref a_Outbox_shut)))
    (i_Outbox_shut : PySem.W.isFn K (.ref a_Outbox_shut) = true)
    (l_Outbox_shut : K.lookup a_Outbox_shut = some ⟨oc_Outbox_shut, od_Outbox_shut, .func (PySem.W.fnOf "shut" "Outbox.shut" (defArgs s_Outbox_shut) (defBody s_Outbox_shut) (defScope s_Outbox_shut) .none kV_Outbox_shut dc_Outbox_shut pm_Outbox_shut an_Outbox_shut cd_Outbox_shut ct_Outbox_shut), sl_Outbox_shut⟩)
    (e_Outbox_shut : PySem.W.codeIn K cd_Outbox_shut "Outbox.shut" = true)
    (k_Outbox_shut : PySem.W.keepIn K (.ref a_Outbox_shut) = true)
    (a_Outbox_cut' : PySem.W.findIn K (.ref c_Outbox) "cut" = some (some (.ref a_Outbox_cut)))
    (i_Outbox_cut : PySem.W.isFn K (.ref a_Outbox_cut) = true)
    (l_Outbox_cut : K.lookup a_Outbox_cut = some ⟨oc_Outbox_cut, od_Outbox_cut, .func (PySem.W.fnOf "cut" "Outbox.cut" (defArgs s_Outbox_cut) (defBody s_Outbox_cut) (defScope s_Outbox_cut) .none kV_Outbox_cut dc_Outbox_cut pm_Outbox_cut an_Outbox_cut cd_Outbox_cut ct_Outbox_cut), sl_Outbox_cut⟩)
    (e_Outbox_cut : PySem.W.codeIn K cd_Outbox_cut "Outbox.cut" = true)
    (k_Outbox_cut : PySem.W.keepIn K (.ref a_Outbox_cut) = true)
    (a_Outbox_release' : PySem.W.findIn K (.ref c_Outbox) "release" = some (some (.ref a_Outbox_release)))
    (i_Outbox_release : PySem.W.isFn K (.ref a_Outbox_release) = true)
    (l_Outbox_release : K.lookup a_Outbox_release = some ⟨oc_Outbox_release, od_Outbox_release, .func (PySem.W.fnOf "release" "Outbox.release" (defArgs s_Outbox_release) (defBody s_Outbox_release) (defScope s_Outbox_release) .none kV_Outbox_release dc_Outbox_release pm_Outbox_release an_Outbox_release cd_Outbox_release ct_Outbox_release), sl_Outbox_release⟩)
    (e_Outbox_release : PySem.W.codeIn K cd_Outbox_release "Outbox.release" = true)
    (k_Outbox_release : PySem.W.keepIn K (.ref a_Outbox_release) = true)
    (a__law_box' : PySem.W.nsIn K mainGlobals "_law_box" = some (some (.ref a__law_box)))
    (l__law_box : K.lookup a__law_box = some ⟨oc__law_box, od__law_box, .func (PySem.W.fnOf "_law_box" "_law_box" (defArgs s__law_box) (defBody s__law_box) (defScope s__law_box) .none kV__law_box dc__law_box pm__law_box an__law_box cd__law_box ct__law_box), sl__law_box⟩)
    (e__law_box : PySem.W.codeIn K cd__law_box "_law_box" = true)
    (k__law_box : PySem.W.keepIn K (.ref a__law_box) = true)
    (a__law_draw' : PySem.W.nsIn K mainGlobals "_law_draw" = some (some (.ref a__law_draw)))
    (l__law_draw : K.lookup a__law_draw = some ⟨oc__law_draw, od__law_draw, .func (PySem.W.fnOf "_law_draw" "_law_draw" (defArgs s__law_draw) (defBody s__law_draw) (defScope s__law_draw) .none kV__law_draw dc__law_draw pm__law_draw an__law_draw cd__law_draw ct__law_draw), sl__law_draw⟩)
    (e__law_draw : PySem.W.codeIn K cd__law_draw "_law_draw" = true)
    (k__law_draw : PySem.W.keepIn K (.ref a__law_draw) = true)
    (a__law_is_whole' : PySem.W.nsIn K mainGlobals "_law_is_whole" = some (some (.ref a__law_is_whole)))
    (l__law_is_whole : K.lookup a__law_is_whole = some ⟨oc__law_is_whole, od__law_is_whole, .func (PySem.W.fnOf "_law_is_whole" "_law_is_whole" (defArgs s__law_is_whole) (defBody s__law_is_whole) (defScope s__law_is_whole) .none kV__law_is_whole dc__law_is_whole pm__law_is_whole an__law_is_whole cd__law_is_whole ct__law_is_whole), sl__law_is_whole⟩)
    (e__law_is_whole : PySem.W.codeIn K cd__law_is_whole "_law_is_whole" = true)
    (k__law_is_whole : PySem.W.keepIn K (.ref a__law_is_whole) = true)
    (a__law_bytes' : PySem.W.nsIn K mainGlobals "_law_bytes" = some (some (.ref a__law_bytes)))
    (l__law_bytes : K.lookup a__law_bytes = some ⟨oc__law_bytes, od__law_bytes, .func (PySem.W.fnOf "_law_bytes" "_law_bytes" (defArgs s__law_bytes) (defBody s__law_bytes) (defScope s__law_bytes) .none kV__law_bytes dc__law_bytes pm__law_bytes an__law_bytes cd__law_bytes ct__law_bytes), sl__law_bytes⟩)
    (e__law_bytes : PySem.W.codeIn K cd__law_bytes "_law_bytes" = true)
    (k__law_bytes : PySem.W.keepIn K (.ref a__law_bytes) = true)
    (a__law_tuple_is' : PySem.W.nsIn K mainGlobals "_law_tuple_is" = some (some (.ref a__law_tuple_is)))
    (l__law_tuple_is : K.lookup a__law_tuple_is = some ⟨oc__law_tuple_is, od__law_tuple_is, .func (PySem.W.fnOf "_law_tuple_is" "_law_tuple_is" (defArgs s__law_tuple_is) (defBody s__law_tuple_is) (defScope s__law_tuple_is) .none kV__law_tuple_is dc__law_tuple_is pm__law_tuple_is an__law_tuple_is cd__law_tuple_is ct__law_tuple_is), sl__law_tuple_is⟩)
    (e__law_tuple_is : PySem.W.codeIn K cd__law_tuple_is "_law_tuple_is" = true)
    (k__law_tuple_is : PySem.W.keepIn K (.ref a__law_tuple_is) = true)
    (a__law_receiver' : PySem.W.nsIn K mainGlobals "_law_receiver" = some (some (.ref a__law_receiver)))
    (l__law_receiver : K.lookup a__law_receiver = some ⟨oc__law_receiver, od__law_receiver, .func (PySem.W.fnOf "_law_receiver" "_law_receiver" (defArgs s__law_receiver) (defBody s__law_receiver) (defScope s__law_receiver) .none kV__law_receiver dc__law_receiver pm__law_receiver an__law_receiver cd__law_receiver ct__law_receiver), sl__law_receiver⟩)
    (e__law_receiver : PySem.W.codeIn K cd__law_receiver "_law_receiver" = true)
    (k__law_receiver : PySem.W.keepIn K (.ref a__law_receiver) = true)
    (a__law_next' : PySem.W.nsIn K mainGlobals "_law_next" = some (some (.ref a__law_next)))
    (l__law_next : K.lookup a__law_next = some ⟨oc__law_next, od__law_next, .func (PySem.W.fnOf "_law_next" "_law_next" (defArgs s__law_next) (defBody s__law_next) (defScope s__law_next) .none kV__law_next dc__law_next pm__law_next an__law_next cd__law_next ct__law_next), sl__law_next⟩)
    (e__law_next : PySem.W.codeIn K cd__law_next "_law_next" = true)
    (k__law_next : PySem.W.keepIn K (.ref a__law_next) = true)
    (a__law_sender_is' : PySem.W.nsIn K mainGlobals "_law_sender_is" = some (some (.ref a__law_sender_is)))
    (l__law_sender_is : K.lookup a__law_sender_is = some ⟨oc__law_sender_is, od__law_sender_is, .func (PySem.W.fnOf "_law_sender_is" "_law_sender_is" (defArgs s__law_sender_is) (defBody s__law_sender_is) (defScope s__law_sender_is) .none kV__law_sender_is dc__law_sender_is pm__law_sender_is an__law_sender_is cd__law_sender_is ct__law_sender_is), sl__law_sender_is⟩)
    (e__law_sender_is : PySem.W.codeIn K cd__law_sender_is "_law_sender_is" = true)
    (k__law_sender_is : PySem.W.keepIn K (.ref a__law_sender_is) = true)
    (a__law_receiver_is' : PySem.W.nsIn K mainGlobals "_law_receiver_is" = some (some (.ref a__law_receiver_is)))
    (l__law_receiver_is : K.lookup a__law_receiver_is = some ⟨oc__law_receiver_is, od__law_receiver_is, .func (PySem.W.fnOf "_law_receiver_is" "_law_receiver_is" (defArgs s__law_receiver_is) (defBody s__law_receiver_is) (defScope s__law_receiver_is) .none kV__law_receiver_is dc__law_receiver_is pm__law_receiver_is an__law_receiver_is cd__law_receiver_is ct__law_receiver_is), sl__law_receiver_is⟩)
    (e__law_receiver_is : PySem.W.codeIn K cd__law_receiver_is "_law_receiver_is" = true)
    (k__law_receiver_is : PySem.W.keepIn K (.ref a__law_receiver_is) = true)
    (a__law_writes' : PySem.W.nsIn K mainGlobals "_law_writes" = some (some (.ref a__law_writes)))
    (l__law_writes : K.lookup a__law_writes = some ⟨oc__law_writes, od__law_writes, .func (PySem.W.fnOf "_law_writes" "_law_writes" (defArgs s__law_writes) (defBody s__law_writes) (defScope s__law_writes) .none kV__law_writes dc__law_writes pm__law_writes an__law_writes cd__law_writes ct__law_writes), sl__law_writes⟩)
    (e__law_writes : PySem.W.codeIn K cd__law_writes "_law_writes" = true)
    (k__law_writes : PySem.W.keepIn K (.ref a__law_writes) = true)
    (a__law_cuts' : PySem.W.nsIn K mainGlobals "_law_cuts" = some (some (.ref a__law_cuts)))
    (l__law_cuts : K.lookup a__law_cuts = some ⟨oc__law_cuts, od__law_cuts, .func (PySem.W.fnOf "_law_cuts" "_law_cuts" (defArgs s__law_cuts) (defBody s__law_cuts) (defScope s__law_cuts) .none kV__law_cuts dc__law_cuts pm__law_cuts an__law_cuts cd__law_cuts ct__law_cuts), sl__law_cuts⟩)
    (e__law_cuts : PySem.W.codeIn K cd__law_cuts "_law_cuts" = true)
    (k__law_cuts : PySem.W.keepIn K (.ref a__law_cuts) = true)
    (a__law_arrives' : PySem.W.nsIn K mainGlobals "_law_arrives" = some (some (.ref a__law_arrives)))
    (l__law_arrives : K.lookup a__law_arrives = some ⟨oc__law_arrives, od__law_arrives, .func (PySem.W.fnOf "_law_arrives" "_law_arrives" (defArgs s__law_arrives) (defBody s__law_arrives) (defScope s__law_arrives) .none kV__law_arrives dc__law_arrives pm__law_arrives an__law_arrives cd__law_arrives ct__law_arrives), sl__law_arrives⟩)
    (e__law_arrives : PySem.W.codeIn K cd__law_arrives "_law_arrives" = true)
    (k__law_arrives : PySem.W.keepIn K (.ref a__law_arrives) = true)
    (a__law_delivers' : PySem.W.nsIn K mainGlobals "_law_delivers" = some (some (.ref a__law_delivers)))
    (l__law_delivers : K.lookup a__law_delivers = some ⟨oc__law_delivers, od__law_delivers, .func (PySem.W.fnOf "_law_delivers" "_law_delivers" (defArgs s__law_delivers) (defBody s__law_delivers) (defScope s__law_delivers) .none kV__law_delivers dc__law_delivers pm__law_delivers an__law_delivers cd__law_delivers ct__law_delivers), sl__law_delivers⟩)
    (e__law_delivers : PySem.W.codeIn K cd__law_delivers "_law_delivers" = true)
    (k__law_delivers : PySem.W.keepIn K (.ref a__law_delivers) = true)
    (a__law_reads' : PySem.W.nsIn K mainGlobals "_law_reads" = some (some (.ref a__law_reads)))
    (l__law_reads : K.lookup a__law_reads = some ⟨oc__law_reads, od__law_reads, .func (PySem.W.fnOf "_law_reads" "_law_reads" (defArgs s__law_reads) (defBody s__law_reads) (defScope s__law_reads) .none kV__law_reads dc__law_reads pm__law_reads an__law_reads cd__law_reads ct__law_reads), sl__law_reads⟩)
    (e__law_reads : PySem.W.codeIn K cd__law_reads "_law_reads" = true)
    (k__law_reads : PySem.W.keepIn K (.ref a__law_reads) = true)
    (a__law_releases' : PySem.W.nsIn K mainGlobals "_law_releases" = some (some (.ref a__law_releases)))
    (l__law_releases : K.lookup a__law_releases = some ⟨oc__law_releases, od__law_releases, .func (PySem.W.fnOf "_law_releases" "_law_releases" (defArgs s__law_releases) (defBody s__law_releases) (defScope s__law_releases) .none kV__law_releases dc__law_releases pm__law_releases an__law_releases cd__law_releases ct__law_releases), sl__law_releases⟩)
    (e__law_releases : PySem.W.codeIn K cd__law_releases "_law_releases" = true)
    (k__law_releases : PySem.W.keepIn K (.ref a__law_releases) = true)
    (a__law_deed' : PySem.W.nsIn K mainGlobals "_law_deed" = some (some (.ref a__law_deed)))
    (l__law_deed : K.lookup a__law_deed = some ⟨oc__law_deed, od__law_deed, .func (PySem.W.fnOf "_law_deed" "_law_deed" (defArgs s__law_deed) (defBody s__law_deed) (defScope s__law_deed) .none kV__law_deed dc__law_deed pm__law_deed an__law_deed cd__law_deed ct__law_deed), sl__law_deed⟩)
    (e__law_deed : PySem.W.codeIn K cd__law_deed "_law_deed" = true)
    (k__law_deed : PySem.W.keepIn K (.ref a__law_deed) = true)
    (a__law_brings_all' : PySem.W.nsIn K mainGlobals "_law_brings_all" = some (some (.ref a__law_brings_all)))
    (l__law_brings_all : K.lookup a__law_brings_all = some ⟨oc__law_brings_all, od__law_brings_all, .func (PySem.W.fnOf "_law_brings_all" "_law_brings_all" (defArgs s__law_brings_all) (defBody s__law_brings_all) (defScope s__law_brings_all) .none kV__law_brings_all dc__law_brings_all pm__law_brings_all an__law_brings_all cd__law_brings_all ct__law_brings_all), sl__law_brings_all⟩)
    (e__law_brings_all : PySem.W.codeIn K cd__law_brings_all "_law_brings_all" = true)
    (k__law_brings_all : PySem.W.keepIn K (.ref a__law_brings_all) = true)
    (a_law' : PySem.W.nsIn K mainGlobals "law" = some (some (.ref a_law)))
    (l_law : K.lookup a_law = some ⟨oc_law, od_law, .func (PySem.W.fnOf "law" "law" (defArgs s_law) (defBody s_law) (defScope s_law) .none kV_law dc_law pm_law an_law cd_law ct_law), sl_law⟩)
    (e_law : PySem.W.codeIn K cd_law "law" = true)
    (k_law : PySem.W.keepIn K (.ref a_law) = true)
    (z_NotImplemented : PySem.W.nsIn K mainGlobals "NotImplemented" = some none)
    (z_abs : PySem.W.nsIn K mainGlobals "abs" = some none)
    (z_bool : PySem.W.nsIn K mainGlobals "bool" = some none)
    (z_int : PySem.W.nsIn K mainGlobals "int" = some none)
    (z_isinstance : PySem.W.nsIn K mainGlobals "isinstance" = some none)
    (z_len : PySem.W.nsIn K mainGlobals "len" = some none)
    (z_list : PySem.W.nsIn K mainGlobals "list" = some none)
    (z_max : PySem.W.nsIn K mainGlobals "max" = some none)
    (z_min : PySem.W.nsIn K mainGlobals "min" = some none)
    (z_property : PySem.W.nsIn K mainGlobals "property" = some none)
    (z_range : PySem.W.nsIn K mainGlobals "range" = some none)
    (z_reversed : PySem.W.nsIn K mainGlobals "reversed" = some none)
    (z_sorted : PySem.W.nsIn K mainGlobals "sorted" = some none)
    (z_sum : PySem.W.nsIn K mainGlobals "sum" = some none)
    (z_tuple : PySem.W.nsIn K mainGlobals "tuple" = some none)
    (xm'_InvalidNumber : PySem.HandSPX.refsVE xm_InvalidNumber = true)
    (xm'_InvalidSetting : PySem.HandSPX.refsVE xm_InvalidSetting = true)
    (xm'_NotAllowed : PySem.HandSPX.refsVE xm_NotAllowed = true)
    : ∃ fd : FuncData, (∀ (s : Shared) (v : Value), BindsTo s fd ⟨[v], []⟩ [("script", v)]) ∧ ∀ base : Heap, K.In base → base.Ns mainGlobals mg → FnOk l.prog w K mg base CX0 12 fa fd ["script"] (sp_law K) := by
  have e : fa = a_law := by
    have e0 := hfa.symm.trans (PySem.W.mg_of X G a_law')
    cases e0
    rfl
  rw [e]
  have F_InvalidNumber_init_ := fun_mk (st := s_InvalidNumber_init_) l_InvalidNumber_init_ e_InvalidNumber_init_ k_InvalidNumber_init_
  have F_InvalidSetting_init_ := fun_mk (st := s_InvalidSetting_init_) l_InvalidSetting_init_ e_InvalidSetting_init_ k_InvalidSetting_init_
  have F_NotAllowed_init_ := fun_mk (st := s_NotAllowed_init_) l_NotAllowed_init_ e_NotAllowed_init_ k_NotAllowed_init_
  have F_is_integer := fun_mk (st := s_is_integer) l_is_integer e_is_integer k_is_integer
  have F_is_between := fun_mk (st := s_is_between) l_is_between e_is_between k_is_between
  have F_is_at_least := fun_mk (st := s_is_at_least) l_is_at_least e_is_at_least k_is_at_least
  have F_is_byte := fun_mk (st := s_is_byte) l_is_byte e_is_byte k_is_byte
  have F_is_sequence := fun_mk (st := s_is_sequence) l_is_sequence e_is_sequence k_is_sequence
  have F_require_data := fun_mk (st := s_require_data) l_require_data e_require_data k_require_data
  have F_require_limit := fun_mk (st := s_require_limit) l_require_limit e_require_limit k_require_limit
  have F_is_run := fun_mk (st := s_is_run) l_is_run e_is_run k_is_run
  have F_joined := fun_mk (st := s_joined) l_joined e_joined k_joined
  have F_missing := fun_mk (st := s_missing) l_missing e_missing k_missing
  have F_common := fun_mk (st := s_common) l_common e_common k_common
  have F_without := fun_mk (st := s_without) l_without e_without k_without
  have F_Spans_init_ := fun_mk (st := s_Spans_init_) l_Spans_init_ e_Spans_init_ k_Spans_init_
  have F_Spans_put := fun_mk (st := s_Spans_put) l_Spans_put e_Spans_put k_Spans_put
  have F_Spans_drop := fun_mk (st := s_Spans_drop) l_Spans_drop e_Spans_drop k_Spans_drop
  have F_Spans_holding := fun_mk (st := s_Spans_holding) l_Spans_holding e_Spans_holding k_Spans_holding
  have F_Spans_gaps := fun_mk (st := s_Spans_gaps) l_Spans_gaps e_Spans_gaps k_Spans_gaps
  have F_Spans_highest := fun_mk (st := s_Spans_highest) l_Spans_highest e_Spans_highest k_Spans_highest
  have F_Inbox_init_ := fun_mk (st := s_Inbox_init_) l_Inbox_init_ e_Inbox_init_ k_Inbox_init_
  have F_Inbox_limit := fun_mk (st := s_Inbox_limit) l_Inbox_limit e_Inbox_limit k_Inbox_limit
  have F_Inbox_limit_set := fun_mk (st := s_Inbox_limit_set) l_Inbox_limit_set e_Inbox_limit_set k_Inbox_limit_set
  have F_Inbox_edge := fun_mk (st := s_Inbox_edge) l_Inbox_edge e_Inbox_edge k_Inbox_edge
  have F_Inbox_ready := fun_mk (st := s_Inbox_ready) l_Inbox_ready e_Inbox_ready k_Inbox_ready
  have F_Inbox_ended := fun_mk (st := s_Inbox_ended) l_Inbox_ended e_Inbox_ended k_Inbox_ended
  have F_Inbox_expected := fun_mk (st := s_Inbox_expected) l_Inbox_expected e_Inbox_expected k_Inbox_expected
  have F_Inbox_urgent_count := fun_mk (st := s_Inbox_urgent_count) l_Inbox_urgent_count e_Inbox_urgent_count k_Inbox_urgent_count
  have F_Inbox_take := fun_mk (st := s_Inbox_take) l_Inbox_take e_Inbox_take k_Inbox_take
  have F_Inbox_stop := fun_mk (st := s_Inbox_stop) l_Inbox_stop e_Inbox_stop k_Inbox_stop
  have F_Inbox_move_on := fun_mk (st := s_Inbox_move_on) l_Inbox_move_on e_Inbox_move_on k_Inbox_move_on
  have F_Inbox_finish := fun_mk (st := s_Inbox_finish) l_Inbox_finish e_Inbox_finish k_Inbox_finish
  have F_Inbox_read := fun_mk (st := s_Inbox_read) l_Inbox_read e_Inbox_read k_Inbox_read
  have F_Inbox_mark_urgent := fun_mk (st := s_Inbox_mark_urgent) l_Inbox_mark_urgent e_Inbox_mark_urgent k_Inbox_mark_urgent
  have F_Outbox_init_ := fun_mk (st := s_Outbox_init_) l_Outbox_init_ e_Outbox_init_ k_Outbox_init_
  have F_Outbox_limit := fun_mk (st := s_Outbox_limit) l_Outbox_limit e_Outbox_limit k_Outbox_limit
  have F_Outbox_limit_set := fun_mk (st := s_Outbox_limit_set) l_Outbox_limit_set e_Outbox_limit_set k_Outbox_limit_set
  have F_Outbox_free := fun_mk (st := s_Outbox_free) l_Outbox_free e_Outbox_free k_Outbox_free
  have F_Outbox_bound := fun_mk (st := s_Outbox_bound) l_Outbox_bound e_Outbox_bound k_Outbox_bound
  have F_Outbox_put := fun_mk (st := s_Outbox_put) l_Outbox_put e_Outbox_put k_Outbox_put
  have F_Outbox_urge := fun_mk (st := s_Outbox_urge) l_Outbox_urge e_Outbox_urge k_Outbox_urge
  have F_Outbox_shut := fun_mk (st := s_Outbox_shut) l_Outbox_shut e_Outbox_shut k_Outbox_shut
  have F_Outbox_cut := fun_mk (st := s_Outbox_cut) l_Outbox_cut e_Outbox_cut k_Outbox_cut
  have F_Outbox_release := fun_mk (st := s_Outbox_release) l_Outbox_release e_Outbox_release k_Outbox_release
  have F__law_box := fun_mk (st := s__law_box) l__law_box e__law_box k__law_box
  have F__law_draw := fun_mk (st := s__law_draw) l__law_draw e__law_draw k__law_draw
  have F__law_is_whole := fun_mk (st := s__law_is_whole) l__law_is_whole e__law_is_whole k__law_is_whole
  have F__law_bytes := fun_mk (st := s__law_bytes) l__law_bytes e__law_bytes k__law_bytes
  have F__law_tuple_is := fun_mk (st := s__law_tuple_is) l__law_tuple_is e__law_tuple_is k__law_tuple_is
  have F__law_receiver := fun_mk (st := s__law_receiver) l__law_receiver e__law_receiver k__law_receiver
  have F__law_next := fun_mk (st := s__law_next) l__law_next e__law_next k__law_next
  have F__law_sender_is := fun_mk (st := s__law_sender_is) l__law_sender_is e__law_sender_is k__law_sender_is
  have F__law_receiver_is := fun_mk (st := s__law_receiver_is) l__law_receiver_is e__law_receiver_is k__law_receiver_is
  have F__law_writes := fun_mk (st := s__law_writes) l__law_writes e__law_writes k__law_writes
  have F__law_cuts := fun_mk (st := s__law_cuts) l__law_cuts e__law_cuts k__law_cuts
  have F__law_arrives := fun_mk (st := s__law_arrives) l__law_arrives e__law_arrives k__law_arrives
  have F__law_delivers := fun_mk (st := s__law_delivers) l__law_delivers e__law_delivers k__law_delivers
  have F__law_reads := fun_mk (st := s__law_reads) l__law_reads e__law_reads k__law_reads
  have F__law_releases := fun_mk (st := s__law_releases) l__law_releases e__law_releases k__law_releases
  have F__law_deed := fun_mk (st := s__law_deed) l__law_deed e__law_deed k__law_deed
  have F__law_brings_all := fun_mk (st := s__law_brings_all) l__law_brings_all e__law_brings_all k__law_brings_all
  have F_law := fun_mk (st := s_law) l_law e_law k_law
  let T : Txt K mg := {
    c_Spans := c_Spans,
    g_Spans := PySem.W.mg_of X G aC_Spans,
    cl_Spans := ⟨pg_Spans, hd_Spans, po_Spans, sa_Spans⟩,
    n_Spans__runs := n_Spans__runs,
    c_Inbox := c_Inbox,
    g_Inbox := PySem.W.mg_of X G aC_Inbox,
    cl_Inbox := ⟨pg_Inbox, hd_Inbox, po_Inbox, sa_Inbox⟩,
    n_Inbox__limit := n_Inbox__limit,
    n_Inbox_next_offset := n_Inbox_next_offset,
    n_Inbox_read_offset := n_Inbox_read_offset,
    n_Inbox_final := n_Inbox_final,
    n_Inbox_urgent_end := n_Inbox_urgent_end,
    n_Inbox__stored := n_Inbox__stored,
    n_Inbox__ahead := n_Inbox__ahead,
    n_Inbox__latest := n_Inbox__latest,
    c_Outbox := c_Outbox,
    g_Outbox := PySem.W.mg_of X G aC_Outbox,
    cl_Outbox := ⟨pg_Outbox, hd_Outbox, po_Outbox, sa_Outbox⟩,
    n_Outbox__limit := n_Outbox__limit,
    n_Outbox_base := n_Outbox_base,
    n_Outbox_end := n_Outbox_end,
    n_Outbox_closed := n_Outbox_closed,
    n_Outbox_urgent_end := n_Outbox_urgent_end,
    n_Outbox__kept := n_Outbox__kept,
    c_LossError := c_LossError,
    X_LossError := ⟨PySem.W.mg_of X G aC_LossError⟩,
    c_InvalidNumber := c_InvalidNumber,
    X_InvalidNumber := xcls_mk (PySem.W.mg_of X G aC_InvalidNumber) xl_InvalidNumber xm'_InvalidNumber sa_InvalidNumber xx_InvalidNumber xt_InvalidNumber xk_InvalidNumber xi_InvalidNumber xf_InvalidNumber_init_ xg_InvalidNumber xh_InvalidNumber xy_InvalidNumber xc_InvalidNumber x_get x_tk xr_InvalidNumber,
    nX_InvalidNumber := nX_InvalidNumber,
    c_InvalidSetting := c_InvalidSetting,
    X_InvalidSetting := xcls_mk (PySem.W.mg_of X G aC_InvalidSetting) xl_InvalidSetting xm'_InvalidSetting sa_InvalidSetting xx_InvalidSetting xt_InvalidSetting xk_InvalidSetting xi_InvalidSetting xf_InvalidSetting_init_ xg_InvalidSetting xh_InvalidSetting xy_InvalidSetting xc_InvalidSetting x_get x_tk xr_InvalidSetting,
    nX_InvalidSetting := nX_InvalidSetting,
    c_NotAllowed := c_NotAllowed,
    X_NotAllowed := xcls_mk (PySem.W.mg_of X G aC_NotAllowed) xl_NotAllowed xm'_NotAllowed sa_NotAllowed xx_NotAllowed xt_NotAllowed xk_NotAllowed xi_NotAllowed xf_NotAllowed_init_ xg_NotAllowed xh_NotAllowed xy_NotAllowed xc_NotAllowed x_get x_tk xr_NotAllowed,
    nX_NotAllowed := nX_NotAllowed,
    a_InvalidNumber_init_ := a_InvalidNumber_init_,
    fd_InvalidNumber_init_ := PySem.W.fnOf "__init__" "InvalidNumber.__init__" (defArgs s_InvalidNumber_init_) (defBody s_InvalidNumber_init_) (defScope s_InvalidNumber_init_) .none kV_InvalidNumber_init_ dc_InvalidNumber_init_ pm_InvalidNumber_init_ an_InvalidNumber_init_ cd_InvalidNumber_init_ ct_InvalidNumber_init_,
    F_InvalidNumber_init_ := F_InvalidNumber_init_,
    B_InvalidNumber_init_ := F_InvalidNumber_init_.binds (ps := ["self", "number"]) fun _ _ _ _ _ _ us hl => match us, hl with | [_, _], _ => rfl,
    a_InvalidSetting_init_ := a_InvalidSetting_init_,
    fd_InvalidSetting_init_ := PySem.W.fnOf "__init__" "InvalidSetting.__init__" (defArgs s_InvalidSetting_init_) (defBody s_InvalidSetting_init_) (defScope s_InvalidSetting_init_) .none kV_InvalidSetting_init_ dc_InvalidSetting_init_ pm_InvalidSetting_init_ an_InvalidSetting_init_ cd_InvalidSetting_init_ ct_InvalidSetting_init_,
    F_InvalidSetting_init_ := F_InvalidSetting_init_,
    B_InvalidSetting_init_ := F_InvalidSetting_init_.binds (ps := ["self", "setting"]) fun _ _ _ _ _ _ us hl => match us, hl with | [_, _], _ => rfl,
    a_NotAllowed_init_ := a_NotAllowed_init_,
    fd_NotAllowed_init_ := PySem.W.fnOf "__init__" "NotAllowed.__init__" (defArgs s_NotAllowed_init_) (defBody s_NotAllowed_init_) (defScope s_NotAllowed_init_) .none kV_NotAllowed_init_ dc_NotAllowed_init_ pm_NotAllowed_init_ an_NotAllowed_init_ cd_NotAllowed_init_ ct_NotAllowed_init_,
    F_NotAllowed_init_ := F_NotAllowed_init_,
    B_NotAllowed_init_ := F_NotAllowed_init_.binds (ps := ["self", "state"]) fun _ _ _ _ _ _ us hl => match us, hl with | [_, _], _ => rfl,
    a_is_integer := a_is_integer,
    fd_is_integer := PySem.W.fnOf "is_integer" "is_integer" (defArgs s_is_integer) (defBody s_is_integer) (defScope s_is_integer) .none kV_is_integer dc_is_integer pm_is_integer an_is_integer cd_is_integer ct_is_integer,
    F_is_integer := F_is_integer,
    B_is_integer := F_is_integer.binds (ps := ["value"]) fun _ _ _ _ _ _ us hl => match us, hl with | [_], _ => rfl,
    g_is_integer := PySem.W.mg_of X G a_is_integer',
    a_is_between := a_is_between,
    fd_is_between := PySem.W.fnOf "is_between" "is_between" (defArgs s_is_between) (defBody s_is_between) (defScope s_is_between) .none kV_is_between dc_is_between pm_is_between an_is_between cd_is_between ct_is_between,
    F_is_between := F_is_between,
    B_is_between := F_is_between.binds (ps := ["value", "low", "high"]) fun _ _ _ _ _ _ us hl => match us, hl with | [_, _, _], _ => rfl,
    g_is_between := PySem.W.mg_of X G a_is_between',
    a_is_at_least := a_is_at_least,
    fd_is_at_least := PySem.W.fnOf "is_at_least" "is_at_least" (defArgs s_is_at_least) (defBody s_is_at_least) (defScope s_is_at_least) .none kV_is_at_least dc_is_at_least pm_is_at_least an_is_at_least cd_is_at_least ct_is_at_least,
    F_is_at_least := F_is_at_least,
    B_is_at_least := F_is_at_least.binds (ps := ["value", "low"]) fun _ _ _ _ _ _ us hl => match us, hl with | [_, _], _ => rfl,
    g_is_at_least := PySem.W.mg_of X G a_is_at_least',
    a_is_byte := a_is_byte,
    fd_is_byte := PySem.W.fnOf "is_byte" "is_byte" (defArgs s_is_byte) (defBody s_is_byte) (defScope s_is_byte) .none kV_is_byte dc_is_byte pm_is_byte an_is_byte cd_is_byte ct_is_byte,
    F_is_byte := F_is_byte,
    B_is_byte := F_is_byte.binds (ps := ["value"]) fun _ _ _ _ _ _ us hl => match us, hl with | [_], _ => rfl,
    g_is_byte := PySem.W.mg_of X G a_is_byte',
    a_is_sequence := a_is_sequence,
    fd_is_sequence := PySem.W.fnOf "is_sequence" "is_sequence" (defArgs s_is_sequence) (defBody s_is_sequence) (defScope s_is_sequence) .none kV_is_sequence dc_is_sequence pm_is_sequence an_is_sequence cd_is_sequence ct_is_sequence,
    F_is_sequence := F_is_sequence,
    B_is_sequence := F_is_sequence.binds (ps := ["value"]) fun _ _ _ _ _ _ us hl => match us, hl with | [_], _ => rfl,
    g_is_sequence := PySem.W.mg_of X G a_is_sequence',
    a_require_data := a_require_data,
    fd_require_data := PySem.W.fnOf "require_data" "require_data" (defArgs s_require_data) (defBody s_require_data) (defScope s_require_data) .none kV_require_data dc_require_data pm_require_data an_require_data cd_require_data ct_require_data,
    F_require_data := F_require_data,
    B_require_data := F_require_data.binds (ps := ["data"]) fun _ _ _ _ _ _ us hl => match us, hl with | [_], _ => rfl,
    g_require_data := PySem.W.mg_of X G a_require_data',
    a_require_limit := a_require_limit,
    fd_require_limit := PySem.W.fnOf "require_limit" "require_limit" (defArgs s_require_limit) (defBody s_require_limit) (defScope s_require_limit) .none kV_require_limit dc_require_limit pm_require_limit an_require_limit cd_require_limit ct_require_limit,
    F_require_limit := F_require_limit,
    B_require_limit := F_require_limit.binds (ps := ["limit"]) fun _ _ _ _ _ _ us hl => match us, hl with | [_], _ => rfl,
    g_require_limit := PySem.W.mg_of X G a_require_limit',
    a_is_run := a_is_run,
    fd_is_run := PySem.W.fnOf "is_run" "is_run" (defArgs s_is_run) (defBody s_is_run) (defScope s_is_run) .none kV_is_run dc_is_run pm_is_run an_is_run cd_is_run ct_is_run,
    F_is_run := F_is_run,
    B_is_run := F_is_run.binds (ps := ["pair"]) fun _ _ _ _ _ _ us hl => match us, hl with | [_], _ => rfl,
    g_is_run := PySem.W.mg_of X G a_is_run',
    a_joined := a_joined,
    fd_joined := PySem.W.fnOf "joined" "joined" (defArgs s_joined) (defBody s_joined) (defScope s_joined) .none kV_joined dc_joined pm_joined an_joined cd_joined ct_joined,
    F_joined := F_joined,
    B_joined := F_joined.binds (ps := ["pairs"]) fun _ _ _ _ _ _ us hl => match us, hl with | [_], _ => rfl,
    g_joined := PySem.W.mg_of X G a_joined',
    a_missing := a_missing,
    fd_missing := PySem.W.fnOf "missing" "missing" (defArgs s_missing) (defBody s_missing) (defScope s_missing) .none kV_missing dc_missing pm_missing an_missing cd_missing ct_missing,
    F_missing := F_missing,
    B_missing := F_missing.binds (ps := ["runs", "low", "high"]) fun _ _ _ _ _ _ us hl => match us, hl with | [_, _, _], _ => rfl,
    g_missing := PySem.W.mg_of X G a_missing',
    a_common := a_common,
    fd_common := PySem.W.fnOf "common" "common" (defArgs s_common) (defBody s_common) (defScope s_common) .none kV_common dc_common pm_common an_common cd_common ct_common,
    F_common := F_common,
    B_common := F_common.binds (ps := ["first", "second"]) fun _ _ _ _ _ _ us hl => match us, hl with | [_, _], _ => rfl,
    g_common := PySem.W.mg_of X G a_common',
    a_without := a_without,
    fd_without := PySem.W.fnOf "without" "without" (defArgs s_without) (defBody s_without) (defScope s_without) .none kV_without dc_without pm_without an_without cd_without ct_without,
    F_without := F_without,
    B_without := F_without.binds (ps := ["first", "second"]) fun _ _ _ _ _ _ us hl => match us, hl with | [_, _], _ => rfl,
    g_without := PySem.W.mg_of X G a_without',
    a_Spans_init_ := a_Spans_init_,
    fd_Spans_init_ := PySem.W.fnOf "__init__" "Spans.__init__" (defArgs s_Spans_init_) (defBody s_Spans_init_) (defScope s_Spans_init_) .none kV_Spans_init_ dc_Spans_init_ pm_Spans_init_ an_Spans_init_ cd_Spans_init_ ct_Spans_init_,
    F_Spans_init_ := F_Spans_init_,
    BS_Spans_init_ := ⟨fun us rest hl => match us, rest, hl with | [_], [], _ => rfl | [_], _ :: _, _ => rfl⟩,
    M_Spans := ⟨mk_Spans, a_Spans_init_', i_Spans_init_, kc_Spans⟩,
    a_Spans_put := a_Spans_put,
    fd_Spans_put := PySem.W.fnOf "put" "Spans.put" (defArgs s_Spans_put) (defBody s_Spans_put) (defScope s_Spans_put) .none kV_Spans_put dc_Spans_put pm_Spans_put an_Spans_put cd_Spans_put ct_Spans_put,
    F_Spans_put := F_Spans_put,
    B_Spans_put := F_Spans_put.binds (ps := ["self", "low", "high"]) fun _ _ _ _ _ _ us hl => match us, hl with | [_, _, _], _ => rfl,
    m_Spans_put := ⟨a_Spans_put', i_Spans_put, k_Spans_put⟩,
    a_Spans_drop := a_Spans_drop,
    fd_Spans_drop := PySem.W.fnOf "drop" "Spans.drop" (defArgs s_Spans_drop) (defBody s_Spans_drop) (defScope s_Spans_drop) .none kV_Spans_drop dc_Spans_drop pm_Spans_drop an_Spans_drop cd_Spans_drop ct_Spans_drop,
    F_Spans_drop := F_Spans_drop,
    B_Spans_drop := F_Spans_drop.binds (ps := ["self", "low", "high"]) fun _ _ _ _ _ _ us hl => match us, hl with | [_, _, _], _ => rfl,
    m_Spans_drop := ⟨a_Spans_drop', i_Spans_drop, k_Spans_drop⟩,
    a_Spans_holding := a_Spans_holding,
    fd_Spans_holding := PySem.W.fnOf "holding" "Spans.holding" (defArgs s_Spans_holding) (defBody s_Spans_holding) (defScope s_Spans_holding) .none kV_Spans_holding dc_Spans_holding pm_Spans_holding an_Spans_holding cd_Spans_holding ct_Spans_holding,
    F_Spans_holding := F_Spans_holding,
    B_Spans_holding := F_Spans_holding.binds (ps := ["self", "offset"]) fun _ _ _ _ _ _ us hl => match us, hl with | [_, _], _ => rfl,
    m_Spans_holding := ⟨a_Spans_holding', i_Spans_holding, k_Spans_holding⟩,
    a_Spans_gaps := a_Spans_gaps,
    fd_Spans_gaps := PySem.W.fnOf "gaps" "Spans.gaps" (defArgs s_Spans_gaps) (defBody s_Spans_gaps) (defScope s_Spans_gaps) .none kV_Spans_gaps dc_Spans_gaps pm_Spans_gaps an_Spans_gaps cd_Spans_gaps ct_Spans_gaps,
    F_Spans_gaps := F_Spans_gaps,
    B_Spans_gaps := F_Spans_gaps.binds (ps := ["self", "low", "high"]) fun _ _ _ _ _ _ us hl => match us, hl with | [_, _, _], _ => rfl,
    m_Spans_gaps := ⟨a_Spans_gaps', i_Spans_gaps, k_Spans_gaps⟩,
    a_Spans_highest := a_Spans_highest,
    fd_Spans_highest := PySem.W.fnOf "highest" "Spans.highest" (defArgs s_Spans_highest) (defBody s_Spans_highest) (defScope s_Spans_highest) .none kV_Spans_highest dc_Spans_highest pm_Spans_highest an_Spans_highest cd_Spans_highest ct_Spans_highest,
    F_Spans_highest := F_Spans_highest,
    B_Spans_highest := F_Spans_highest.binds (ps := ["self", "count"]) fun _ _ _ _ _ _ us hl => match us, hl with | [_, _], _ => rfl,
    m_Spans_highest := ⟨a_Spans_highest', i_Spans_highest, k_Spans_highest⟩,
    a_Inbox_init_ := a_Inbox_init_,
    fd_Inbox_init_ := PySem.W.fnOf "__init__" "Inbox.__init__" (defArgs s_Inbox_init_) (defBody s_Inbox_init_) (defScope s_Inbox_init_) .none kV_Inbox_init_ dc_Inbox_init_ pm_Inbox_init_ an_Inbox_init_ cd_Inbox_init_ ct_Inbox_init_,
    F_Inbox_init_ := F_Inbox_init_,
    B_Inbox_init_ := F_Inbox_init_.binds (ps := ["self", "limit"]) fun _ _ _ _ _ _ us hl => match us, hl with | [_, _], _ => rfl,
    M_Inbox := ⟨mk_Inbox, a_Inbox_init_', i_Inbox_init_, kc_Inbox⟩,
    a_Inbox_limit := a_Inbox_limit,
    fd_Inbox_limit := PySem.W.fnOf "limit" "Inbox.limit" (defArgs s_Inbox_limit) (defBody s_Inbox_limit) (defScope s_Inbox_limit) .none kV_Inbox_limit dc_Inbox_limit pm_Inbox_limit an_Inbox_limit cd_Inbox_limit ct_Inbox_limit,
    F_Inbox_limit := F_Inbox_limit,
    B_Inbox_limit := F_Inbox_limit.binds (ps := ["self"]) fun _ _ _ _ _ _ us hl => match us, hl with | [_], _ => rfl,
    p_Inbox_limit := p_Inbox_limit,
    PR_Inbox_limit := ⟨a_Inbox_limit', pg_Inbox_limit, pt_Inbox_limit, ⟨_, rc_Inbox_limit⟩⟩,
    a_Inbox_limit_set := a_Inbox_limit_set,
    fd_Inbox_limit_set := PySem.W.fnOf "limit" "Inbox.limit" (defArgs s_Inbox_limit_set) (defBody s_Inbox_limit_set) (defScope s_Inbox_limit_set) .none kV_Inbox_limit_set dc_Inbox_limit_set pm_Inbox_limit_set an_Inbox_limit_set cd_Inbox_limit_set ct_Inbox_limit_set,
    F_Inbox_limit_set := F_Inbox_limit_set,
    B_Inbox_limit_set := F_Inbox_limit_set.binds (ps := ["self", "value"]) fun _ _ _ _ _ _ us hl => match us, hl with | [_, _], _ => rfl,
    SE_Inbox_limit_set := ⟨a_Inbox_limit', pt_Inbox_limit, ty_Inbox_limit_set, ⟨_, _, rx_Inbox_limit_set⟩⟩,
    a_Inbox_edge := a_Inbox_edge,
    fd_Inbox_edge := PySem.W.fnOf "edge" "Inbox.edge" (defArgs s_Inbox_edge) (defBody s_Inbox_edge) (defScope s_Inbox_edge) .none kV_Inbox_edge dc_Inbox_edge pm_Inbox_edge an_Inbox_edge cd_Inbox_edge ct_Inbox_edge,
    F_Inbox_edge := F_Inbox_edge,
    B_Inbox_edge := F_Inbox_edge.binds (ps := ["self"]) fun _ _ _ _ _ _ us hl => match us, hl with | [_], _ => rfl,
    p_Inbox_edge := p_Inbox_edge,
    PR_Inbox_edge := ⟨a_Inbox_edge', pg_Inbox_edge, pt_Inbox_edge, ⟨_, rc_Inbox_edge⟩⟩,
    a_Inbox_ready := a_Inbox_ready,
    fd_Inbox_ready := PySem.W.fnOf "ready" "Inbox.ready" (defArgs s_Inbox_ready) (defBody s_Inbox_ready) (defScope s_Inbox_ready) .none kV_Inbox_ready dc_Inbox_ready pm_Inbox_ready an_Inbox_ready cd_Inbox_ready ct_Inbox_ready,
    F_Inbox_ready := F_Inbox_ready,
    B_Inbox_ready := F_Inbox_ready.binds (ps := ["self"]) fun _ _ _ _ _ _ us hl => match us, hl with | [_], _ => rfl,
    p_Inbox_ready := p_Inbox_ready,
    PR_Inbox_ready := ⟨a_Inbox_ready', pg_Inbox_ready, pt_Inbox_ready, ⟨_, rc_Inbox_ready⟩⟩,
    a_Inbox_ended := a_Inbox_ended,
    fd_Inbox_ended := PySem.W.fnOf "ended" "Inbox.ended" (defArgs s_Inbox_ended) (defBody s_Inbox_ended) (defScope s_Inbox_ended) .none kV_Inbox_ended dc_Inbox_ended pm_Inbox_ended an_Inbox_ended cd_Inbox_ended ct_Inbox_ended,
    F_Inbox_ended := F_Inbox_ended,
    B_Inbox_ended := F_Inbox_ended.binds (ps := ["self"]) fun _ _ _ _ _ _ us hl => match us, hl with | [_], _ => rfl,
    p_Inbox_ended := p_Inbox_ended,
    PR_Inbox_ended := ⟨a_Inbox_ended', pg_Inbox_ended, pt_Inbox_ended, ⟨_, rc_Inbox_ended⟩⟩,
    a_Inbox_expected := a_Inbox_expected,
    fd_Inbox_expected := PySem.W.fnOf "expected" "Inbox.expected" (defArgs s_Inbox_expected) (defBody s_Inbox_expected) (defScope s_Inbox_expected) .none kV_Inbox_expected dc_Inbox_expected pm_Inbox_expected an_Inbox_expected cd_Inbox_expected ct_Inbox_expected,
    F_Inbox_expected := F_Inbox_expected,
    B_Inbox_expected := F_Inbox_expected.binds (ps := ["self"]) fun _ _ _ _ _ _ us hl => match us, hl with | [_], _ => rfl,
    p_Inbox_expected := p_Inbox_expected,
    PR_Inbox_expected := ⟨a_Inbox_expected', pg_Inbox_expected, pt_Inbox_expected, ⟨_, rc_Inbox_expected⟩⟩,
    a_Inbox_urgent_count := a_Inbox_urgent_count,
    fd_Inbox_urgent_count := PySem.W.fnOf "urgent_count" "Inbox.urgent_count" (defArgs s_Inbox_urgent_count) (defBody s_Inbox_urgent_count) (defScope s_Inbox_urgent_count) .none kV_Inbox_urgent_count dc_Inbox_urgent_count pm_Inbox_urgent_count an_Inbox_urgent_count cd_Inbox_urgent_count ct_Inbox_urgent_count,
    F_Inbox_urgent_count := F_Inbox_urgent_count,
    B_Inbox_urgent_count := F_Inbox_urgent_count.binds (ps := ["self"]) fun _ _ _ _ _ _ us hl => match us, hl with | [_], _ => rfl,
    p_Inbox_urgent_count := p_Inbox_urgent_count,
    PR_Inbox_urgent_count := ⟨a_Inbox_urgent_count', pg_Inbox_urgent_count, pt_Inbox_urgent_count, ⟨_, rc_Inbox_urgent_count⟩⟩,
    a_Inbox_take := a_Inbox_take,
    fd_Inbox_take := PySem.W.fnOf "take" "Inbox.take" (defArgs s_Inbox_take) (defBody s_Inbox_take) (defScope s_Inbox_take) .none kV_Inbox_take dc_Inbox_take pm_Inbox_take an_Inbox_take cd_Inbox_take ct_Inbox_take,
    F_Inbox_take := F_Inbox_take,
    B_Inbox_take := F_Inbox_take.binds (ps := ["self", "offset", "data"]) fun _ _ _ _ _ _ us hl => match us, hl with | [_, _, _], _ => rfl,
    m_Inbox_take := ⟨a_Inbox_take', i_Inbox_take, k_Inbox_take⟩,
    a_Inbox_stop := a_Inbox_stop,
    fd_Inbox_stop := PySem.W.fnOf "_stop" "Inbox._stop" (defArgs s_Inbox_stop) (defBody s_Inbox_stop) (defScope s_Inbox_stop) .none kV_Inbox_stop dc_Inbox_stop pm_Inbox_stop an_Inbox_stop cd_Inbox_stop ct_Inbox_stop,
    F_Inbox_stop := F_Inbox_stop,
    B_Inbox_stop := F_Inbox_stop.binds (ps := ["self"]) fun _ _ _ _ _ _ us hl => match us, hl with | [_], _ => rfl,
    m_Inbox_stop := ⟨a_Inbox_stop', i_Inbox_stop, k_Inbox_stop⟩,
    a_Inbox_move_on := a_Inbox_move_on,
    fd_Inbox_move_on := PySem.W.fnOf "_move_on" "Inbox._move_on" (defArgs s_Inbox_move_on) (defBody s_Inbox_move_on) (defScope s_Inbox_move_on) .none kV_Inbox_move_on dc_Inbox_move_on pm_Inbox_move_on an_Inbox_move_on cd_Inbox_move_on ct_Inbox_move_on,
    F_Inbox_move_on := F_Inbox_move_on,
    B_Inbox_move_on := F_Inbox_move_on.binds (ps := ["self"]) fun _ _ _ _ _ _ us hl => match us, hl with | [_], _ => rfl,
    m_Inbox_move_on := ⟨a_Inbox_move_on', i_Inbox_move_on, k_Inbox_move_on⟩,
    a_Inbox_finish := a_Inbox_finish,
    fd_Inbox_finish := PySem.W.fnOf "finish" "Inbox.finish" (defArgs s_Inbox_finish) (defBody s_Inbox_finish) (defScope s_Inbox_finish) .none kV_Inbox_finish dc_Inbox_finish pm_Inbox_finish an_Inbox_finish cd_Inbox_finish ct_Inbox_finish,
    F_Inbox_finish := F_Inbox_finish,
    B_Inbox_finish := F_Inbox_finish.binds (ps := ["self", "offset"]) fun _ _ _ _ _ _ us hl => match us, hl with | [_, _], _ => rfl,
    m_Inbox_finish := ⟨a_Inbox_finish', i_Inbox_finish, k_Inbox_finish⟩,
    a_Inbox_read := a_Inbox_read,
    fd_Inbox_read := PySem.W.fnOf "read" "Inbox.read" (defArgs s_Inbox_read) (defBody s_Inbox_read) (defScope s_Inbox_read) .none kV_Inbox_read dc_Inbox_read pm_Inbox_read an_Inbox_read cd_Inbox_read ct_Inbox_read,
    F_Inbox_read := F_Inbox_read,
    B_Inbox_read := F_Inbox_read.binds (ps := ["self", "count"]) fun _ _ _ _ _ _ us hl => match us, hl with | [_, _], _ => rfl,
    m_Inbox_read := ⟨a_Inbox_read', i_Inbox_read, k_Inbox_read⟩,
    a_Inbox_mark_urgent := a_Inbox_mark_urgent,
    fd_Inbox_mark_urgent := PySem.W.fnOf "mark_urgent" "Inbox.mark_urgent" (defArgs s_Inbox_mark_urgent) (defBody s_Inbox_mark_urgent) (defScope s_Inbox_mark_urgent) .none kV_Inbox_mark_urgent dc_Inbox_mark_urgent pm_Inbox_mark_urgent an_Inbox_mark_urgent cd_Inbox_mark_urgent ct_Inbox_mark_urgent,
    F_Inbox_mark_urgent := F_Inbox_mark_urgent,
    B_Inbox_mark_urgent := F_Inbox_mark_urgent.binds (ps := ["self", "offset"]) fun _ _ _ _ _ _ us hl => match us, hl with | [_, _], _ => rfl,
    m_Inbox_mark_urgent := ⟨a_Inbox_mark_urgent', i_Inbox_mark_urgent, k_Inbox_mark_urgent⟩,
    a_Outbox_init_ := a_Outbox_init_,
    fd_Outbox_init_ := PySem.W.fnOf "__init__" "Outbox.__init__" (defArgs s_Outbox_init_) (defBody s_Outbox_init_) (defScope s_Outbox_init_) .none kV_Outbox_init_ dc_Outbox_init_ pm_Outbox_init_ an_Outbox_init_ cd_Outbox_init_ ct_Outbox_init_,
    F_Outbox_init_ := F_Outbox_init_,
    B_Outbox_init_ := F_Outbox_init_.binds (ps := ["self", "limit"]) fun _ _ _ _ _ _ us hl => match us, hl with | [_, _], _ => rfl,
    M_Outbox := ⟨mk_Outbox, a_Outbox_init_', i_Outbox_init_, kc_Outbox⟩,
    a_Outbox_limit := a_Outbox_limit,
    fd_Outbox_limit := PySem.W.fnOf "limit" "Outbox.limit" (defArgs s_Outbox_limit) (defBody s_Outbox_limit) (defScope s_Outbox_limit) .none kV_Outbox_limit dc_Outbox_limit pm_Outbox_limit an_Outbox_limit cd_Outbox_limit ct_Outbox_limit,
    F_Outbox_limit := F_Outbox_limit,
    B_Outbox_limit := F_Outbox_limit.binds (ps := ["self"]) fun _ _ _ _ _ _ us hl => match us, hl with | [_], _ => rfl,
    p_Outbox_limit := p_Outbox_limit,
    PR_Outbox_limit := ⟨a_Outbox_limit', pg_Outbox_limit, pt_Outbox_limit, ⟨_, rc_Outbox_limit⟩⟩,
    a_Outbox_limit_set := a_Outbox_limit_set,
    fd_Outbox_limit_set := PySem.W.fnOf "limit" "Outbox.limit" (defArgs s_Outbox_limit_set) (defBody s_Outbox_limit_set) (defScope s_Outbox_limit_set) .none kV_Outbox_limit_set dc_Outbox_limit_set pm_Outbox_limit_set an_Outbox_limit_set cd_Outbox_limit_set ct_Outbox_limit_set,
    F_Outbox_limit_set := F_Outbox_limit_set,
    B_Outbox_limit_set := F_Outbox_limit_set.binds (ps := ["self", "value"]) fun _ _ _ _ _ _ us hl => match us, hl with | [_, _], _ => rfl,
    SE_Outbox_limit_set := ⟨a_Outbox_limit', pt_Outbox_limit, ty_Outbox_limit_set, ⟨_, _, rx_Outbox_limit_set⟩⟩,
    a_Outbox_free := a_Outbox_free,
    fd_Outbox_free := PySem.W.fnOf "free" "Outbox.free" (defArgs s_Outbox_free) (defBody s_Outbox_free) (defScope s_Outbox_free) .none kV_Outbox_free dc_Outbox_free pm_Outbox_free an_Outbox_free cd_Outbox_free ct_Outbox_free,
    F_Outbox_free := F_Outbox_free,
    B_Outbox_free := F_Outbox_free.binds (ps := ["self"]) fun _ _ _ _ _ _ us hl => match us, hl with | [_], _ => rfl,
    p_Outbox_free := p_Outbox_free,
    PR_Outbox_free := ⟨a_Outbox_free', pg_Outbox_free, pt_Outbox_free, ⟨_, rc_Outbox_free⟩⟩,
    a_Outbox_bound := a_Outbox_bound,
    fd_Outbox_bound := PySem.W.fnOf "bound" "Outbox.bound" (defArgs s_Outbox_bound) (defBody s_Outbox_bound) (defScope s_Outbox_bound) .none kV_Outbox_bound dc_Outbox_bound pm_Outbox_bound an_Outbox_bound cd_Outbox_bound ct_Outbox_bound,
    F_Outbox_bound := F_Outbox_bound,
    B_Outbox_bound := F_Outbox_bound.binds (ps := ["self"]) fun _ _ _ _ _ _ us hl => match us, hl with | [_], _ => rfl,
    p_Outbox_bound := p_Outbox_bound,
    PR_Outbox_bound := ⟨a_Outbox_bound', pg_Outbox_bound, pt_Outbox_bound, ⟨_, rc_Outbox_bound⟩⟩,
    a_Outbox_put := a_Outbox_put,
    fd_Outbox_put := PySem.W.fnOf "put" "Outbox.put" (defArgs s_Outbox_put) (defBody s_Outbox_put) (defScope s_Outbox_put) .none kV_Outbox_put dc_Outbox_put pm_Outbox_put an_Outbox_put cd_Outbox_put ct_Outbox_put,
    F_Outbox_put := F_Outbox_put,
    B_Outbox_put := F_Outbox_put.binds (ps := ["self", "data"]) fun _ _ _ _ _ _ us hl => match us, hl with | [_, _], _ => rfl,
    m_Outbox_put := ⟨a_Outbox_put', i_Outbox_put, k_Outbox_put⟩,
    a_Outbox_urge := a_Outbox_urge,
    fd_Outbox_urge := PySem.W.fnOf "urge" "Outbox.urge" (defArgs s_Outbox_urge) (defBody s_Outbox_urge) (defScope s_Outbox_urge) .none kV_Outbox_urge dc_Outbox_urge pm_Outbox_urge an_Outbox_urge cd_Outbox_urge ct_Outbox_urge,
    F_Outbox_urge := F_Outbox_urge,
    B_Outbox_urge := F_Outbox_urge.binds (ps := ["self", "data"]) fun _ _ _ _ _ _ us hl => match us, hl with | [_, _], _ => rfl,
    m_Outbox_urge := ⟨a_Outbox_urge', i_Outbox_urge, k_Outbox_urge⟩,
    a_Outbox_shut := a_Outbox_shut,
    fd_Outbox_shut := PySem.W.fnOf "shut" "Outbox.shut" (defArgs s_Outbox_shut) (defBody s_Outbox_shut) (defScope s_Outbox_shut) .none kV_Outbox_shut dc_Outbox_shut pm_Outbox_shut an_Outbox_shut cd_Outbox_shut ct_Outbox_shut,
    F_Outbox_shut := F_Outbox_shut,
    B_Outbox_shut := F_Outbox_shut.binds (ps := ["self"]) fun _ _ _ _ _ _ us hl => match us, hl with | [_], _ => rfl,
    m_Outbox_shut := ⟨a_Outbox_shut', i_Outbox_shut, k_Outbox_shut⟩,
    a_Outbox_cut := a_Outbox_cut,
    fd_Outbox_cut := PySem.W.fnOf "cut" "Outbox.cut" (defArgs s_Outbox_cut) (defBody s_Outbox_cut) (defScope s_Outbox_cut) .none kV_Outbox_cut dc_Outbox_cut pm_Outbox_cut an_Outbox_cut cd_Outbox_cut ct_Outbox_cut,
    F_Outbox_cut := F_Outbox_cut,
    B_Outbox_cut := F_Outbox_cut.binds (ps := ["self", "low", "high"]) fun _ _ _ _ _ _ us hl => match us, hl with | [_, _, _], _ => rfl,
    m_Outbox_cut := ⟨a_Outbox_cut', i_Outbox_cut, k_Outbox_cut⟩,
    a_Outbox_release := a_Outbox_release,
    fd_Outbox_release := PySem.W.fnOf "release" "Outbox.release" (defArgs s_Outbox_release) (defBody s_Outbox_release) (defScope s_Outbox_release) .none kV_Outbox_release dc_Outbox_release pm_Outbox_release an_Outbox_release cd_Outbox_release ct_Outbox_release,
    F_Outbox_release := F_Outbox_release,
    B_Outbox_release := F_Outbox_release.binds (ps := ["self", "offset"]) fun _ _ _ _ _ _ us hl => match us, hl with | [_, _], _ => rfl,
    m_Outbox_release := ⟨a_Outbox_release', i_Outbox_release, k_Outbox_release⟩,
    a__law_box := a__law_box,
    fd__law_box := PySem.W.fnOf "_law_box" "_law_box" (defArgs s__law_box) (defBody s__law_box) (defScope s__law_box) .none kV__law_box dc__law_box pm__law_box an__law_box cd__law_box ct__law_box,
    F__law_box := F__law_box,
    B__law_box := F__law_box.binds (ps := ["script"]) fun _ _ _ _ _ _ us hl => match us, hl with | [_], _ => rfl,
    g__law_box := PySem.W.mg_of X G a__law_box',
    a__law_draw := a__law_draw,
    fd__law_draw := PySem.W.fnOf "_law_draw" "_law_draw" (defArgs s__law_draw) (defBody s__law_draw) (defScope s__law_draw) .none kV__law_draw dc__law_draw pm__law_draw an__law_draw cd__law_draw ct__law_draw,
    F__law_draw := F__law_draw,
    B__law_draw := F__law_draw.binds (ps := ["box", "size"]) fun _ _ _ _ _ _ us hl => match us, hl with | [_, _], _ => rfl,
    g__law_draw := PySem.W.mg_of X G a__law_draw',
    a__law_is_whole := a__law_is_whole,
    fd__law_is_whole := PySem.W.fnOf "_law_is_whole" "_law_is_whole" (defArgs s__law_is_whole) (defBody s__law_is_whole) (defScope s__law_is_whole) .none kV__law_is_whole dc__law_is_whole pm__law_is_whole an__law_is_whole cd__law_is_whole ct__law_is_whole,
    F__law_is_whole := F__law_is_whole,
    B__law_is_whole := F__law_is_whole.binds (ps := ["value"]) fun _ _ _ _ _ _ us hl => match us, hl with | [_], _ => rfl,
    g__law_is_whole := PySem.W.mg_of X G a__law_is_whole',
    a__law_bytes := a__law_bytes,
    fd__law_bytes := PySem.W.fnOf "_law_bytes" "_law_bytes" (defArgs s__law_bytes) (defBody s__law_bytes) (defScope s__law_bytes) .none kV__law_bytes dc__law_bytes pm__law_bytes an__law_bytes cd__law_bytes ct__law_bytes,
    F__law_bytes := F__law_bytes,
    B__law_bytes := F__law_bytes.binds (ps := ["box", "most"]) fun _ _ _ _ _ _ us hl => match us, hl with | [_, _], _ => rfl,
    g__law_bytes := PySem.W.mg_of X G a__law_bytes',
    a__law_tuple_is := a__law_tuple_is,
    fd__law_tuple_is := PySem.W.fnOf "_law_tuple_is" "_law_tuple_is" (defArgs s__law_tuple_is) (defBody s__law_tuple_is) (defScope s__law_tuple_is) .none kV__law_tuple_is dc__law_tuple_is pm__law_tuple_is an__law_tuple_is cd__law_tuple_is ct__law_tuple_is,
    F__law_tuple_is := F__law_tuple_is,
    B__law_tuple_is := F__law_tuple_is.binds (ps := ["told", "due"]) fun _ _ _ _ _ _ us hl => match us, hl with | [_, _], _ => rfl,
    g__law_tuple_is := PySem.W.mg_of X G a__law_tuple_is',
    a__law_receiver := a__law_receiver,
    fd__law_receiver := PySem.W.fnOf "_law_receiver" "_law_receiver" (defArgs s__law_receiver) (defBody s__law_receiver) (defScope s__law_receiver) .none kV__law_receiver dc__law_receiver pm__law_receiver an__law_receiver cd__law_receiver ct__law_receiver,
    F__law_receiver := F__law_receiver,
    B__law_receiver := F__law_receiver.binds (ps := ["most"]) fun _ _ _ _ _ _ us hl => match us, hl with | [_], _ => rfl,
    g__law_receiver := PySem.W.mg_of X G a__law_receiver',
    a__law_next := a__law_next,
    fd__law_next := PySem.W.fnOf "_law_next" "_law_next" (defArgs s__law_next) (defBody s__law_next) (defScope s__law_next) .none kV__law_next dc__law_next pm__law_next an__law_next cd__law_next ct__law_next,
    F__law_next := F__law_next,
    B__law_next := F__law_next.binds (ps := ["receiver"]) fun _ _ _ _ _ _ us hl => match us, hl with | [_], _ => rfl,
    g__law_next := PySem.W.mg_of X G a__law_next',
    a__law_sender_is := a__law_sender_is,
    fd__law_sender_is := PySem.W.fnOf "_law_sender_is" "_law_sender_is" (defArgs s__law_sender_is) (defBody s__law_sender_is) (defScope s__law_sender_is) .none kV__law_sender_is dc__law_sender_is pm__law_sender_is an__law_sender_is cd__law_sender_is ct__law_sender_is,
    F__law_sender_is := F__law_sender_is,
    B__law_sender_is := F__law_sender_is.binds (ps := ["outbox", "sender"]) fun _ _ _ _ _ _ us hl => match us, hl with | [_, _], _ => rfl,
    g__law_sender_is := PySem.W.mg_of X G a__law_sender_is',
    a__law_receiver_is := a__law_receiver_is,
    fd__law_receiver_is := PySem.W.fnOf "_law_receiver_is" "_law_receiver_is" (defArgs s__law_receiver_is) (defBody s__law_receiver_is) (defScope s__law_receiver_is) .none kV__law_receiver_is dc__law_receiver_is pm__law_receiver_is an__law_receiver_is cd__law_receiver_is ct__law_receiver_is,
    F__law_receiver_is := F__law_receiver_is,
    B__law_receiver_is := F__law_receiver_is.binds (ps := ["inbox", "receiver", "sender"]) fun _ _ _ _ _ _ us hl => match us, hl with | [_, _, _], _ => rfl,
    g__law_receiver_is := PySem.W.mg_of X G a__law_receiver_is',
    a__law_writes := a__law_writes,
    fd__law_writes := PySem.W.fnOf "_law_writes" "_law_writes" (defArgs s__law_writes) (defBody s__law_writes) (defScope s__law_writes) .none kV__law_writes dc__law_writes pm__law_writes an__law_writes cd__law_writes ct__law_writes,
    F__law_writes := F__law_writes,
    B__law_writes := F__law_writes.binds (ps := ["box", "outbox", "sender"]) fun _ _ _ _ _ _ us hl => match us, hl with | [_, _, _], _ => rfl,
    g__law_writes := PySem.W.mg_of X G a__law_writes',
    a__law_cuts := a__law_cuts,
    fd__law_cuts := PySem.W.fnOf "_law_cuts" "_law_cuts" (defArgs s__law_cuts) (defBody s__law_cuts) (defScope s__law_cuts) .none kV__law_cuts dc__law_cuts pm__law_cuts an__law_cuts cd__law_cuts ct__law_cuts,
    F__law_cuts := F__law_cuts,
    B__law_cuts := F__law_cuts.binds (ps := ["box", "outbox", "sender"]) fun _ _ _ _ _ _ us hl => match us, hl with | [_, _, _], _ => rfl,
    g__law_cuts := PySem.W.mg_of X G a__law_cuts',
    a__law_arrives := a__law_arrives,
    fd__law_arrives := PySem.W.fnOf "_law_arrives" "_law_arrives" (defArgs s__law_arrives) (defBody s__law_arrives) (defScope s__law_arrives) .none kV__law_arrives dc__law_arrives pm__law_arrives an__law_arrives cd__law_arrives ct__law_arrives,
    F__law_arrives := F__law_arrives,
    B__law_arrives := F__law_arrives.binds (ps := ["inbox", "receiver", "offset", "data"]) fun _ _ _ _ _ _ us hl => match us, hl with | [_, _, _, _], _ => rfl,
    g__law_arrives := PySem.W.mg_of X G a__law_arrives',
    a__law_delivers := a__law_delivers,
    fd__law_delivers := PySem.W.fnOf "_law_delivers" "_law_delivers" (defArgs s__law_delivers) (defBody s__law_delivers) (defScope s__law_delivers) .none kV__law_delivers dc__law_delivers pm__law_delivers an__law_delivers cd__law_delivers ct__law_delivers,
    F__law_delivers := F__law_delivers,
    B__law_delivers := F__law_delivers.binds (ps := ["box", "outbox", "inbox", "receiver", "sender"]) fun _ _ _ _ _ _ us hl => match us, hl with | [_, _, _, _, _], _ => rfl,
    g__law_delivers := PySem.W.mg_of X G a__law_delivers',
    a__law_reads := a__law_reads,
    fd__law_reads := PySem.W.fnOf "_law_reads" "_law_reads" (defArgs s__law_reads) (defBody s__law_reads) (defScope s__law_reads) .none kV__law_reads dc__law_reads pm__law_reads an__law_reads cd__law_reads ct__law_reads,
    F__law_reads := F__law_reads,
    B__law_reads := F__law_reads.binds (ps := ["inbox", "receiver", "sender", "count"]) fun _ _ _ _ _ _ us hl => match us, hl with | [_, _, _, _], _ => rfl,
    g__law_reads := PySem.W.mg_of X G a__law_reads',
    a__law_releases := a__law_releases,
    fd__law_releases := PySem.W.fnOf "_law_releases" "_law_releases" (defArgs s__law_releases) (defBody s__law_releases) (defScope s__law_releases) .none kV__law_releases dc__law_releases pm__law_releases an__law_releases cd__law_releases ct__law_releases,
    F__law_releases := F__law_releases,
    B__law_releases := F__law_releases.binds (ps := ["outbox", "sender", "receivers"]) fun _ _ _ _ _ _ us hl => match us, hl with | [_, _, _], _ => rfl,
    g__law_releases := PySem.W.mg_of X G a__law_releases',
    a__law_deed := a__law_deed,
    fd__law_deed := PySem.W.fnOf "_law_deed" "_law_deed" (defArgs s__law_deed) (defBody s__law_deed) (defScope s__law_deed) .none kV__law_deed dc__law_deed pm__law_deed an__law_deed cd__law_deed ct__law_deed,
    F__law_deed := F__law_deed,
    B__law_deed := F__law_deed.binds (ps := ["box", "outbox", "sender", "inboxes", "receivers"]) fun _ _ _ _ _ _ us hl => match us, hl with | [_, _, _, _, _], _ => rfl,
    g__law_deed := PySem.W.mg_of X G a__law_deed',
    a__law_brings_all := a__law_brings_all,
    fd__law_brings_all := PySem.W.fnOf "_law_brings_all" "_law_brings_all" (defArgs s__law_brings_all) (defBody s__law_brings_all) (defScope s__law_brings_all) .none kV__law_brings_all dc__law_brings_all pm__law_brings_all an__law_brings_all cd__law_brings_all ct__law_brings_all,
    F__law_brings_all := F__law_brings_all,
    B__law_brings_all := F__law_brings_all.binds (ps := ["outbox", "inbox", "receiver", "sender"]) fun _ _ _ _ _ _ us hl => match us, hl with | [_, _, _, _], _ => rfl,
    g__law_brings_all := PySem.W.mg_of X G a__law_brings_all',
    a_law := a_law,
    fd_law := PySem.W.fnOf "law" "law" (defArgs s_law) (defBody s_law) (defScope s_law) .none kV_law dc_law pm_law an_law cd_law ct_law,
    F_law := F_law,
    B_law := F_law.binds (ps := ["script"]) fun _ _ _ _ _ _ us hl => match us, hl with | [_], _ => rfl,
    g_law := PySem.W.mg_of X G a_law',
    b_NotImplemented := PySem.W.mg_none_of X G z_NotImplemented,
    b_abs := PySem.W.mg_none_of X G z_abs,
    b_bool := PySem.W.mg_none_of X G z_bool,
    b_int := PySem.W.mg_none_of X G z_int,
    b_isinstance := PySem.W.mg_none_of X G z_isinstance,
    b_len := PySem.W.mg_none_of X G z_len,
    b_list := PySem.W.mg_none_of X G z_list,
    b_max := PySem.W.mg_none_of X G z_max,
    b_min := PySem.W.mg_none_of X G z_min,
    b_property := PySem.W.mg_none_of X G z_property,
    b_range := PySem.W.mg_none_of X G z_range,
    b_reversed := PySem.W.mg_none_of X G z_reversed,
    b_sorted := PySem.W.mg_none_of X G z_sorted,
    b_sum := PySem.W.mg_none_of X G z_sum,
    b_tuple := PySem.W.mg_none_of X G z_tuple }
  exact ⟨T.fd_law, fun s v => .of_eq rfl, fun base _ _ => ok_law (P := l.prog) (w := w) (base := base) T⟩
theorem walk {l : PySem.W.OpenLaw} {q : Program} {loose : List Str} {XP : (Str → Option Value) → Heap → Prop} {YP : World → Heap → Prop} {d : DefRec} {K : Params → PySem.W.Frag} (hn : l.most = some 63) (hdf : d.params.defaults = [])
    (hY : ∀ (w : World) (h : Heap), YP w h → (K w.params).In h)
    (F : ∀ (w : World) (mg : Str → Option Value) (fa : Addr) (h : Heap), (K w.params).In h → h.Ns mainGlobals mg → mg d.name = some (.ref fa) →
      ∃ fd : FuncData, (∀ (s : Shared) (u : Value), BindsTo s fd ⟨[u], []⟩ [("script", u)]) ∧ ∀ base : Heap, (K w.params).In base → base.Ns mainGlobals mg → FnOk l.prog w (K w.params) mg base CX0 12 fa fd ["script"] (sp_law (K w.params))) :
    PySem.W.WalkO q loose XP YP l.row.toRowW d [] (fun f vs => PySem.call f vs) :=
  L2.walk_of (CX := fun _ => CX0) (n := 63) (k := 12) (x := "script") (sp := fun w => sp_law (K w.params)) hn (by decide) hdf ⟨rfl, by decide, by decide⟩ hY F (fun _ _ a ns hl _ hS => ⟨a, ns, rfl, hS, hl, fun _ => rfl⟩) fun _ _ _ _ _ z => z
end My

open PySem PySem.W PyProof.Rows in
set_option maxRecDepth 100000 in
set_option maxHeartbeats 0 in
theorem PySem.Challenge.cw_lossway_k14_whole_buffers_carry_holds : PySem.Challenge.rw_lossway_k14_whole_buffers_carry.Holds := by
  w_on; o_law; k_head; (case hw => w_witness2)
  k_fill
  refine My.walk (l := PySem.Challenge.rw_lossway_k14_whole_buffers_carry) rfl rfl (fun w h Y => PySem.W.kIn_of Y) ?F
  case F =>
    intro w mg fa h KX G hmg
    refine' My.all_mk KX G hmg ?aC_Spans ?pg_Spans ?hd_Spans ?po_Spans ?sa_Spans ?mk_Spans ?kc_Spans ?n_Spans__runs ?aC_Inbox ?pg_Inbox ?hd_Inbox ?po_Inbox ?sa_Inbox ?mk_Inbox ?kc_Inbox ?n_Inbox__limit ?n_Inbox_next_offset ?n_Inbox_read_offset ?n_Inbox_final ?n_Inbox_urgent_end ?n_Inbox__stored ?n_Inbox__ahead ?n_Inbox__latest ?aC_Outbox ?pg_Outbox ?hd_Outbox ?po_Outbox ?sa_Outbox ?mk_Outbox ?kc_Outbox ?n_Outbox__limit ?n_Outbox_base ?n_Outbox_end ?n_Outbox_closed ?n_Outbox_urgent_end ?n_Outbox__kept ?aC_LossError ?aC_InvalidNumber ?xl_InvalidNumber ?sa_InvalidNumber ?xx_InvalidNumber ?xt_InvalidNumber ?xk_InvalidNumber ?xi_InvalidNumber ?xg_InvalidNumber ?xh_InvalidNumber ?xy_InvalidNumber ?xc_InvalidNumber ?xr_InvalidNumber ?nX_InvalidNumber ?aC_InvalidSetting ?xl_InvalidSetting ?sa_InvalidSetting ?xx_InvalidSetting ?xt_InvalidSetting ?xk_InvalidSetting ?xi_InvalidSetting ?xg_InvalidSetting ?xh_InvalidSetting ?xy_InvalidSetting ?xc_InvalidSetting ?xr_InvalidSetting ?nX_InvalidSetting ?aC_NotAllowed ?xl_NotAllowed ?sa_NotAllowed ?xx_NotAllowed ?xt_NotAllowed ?xk_NotAllowed ?xi_NotAllowed ?xg_NotAllowed ?xh_NotAllowed ?xy_NotAllowed ?xc_NotAllowed ?xr_NotAllowed ?nX_NotAllowed ?x_get ?x_tk ?xf_InvalidNumber_init_ ?l_InvalidNumber_init_ ?e_InvalidNumber_init_ ?k_InvalidNumber_init_ ?xf_InvalidSetting_init_ ?l_InvalidSetting_init_ ?e_InvalidSetting_init_ ?k_InvalidSetting_init_ ?xf_NotAllowed_init_ ?l_NotAllowed_init_ ?e_NotAllowed_init_ ?k_NotAllowed_init_ ?a_is_integer_ ?l_is_integer ?e_is_integer ?k_is_integer ?a_is_between_ ?l_is_between ?e_is_between ?k_is_between ?a_is_at_least_ ?l_is_at_least ?e_is_at_least ?k_is_at_least ?a_is_byte_ ?l_is_byte ?e_is_byte ?k_is_byte ?a_is_sequence_ ?l_is_sequence ?e_is_sequence ?k_is_sequence ?a_require_data_ ?l_require_data ?e_require_data ?k_require_data ?a_require_limit_ ?l_require_limit ?e_require_limit ?k_require_limit ?a_is_run_ ?l_is_run ?e_is_run ?k_is_run ?a_joined_ ?l_joined ?e_joined ?k_joined ?a_missing_ ?l_missing ?e_missing ?k_missing ?a_common_ ?l_common ?e_common ?k_common ?a_without_ ?l_without ?e_without ?k_without ?a_Spans_init__ ?i_Spans_init_ ?l_Spans_init_ ?e_Spans_init_ ?k_Spans_init_ ?a_Spans_put_ ?i_Spans_put ?l_Spans_put ?e_Spans_put ?k_Spans_put ?a_Spans_drop_ ?i_Spans_drop ?l_Spans_drop ?e_Spans_drop ?k_Spans_drop ?a_Spans_holding_ ?i_Spans_holding ?l_Spans_holding ?e_Spans_holding ?k_Spans_holding ?a_Spans_gaps_ ?i_Spans_gaps ?l_Spans_gaps ?e_Spans_gaps ?k_Spans_gaps ?a_Spans_highest_ ?i_Spans_highest ?l_Spans_highest ?e_Spans_highest ?k_Spans_highest ?a_Inbox_init__ ?i_Inbox_init_ ?l_Inbox_init_ ?e_Inbox_init_ ?k_Inbox_init_ ?a_Inbox_limit_ ?pg_Inbox_limit ?pt_Inbox_limit ?rc_Inbox_limit ?l_Inbox_limit ?e_Inbox_limit ?k_Inbox_limit ?ty_Inbox_limit_set ?rx_Inbox_limit_set ?l_Inbox_limit_set ?e_Inbox_limit_set ?k_Inbox_limit_set ?a_Inbox_edge_ ?pg_Inbox_edge ?pt_Inbox_edge ?rc_Inbox_edge ?l_Inbox_edge ?e_Inbox_edge ?k_Inbox_edge ?a_Inbox_ready_ ?pg_Inbox_ready ?pt_Inbox_ready ?rc_Inbox_ready ?l_Inbox_ready ?e_Inbox_ready ?k_Inbox_ready ?a_Inbox_ended_ ?pg_Inbox_ended ?pt_Inbox_ended ?rc_Inbox_ended ?l_Inbox_ended ?e_Inbox_ended ?k_Inbox_ended ?a_Inbox_expected_ ?pg_Inbox_expected ?pt_Inbox_expected ?rc_Inbox_expected ?l_Inbox_expected ?e_Inbox_expected ?k_Inbox_expected ?a_Inbox_urgent_count_ ?pg_Inbox_urgent_count ?pt_Inbox_urgent_count ?rc_Inbox_urgent_count ?l_Inbox_urgent_count ?e_Inbox_urgent_count ?k_Inbox_urgent_count ?a_Inbox_take_ ?i_Inbox_take ?l_Inbox_take ?e_Inbox_take ?k_Inbox_take ?a_Inbox_stop_ ?i_Inbox_stop ?l_Inbox_stop ?e_Inbox_stop ?k_Inbox_stop ?a_Inbox_move_on_ ?i_Inbox_move_on ?l_Inbox_move_on ?e_Inbox_move_on ?k_Inbox_move_on ?a_Inbox_finish_ ?i_Inbox_finish ?l_Inbox_finish ?e_Inbox_finish ?k_Inbox_finish ?a_Inbox_read_ ?i_Inbox_read ?l_Inbox_read ?e_Inbox_read ?k_Inbox_read ?a_Inbox_mark_urgent_ ?i_Inbox_mark_urgent ?l_Inbox_mark_urgent ?e_Inbox_mark_urgent ?k_Inbox_mark_urgent ?a_Outbox_init__ ?i_Outbox_init_ ?l_Outbox_init_ ?e_Outbox_init_ ?k_Outbox_init_ ?a_Outbox_limit_ ?pg_Outbox_limit ?pt_Outbox_limit ?rc_Outbox_limit ?l_Outbox_limit ?e_Outbox_limit ?k_Outbox_limit ?ty_Outbox_limit_set ?rx_Outbox_limit_set ?l_Outbox_limit_set ?e_Outbox_limit_set ?k_Outbox_limit_set ?a_Outbox_free_ ?pg_Outbox_free ?pt_Outbox_free ?rc_Outbox_free ?l_Outbox_free ?e_Outbox_free ?k_Outbox_free ?a_Outbox_bound_ ?pg_Outbox_bound ?pt_Outbox_bound ?rc_Outbox_bound ?l_Outbox_bound ?e_Outbox_bound ?k_Outbox_bound ?a_Outbox_put_ ?i_Outbox_put ?l_Outbox_put ?e_Outbox_put ?k_Outbox_put ?a_Outbox_urge_ ?i_Outbox_urge ?l_Outbox_urge ?e_Outbox_urge ?k_Outbox_urge ?a_Outbox_shut_ ?i_Outbox_shut ?l_Outbox_shut ?e_Outbox_shut ?k_Outbox_shut ?a_Outbox_cut_ ?i_Outbox_cut ?l_Outbox_cut ?e_Outbox_cut ?k_Outbox_cut ?a_Outbox_release_ ?i_Outbox_release ?l_Outbox_release ?e_Outbox_release ?k_Outbox_release ?a__law_box_ ?l__law_box ?e__law_box ?k__law_box ?a__law_draw_ ?l__law_draw ?e__law_draw ?k__law_draw ?a__law_is_whole_ ?l__law_is_whole ?e__law_is_whole ?k__law_is_whole ?a__law_bytes_ ?l__law_bytes ?e__law_bytes ?k__law_bytes ?a__law_tuple_is_ ?l__law_tuple_is ?e__law_tuple_is ?k__law_tuple_is ?a__law_receiver_ ?l__law_receiver ?e__law_receiver ?k__law_receiver ?a__law_next_ ?l__law_next ?e__law_next ?k__law_next ?a__law_sender_is_ ?l__law_sender_is ?e__law_sender_is ?k__law_sender_is ?a__law_receiver_is_ ?l__law_receiver_is ?e__law_receiver_is ?k__law_receiver_is ?a__law_writes_ ?l__law_writes ?e__law_writes ?k__law_writes ?a__law_cuts_ ?l__law_cuts ?e__law_cuts ?k__law_cuts ?a__law_arrives_ ?l__law_arrives ?e__law_arrives ?k__law_arrives ?a__law_delivers_ ?l__law_delivers ?e__law_delivers ?k__law_delivers ?a__law_reads_ ?l__law_reads ?e__law_reads ?k__law_reads ?a__law_releases_ ?l__law_releases ?e__law_releases ?k__law_releases ?a__law_deed_ ?l__law_deed ?e__law_deed ?k__law_deed ?a__law_brings_all_ ?l__law_brings_all ?e__law_brings_all ?k__law_brings_all ?a_law_ ?l_law ?e_law ?k_law ?z_NotImplemented ?z_abs ?z_bool ?z_int ?z_isinstance ?z_len ?z_list ?z_max ?z_min ?z_property ?z_range ?z_reversed ?z_sorted ?z_sum ?z_tuple ?xm__InvalidNumber ?xm__InvalidSetting ?xm__NotAllowed
    (case aC_Spans => k_is)
    (case pg_Spans => k_is)
    (case hd_Spans => k_is)
    (case po_Spans => k_is)
    (case sa_Spans => k_is)
    (case mk_Spans => k_is)
    (case kc_Spans => k_is)
    (case n_Spans__runs => k_is)
    (case aC_Inbox => k_is)
    (case pg_Inbox => k_is)
    (case hd_Inbox => k_is)
    (case po_Inbox => k_is)
    (case sa_Inbox => k_is)
    (case mk_Inbox => k_is)
    (case kc_Inbox => k_is)
    (case n_Inbox__limit => k_is)
    (case n_Inbox_next_offset => k_is)
    (case n_Inbox_read_offset => k_is)
    (case n_Inbox_final => k_is)
    (case n_Inbox_urgent_end => k_is)
    (case n_Inbox__stored => k_is)
    (case n_Inbox__ahead => k_is)
    (case n_Inbox__latest => k_is)
    (case aC_Outbox => k_is)
    (case pg_Outbox => k_is)
    (case hd_Outbox => k_is)
    (case po_Outbox => k_is)
    (case sa_Outbox => k_is)
    (case mk_Outbox => k_is)
    (case kc_Outbox => k_is)
    (case n_Outbox__limit => k_is)
    (case n_Outbox_base => k_is)
    (case n_Outbox_end => k_is)
    (case n_Outbox_closed => k_is)
    (case n_Outbox_urgent_end => k_is)
    (case n_Outbox__kept => k_is)
    (case aC_LossError => k_is)
    (case aC_InvalidNumber => k_is)
    (case xl_InvalidNumber => k_is)
    (case sa_InvalidNumber => k_is)
    (case xx_InvalidNumber => k_is)
    (case xt_InvalidNumber => k_is)
    (case xk_InvalidNumber => k_is)
    (case xi_InvalidNumber => k_is)
    (case xg_InvalidNumber => k_is)
    (case xh_InvalidNumber => k_is)
    (case xy_InvalidNumber => k_is)
    (case xc_InvalidNumber => k_is)
    (case xr_InvalidNumber => k_is)
    (case nX_InvalidNumber => k_is)
    (case aC_InvalidSetting => k_is)
    (case xl_InvalidSetting => k_is)
    (case sa_InvalidSetting => k_is)
    (case xx_InvalidSetting => k_is)
    (case xt_InvalidSetting => k_is)
    (case xk_InvalidSetting => k_is)
    (case xi_InvalidSetting => k_is)
    (case xg_InvalidSetting => k_is)
    (case xh_InvalidSetting => k_is)
    (case xy_InvalidSetting => k_is)
    (case xc_InvalidSetting => k_is)
    (case xr_InvalidSetting => k_is)
    (case nX_InvalidSetting => k_is)
    (case aC_NotAllowed => k_is)
    (case xl_NotAllowed => k_is)
    (case sa_NotAllowed => k_is)
    (case xx_NotAllowed => k_is)
    (case xt_NotAllowed => k_is)
    (case xk_NotAllowed => k_is)
    (case xi_NotAllowed => k_is)
    (case xg_NotAllowed => k_is)
    (case xh_NotAllowed => k_is)
    (case xy_NotAllowed => k_is)
    (case xc_NotAllowed => k_is)
    (case xr_NotAllowed => k_is)
    (case nX_NotAllowed => k_is)
    (case x_get => k_is)
    (case x_tk => k_is)
    (case xf_InvalidNumber_init_ => k_is)
    (case l_InvalidNumber_init_ => k_is)
    (case e_InvalidNumber_init_ => k_is)
    (case k_InvalidNumber_init_ => k_is)
    (case xf_InvalidSetting_init_ => k_is)
    (case l_InvalidSetting_init_ => k_is)
    (case e_InvalidSetting_init_ => k_is)
    (case k_InvalidSetting_init_ => k_is)
    (case xf_NotAllowed_init_ => k_is)
    (case l_NotAllowed_init_ => k_is)
    (case e_NotAllowed_init_ => k_is)
    (case k_NotAllowed_init_ => k_is)
    (case a_is_integer_ => k_is)
    (case l_is_integer => k_is)
    (case e_is_integer => k_is)
    (case k_is_integer => k_is)
    (case a_is_between_ => k_is)
    (case l_is_between => k_is)
    (case e_is_between => k_is)
    (case k_is_between => k_is)
    (case a_is_at_least_ => k_is)
    (case l_is_at_least => k_is)
    (case e_is_at_least => k_is)
    (case k_is_at_least => k_is)
    (case a_is_byte_ => k_is)
    (case l_is_byte => k_is)
    (case e_is_byte => k_is)
    (case k_is_byte => k_is)
    (case a_is_sequence_ => k_is)
    (case l_is_sequence => k_is)
    (case e_is_sequence => k_is)
    (case k_is_sequence => k_is)
    (case a_require_data_ => k_is)
    (case l_require_data => k_is)
    (case e_require_data => k_is)
    (case k_require_data => k_is)
    (case a_require_limit_ => k_is)
    (case l_require_limit => k_is)
    (case e_require_limit => k_is)
    (case k_require_limit => k_is)
    (case a_is_run_ => k_is)
    (case l_is_run => k_is)
    (case e_is_run => k_is)
    (case k_is_run => k_is)
    (case a_joined_ => k_is)
    (case l_joined => k_is)
    (case e_joined => k_is)
    (case k_joined => k_is)
    (case a_missing_ => k_is)
    (case l_missing => k_is)
    (case e_missing => k_is)
    (case k_missing => k_is)
    (case a_common_ => k_is)
    (case l_common => k_is)
    (case e_common => k_is)
    (case k_common => k_is)
    (case a_without_ => k_is)
    (case l_without => k_is)
    (case e_without => k_is)
    (case k_without => k_is)
    (case a_Spans_init__ => k_is)
    (case i_Spans_init_ => k_is)
    (case l_Spans_init_ => k_is)
    (case e_Spans_init_ => k_is)
    (case k_Spans_init_ => k_is)
    (case a_Spans_put_ => k_is)
    (case i_Spans_put => k_is)
    (case l_Spans_put => k_is)
    (case e_Spans_put => k_is)
    (case k_Spans_put => k_is)
    (case a_Spans_drop_ => k_is)
    (case i_Spans_drop => k_is)
    (case l_Spans_drop => k_is)
    (case e_Spans_drop => k_is)
    (case k_Spans_drop => k_is)
    (case a_Spans_holding_ => k_is)
    (case i_Spans_holding => k_is)
    (case l_Spans_holding => k_is)
    (case e_Spans_holding => k_is)
    (case k_Spans_holding => k_is)
    (case a_Spans_gaps_ => k_is)
    (case i_Spans_gaps => k_is)
    (case l_Spans_gaps => k_is)
    (case e_Spans_gaps => k_is)
    (case k_Spans_gaps => k_is)
    (case a_Spans_highest_ => k_is)
    (case i_Spans_highest => k_is)
    (case l_Spans_highest => k_is)
    (case e_Spans_highest => k_is)
    (case k_Spans_highest => k_is)
    (case a_Inbox_init__ => k_is)
    (case i_Inbox_init_ => k_is)
    (case l_Inbox_init_ => k_is)
    (case e_Inbox_init_ => k_is)
    (case k_Inbox_init_ => k_is)
    (case a_Inbox_limit_ => k_is)
    (case pg_Inbox_limit => k_is)
    (case pt_Inbox_limit => k_is)
    (case rc_Inbox_limit => k_is)
    (case l_Inbox_limit => k_is)
    (case e_Inbox_limit => k_is)
    (case k_Inbox_limit => k_is)
    (case ty_Inbox_limit_set => k_is)
    (case rx_Inbox_limit_set => k_is)
    (case l_Inbox_limit_set => k_is)
    (case e_Inbox_limit_set => k_is)
    (case k_Inbox_limit_set => k_is)
    (case a_Inbox_edge_ => k_is)
    (case pg_Inbox_edge => k_is)
    (case pt_Inbox_edge => k_is)
    (case rc_Inbox_edge => k_is)
    (case l_Inbox_edge => k_is)
    (case e_Inbox_edge => k_is)
    (case k_Inbox_edge => k_is)
    (case a_Inbox_ready_ => k_is)
    (case pg_Inbox_ready => k_is)
    (case pt_Inbox_ready => k_is)
    (case rc_Inbox_ready => k_is)
    (case l_Inbox_ready => k_is)
    (case e_Inbox_ready => k_is)
    (case k_Inbox_ready => k_is)
    (case a_Inbox_ended_ => k_is)
    (case pg_Inbox_ended => k_is)
    (case pt_Inbox_ended => k_is)
    (case rc_Inbox_ended => k_is)
    (case l_Inbox_ended => k_is)
    (case e_Inbox_ended => k_is)
    (case k_Inbox_ended => k_is)
    (case a_Inbox_expected_ => k_is)
    (case pg_Inbox_expected => k_is)
    (case pt_Inbox_expected => k_is)
    (case rc_Inbox_expected => k_is)
    (case l_Inbox_expected => k_is)
    (case e_Inbox_expected => k_is)
    (case k_Inbox_expected => k_is)
    (case a_Inbox_urgent_count_ => k_is)
    (case pg_Inbox_urgent_count => k_is)
    (case pt_Inbox_urgent_count => k_is)
    (case rc_Inbox_urgent_count => k_is)
    (case l_Inbox_urgent_count => k_is)
    (case e_Inbox_urgent_count => k_is)
    (case k_Inbox_urgent_count => k_is)
    (case a_Inbox_take_ => k_is)
    (case i_Inbox_take => k_is)
    (case l_Inbox_take => k_is)
    (case e_Inbox_take => k_is)
    (case k_Inbox_take => k_is)
    (case a_Inbox_stop_ => k_is)
    (case i_Inbox_stop => k_is)
    (case l_Inbox_stop => k_is)
    (case e_Inbox_stop => k_is)
    (case k_Inbox_stop => k_is)
    (case a_Inbox_move_on_ => k_is)
    (case i_Inbox_move_on => k_is)
    (case l_Inbox_move_on => k_is)
    (case e_Inbox_move_on => k_is)
    (case k_Inbox_move_on => k_is)
    (case a_Inbox_finish_ => k_is)
    (case i_Inbox_finish => k_is)
    (case l_Inbox_finish => k_is)
    (case e_Inbox_finish => k_is)
    (case k_Inbox_finish => k_is)
    (case a_Inbox_read_ => k_is)
    (case i_Inbox_read => k_is)
    (case l_Inbox_read => k_is)
    (case e_Inbox_read => k_is)
    (case k_Inbox_read => k_is)
    (case a_Inbox_mark_urgent_ => k_is)
    (case i_Inbox_mark_urgent => k_is)
    (case l_Inbox_mark_urgent => k_is)
    (case e_Inbox_mark_urgent => k_is)
    (case k_Inbox_mark_urgent => k_is)
    (case a_Outbox_init__ => k_is)
    (case i_Outbox_init_ => k_is)
    (case l_Outbox_init_ => k_is)
    (case e_Outbox_init_ => k_is)
    (case k_Outbox_init_ => k_is)
    (case a_Outbox_limit_ => k_is)
    (case pg_Outbox_limit => k_is)
    (case pt_Outbox_limit => k_is)
    (case rc_Outbox_limit => k_is)
    (case l_Outbox_limit => k_is)
    (case e_Outbox_limit => k_is)
    (case k_Outbox_limit => k_is)
    (case ty_Outbox_limit_set => k_is)
    (case rx_Outbox_limit_set => k_is)
    (case l_Outbox_limit_set => k_is)
    (case e_Outbox_limit_set => k_is)
    (case k_Outbox_limit_set => k_is)
    (case a_Outbox_free_ => k_is)
    (case pg_Outbox_free => k_is)
    (case pt_Outbox_free => k_is)
    (case rc_Outbox_free => k_is)
    (case l_Outbox_free => k_is)
    (case e_Outbox_free => k_is)
    (case k_Outbox_free => k_is)
    (case a_Outbox_bound_ => k_is)
    (case pg_Outbox_bound => k_is)
    (case pt_Outbox_bound => k_is)
    (case rc_Outbox_bound => k_is)
    (case l_Outbox_bound => k_is)
    (case e_Outbox_bound => k_is)
    (case k_Outbox_bound => k_is)
    (case a_Outbox_put_ => k_is)
    (case i_Outbox_put => k_is)
    (case l_Outbox_put => k_is)
    (case e_Outbox_put => k_is)
    (case k_Outbox_put => k_is)
    (case a_Outbox_urge_ => k_is)
    (case i_Outbox_urge => k_is)
    (case l_Outbox_urge => k_is)
    (case e_Outbox_urge => k_is)
    (case k_Outbox_urge => k_is)
    (case a_Outbox_shut_ => k_is)
    (case i_Outbox_shut => k_is)
    (case l_Outbox_shut => k_is)
    (case e_Outbox_shut => k_is)
    (case k_Outbox_shut => k_is)
    (case a_Outbox_cut_ => k_is)
    (case i_Outbox_cut => k_is)
    (case l_Outbox_cut => k_is)
    (case e_Outbox_cut => k_is)
    (case k_Outbox_cut => k_is)
    (case a_Outbox_release_ => k_is)
    (case i_Outbox_release => k_is)
    (case l_Outbox_release => k_is)
    (case e_Outbox_release => k_is)
    (case k_Outbox_release => k_is)
    (case a__law_box_ => k_is)
    (case l__law_box => k_is)
    (case e__law_box => k_is)
    (case k__law_box => k_is)
    (case a__law_draw_ => k_is)
    (case l__law_draw => k_is)
    (case e__law_draw => k_is)
    (case k__law_draw => k_is)
    (case a__law_is_whole_ => k_is)
    (case l__law_is_whole => k_is)
    (case e__law_is_whole => k_is)
    (case k__law_is_whole => k_is)
    (case a__law_bytes_ => k_is)
    (case l__law_bytes => k_is)
    (case e__law_bytes => k_is)
    (case k__law_bytes => k_is)
    (case a__law_tuple_is_ => k_is)
    (case l__law_tuple_is => k_is)
    (case e__law_tuple_is => k_is)
    (case k__law_tuple_is => k_is)
    (case a__law_receiver_ => k_is)
    (case l__law_receiver => k_is)
    (case e__law_receiver => k_is)
    (case k__law_receiver => k_is)
    (case a__law_next_ => k_is)
    (case l__law_next => k_is)
    (case e__law_next => k_is)
    (case k__law_next => k_is)
    (case a__law_sender_is_ => k_is)
    (case l__law_sender_is => k_is)
    (case e__law_sender_is => k_is)
    (case k__law_sender_is => k_is)
    (case a__law_receiver_is_ => k_is)
    (case l__law_receiver_is => k_is)
    (case e__law_receiver_is => k_is)
    (case k__law_receiver_is => k_is)
    (case a__law_writes_ => k_is)
    (case l__law_writes => k_is)
    (case e__law_writes => k_is)
    (case k__law_writes => k_is)
    (case a__law_cuts_ => k_is)
    (case l__law_cuts => k_is)
    (case e__law_cuts => k_is)
    (case k__law_cuts => k_is)
    (case a__law_arrives_ => k_is)
    (case l__law_arrives => k_is)
    (case e__law_arrives => k_is)
    (case k__law_arrives => k_is)
    (case a__law_delivers_ => k_is)
    (case l__law_delivers => k_is)
    (case e__law_delivers => k_is)
    (case k__law_delivers => k_is)
    (case a__law_reads_ => k_is)
    (case l__law_reads => k_is)
    (case e__law_reads => k_is)
    (case k__law_reads => k_is)
    (case a__law_releases_ => k_is)
    (case l__law_releases => k_is)
    (case e__law_releases => k_is)
    (case k__law_releases => k_is)
    (case a__law_deed_ => k_is)
    (case l__law_deed => k_is)
    (case e__law_deed => k_is)
    (case k__law_deed => k_is)
    (case a__law_brings_all_ => k_is)
    (case l__law_brings_all => k_is)
    (case e__law_brings_all => k_is)
    (case k__law_brings_all => k_is)
    (case a_law_ => k_is)
    (case l_law => k_is)
    (case e_law => k_is)
    (case k_law => k_is)
    (case z_NotImplemented => k_is)
    (case z_abs => k_is)
    (case z_bool => k_is)
    (case z_int => k_is)
    (case z_isinstance => k_is)
    (case z_len => k_is)
    (case z_list => k_is)
    (case z_max => k_is)
    (case z_min => k_is)
    (case z_property => k_is)
    (case z_range => k_is)
    (case z_reversed => k_is)
    (case z_sorted => k_is)
    (case z_sum => k_is)
    (case z_tuple => k_is)
    (case xm__InvalidNumber => decide +kernel)
    (case xm__InvalidSetting => decide +kernel)
    (case xm__NotAllowed => decide +kernel)
